/-
  For every input the law ModelAccepts of rickyard/rickyardlaw13 returns true, and its arguments read afterwards as before. The law's own sentence: How far any deeds are accepted, and the model there, are the document's. No further conditions.
-/
import Derived.Test.YtginfnamagjmjaaRows
import Derived.Test.YtginfnamagjmjaaKept
import Derived.Test.YtginfnamagjmjaaShell
import Derived.Test.YtginfnamagjmjaaModelMem
import Derived.Test.YtginfnamagjmjaaShellSized
import Derived.SizedLaws
import Derived.Test.YtginfnamagjmjaaShellInts
import Derived.WalkKit
import Derived.ProofKit
import Derived.OpenShut
import Derived.ChangeOld
import Derived.Below
import Derived.Lib.SmallJoins
import Derived.Test.YtginfnamagjmjaaDeedsMade
import Derived.Test.YtginfnamagjmjaaModelLaw
import Derived.WalkKit
import Derived.ProofKit
import Derived.OpenShut
import Derived.Outline
import Derived.Deep.Light
import Derived.Deep.QuietTactic
import Derived.BigQuiet
import Derived.IntWalk
import Derived.StillTailTactics
import Derived.RegionTactic
import Derived.Deep.RegionLaw
import Derived.Deep.RegionHeld3
namespace Go.Proofs.Ytginfnamagjmjaa.modelAccepts
open Go.ChangeShapes Go.WideShapes Go.ChangeAt Go.RowKit
set_option linter.unusedVariables false
set_option maxRecDepth 100000

theorem own : ownKnob Try.prog.godebug = none := by kernel_rfl
theorem laidOut : laidOutB Try.prog = true := by kernel_rfl
theorem made_kept {L : List Lm.D} {w w' : World} {v : Value} (h : Lm.MadeD L w v w') : Kept Old w w' := by
  obtain ⟨_, _, _, _, _, _, _, k⟩ := h
  exact k
theorem own_down {w : World} {B B' : Nat} {v : Value} {n : Nat} {l : List Lm.D} (h : Lm.OwD w B v n l) (hB : B' ≤ B) : Lm.OwD w B' v n l :=
  ⟨⟨h.row.1, by
    rcases h.row.2 with q | ⟨g, cap, cur, e, hb, rest⟩
    · exact .inl q
    · exact .inr ⟨g, cap, cur, e, Nat.le_trans hB hb, rest⟩⟩, h.fit⟩

set_option maxHeartbeats 2000000 in
/-- The walk: the Go text returns true, and nothing that was there has turned. -/
theorem walk (a0 : Int) (a1 : Option Addr) (len1 cap1 : Nat) (z1 : Nat → Int) (a2 : Option Addr) (len2 cap2 : Nat) (l2 : List Lm.D) (w : World) (w0 : (Lit.int .u16 a0).wf = true) (w1 : len1 ≤ cap1 ∧ cap1 ≤ maxLen ∧ (∀ i, i < len1 → (Lit.int .u8 (z1 i)).wf = true) ∧ Sl w a1 1 len1 fun i _ => .int .u8 (z1 i)) (rch1 : cap1 * 1 ≤ 140737488351232 ∧ (a1 = none → len1 = 0 ∧ cap1 = 0)) (w2 : len2 ≤ cap2 ∧ cap2 ≤ maxLen ∧ (a2 = none → cap2 = 0) ∧ Lm.RsD w a2 len2 l2) :
    Calls Try.prog 4 #[.int .u16 a0, .slice a1 len1 cap1, .slice a2 len2 cap2] w fun e w' => e = .returned (.bool true) ∧ Kept Old w w' := by
  obtain ⟨v0, v1, v2, v3⟩ := w2
  obtain ⟨n0, n1, nz, ns⟩ := w1
  have b0 := bounds_u16 w0
  have HR := Lib.hid v3
  have hA := Lib.hid v2
  by_cases hn : len2 ≤ 200
  · have hn2 : ¬ (200 : Int) < (len2 : Int) := by omega
    obtain ⟨Wd, hW, hW'⟩ : ∃ R : Int, a0.tmod 16385 = R ∧ a0 % 16385 = R := ⟨_, Int.tmod_eq_emod_of_nonneg b0.1, rfl⟩
    have wd0 : 0 ≤ Wd := by omega
    have wd1 : Wd ≤ 16384 := by omega
    have u0 : IntKind.i64.wrap a0 = a0 := IntWalk.i64_in _ (by omega)
    have ml : len1 ≤ 9223372036854775000 := by have := rch1.1; omega
    have CD := Lib.hid (fun X h => Lm.deeds_any Wd a1 len1 cap1 z1 X ml wd0 wd1 (fun i hi => bounds_u8 (nz i hi)) h)
    have DL := Lm.deedsL_len Wd z1 len1
    have NS := Lib.hid ns
    generalize Lm.deedsL Wd z1 len1 = ds at *
    have VN := Lib.hid (Lm.Valid.nil wd0 wd1)
    have ML := Lib.hid (show (Lm.accM Wd [] (ds ++ l2)).length ≤ 1000 from by have := (Lm.Valid.accM (ds ++ l2) VN.out).len; omega)
    clear v1 v2 v3 n1 nz ns hW' b0 w0
    go_enter Try.func4, Try.ntmps4
    go_wp2_with (first
      | (go_at_call 13; refine (CD.out _ NS.out).mono ?_; rintro e w1 ⟨v, rfl, M1, O1⟩; have k1 := made_kept M1; clear M1; have K1 := Lib.hid k1; have O1 := Lib.hid (own_down O1 (Nat.le_succ w.heap.size)); have R2 := Lib.hid (HR.out.old k1); have hl2 : l2.length = len2 := R2.out.len; clear k1)
      | (at_builtin; go_loud (refine Lm.appD_wp rfl (.tmp 24) (.tmp 25) rfl rfl w.heap.size v ds.length ds rfl O1.out a2 len2 cap2 l2 rfl R2.out (fun e => ⟨by have := hA.out e; omega, hA.out e⟩) (by omega) (by omega) K1.out.size (ds.length + len2) rfl (ds ++ l2) rfl ?_; intro v4 w4 O4 k4 a4; obtain ⟨A4, c4, rfl, r4, hc4, hA4⟩ := O4.out.rs; have K4 := Lib.hid (O1.out.step K1.out k4.out); have r4 := Lib.hid r4; clear k4 a4)))
    refine (Lm.new_any Wd _).mono ?_
    rintro e w5 ⟨rfl, k5⟩
    have K5 := Lib.hid (K4.out.trans k5)
    have r5 := Lib.hid (r4.out.old k5)
    clear k5
    go_wp2_with fail
    refine (Lm.accepts_any Wd none 0 0 [] A4 (ds.length + len2) c4 (ds ++ l2) _ (Lm.RsS.nil _ _) VN.out (Nat.le_refl _) (fun _ => rfl) r5.out (by omega)).mono ?_
    rintro e w6 ⟨v6, rfl, A6, n6, c6, rfl, T6, hc6, q6, k6⟩
    have k6 := k6.alloc (.cells #[.int .i64 Wd, .slice A6 n6 c6] 24)
    have K6 := Lib.hid (K5.out.trans k6)
    have r6 := Lib.hid (r5.out.old k6)
    have T6 := Lib.hid (T6.alloc (.cells #[.int .i64 Wd, .slice A6 n6 c6] 24))
    have B6 := Lib.hid (Lm.Bm.new w6 Wd (.slice A6 n6 c6))
    clear k6
    go_wp2_with fail
    refine (Lm.raccepts_any Wd none 0 0 [] A4 (ds.length + len2) c4 (ds ++ l2) _ (Lm.RsS.nil _ _) VN.out (Nat.le_refl _) (fun _ => rfl) r6.out (by omega)).mono ?_
    rintro e w7 ⟨A7, n7, c7, rfl, T7, hc7, q7, k7⟩
    have k7 := k7.alloc (.cells #[.int .i64 Wd, .slice A7 n7 c7] 24)
    have K7 := Lib.hid (K6.out.trans k7)
    have T6 := Lib.hid (T6.out.old k7)
    have B6 := Lib.hid (B6.out.old k7)
    have T7 := Lib.hid (T7.alloc (.cells #[.int .i64 Wd, .slice A7 n7 c7] 24))
    have B7 := Lib.hid (Lm.Bm.new w7 Wd (.slice A7 n7 c7))
    have y0 := B6.out.c0
    have y1 := B6.out.c1
    have z0 := B7.out.c0
    have z1' := B7.out.c1
    clear k7
    generalize Lm.accK Wd [] (ds ++ l2) = KK at *
    generalize Lm.accF Wd [] (ds ++ l2) = FF at *
    go_wp2_with fail
    refine (Lm.samem_yes Wd A6 A7 n6 n7 c6 c7 _ _ T6.out T7.out (by have := T6.out.len; have := ML.out; omega)).mono ?_
    rintro e w8 ⟨rfl, k8⟩
    have K8 := Lib.hid (K7.out.trans k8)
    go_wp2_with (go_at_call 9; refine (Lm.awake_any _).mono ?_; rintro e w9 ⟨rfl, k9⟩; have K9 := Lib.hid (K8.out.trans k9))
    go_ret
    exact ⟨rfl, K9.out⟩
  · have hn2 : (200 : Int) < (len2 : Int) := by omega
    go_enter Try.func4, Try.ntmps4
    go_wp2_with (go_at_call 9; refine (Lm.awake_any _).mono ?_; rintro e w5 ⟨rfl, k5⟩; have k5 := Lib.hid k5)
    go_ret
    exact ⟨rfl, k5.out⟩

/-- The row's step. -/
theorem lifted (os : Os) (started : os.Started) (H : Type) (enc : TypeId × Value → H) :
    ReturnsInHanded {} Try.checked os 4 .any (Rows.modelAcceptsSpec.pre6 enc Try.prog Try.f4 Rows.modelAcceptsRow.domain false) (Rows.modelAcceptsSpec.post enc Try.prog Try.f4 false true false false) := by
  refine returnsInHanded_of_change_sized (C := Try.checked) own started (by kernel_rfl) Try.func4
    (ChangeSpec.witness6 (enc := enc) (C := Try.checked) false ⟨#[], #[.int .u16 0, .slice none 0 0, .slice none 0 0], []⟩ 8 (by kernel_rfl) (by kernel_rfl) (by kernel_rfl) (by kernel_rfl)) ?_
  intro W base args ds gs before hval0 hW hcnd hsz0 _
  have hsz : (DataW.weightsEach Try.prog (Try.f4.params.toList ++ Rows.modelAcceptsSpec.plain.varTypes Try.prog) (ds ++ gs)).all (· ≤ reachBytes) = true := hsz0
  have hval : ∀ (j : Nat) t v, Try.f4.params[j]? = some t → args[j]? = some v → Value.okWide Try.prog W .any base t v := hval0
  have hW' := hW
  obtain ⟨p, q, hA0, hV, rfl, hfz, hnd⟩ := hW
  have hA : DataW.TrodAll enc Try.prog W 0 (fun _ => true) true Try.f4.params.toList args.toList ds p := hA0
  rw [Try.params4] at hA hval hsz
  obtain ⟨v0, vs0, d0, ds0, p0, q0, hargs, rfl, rfl, h0, r0⟩ := trodAll_cons hA
  obtain ⟨v1, vs1, d1, ds1, p1, q1, rfl, rfl, rfl, h1, r1⟩ := trodAll_cons r0
  obtain ⟨v2, vs2, d2, ds2, p2, q2, rfl, rfl, rfl, h2, r2⟩ := trodAll_cons r1
  obtain ⟨rfl, rfl, rfl⟩ := trodAll_nil r2
  obtain rfl : args = #[v0, v1, v2] := by cases args; simp_all
  obtain ⟨rfl, rfl⟩ := trodVars_none hV
  obtain ⟨a0, rfl, rfl, rfl, w0⟩ := open_int Try.underlying28 (hval 0 28 v0 rfl rfl) h0
  have k1 := h1
  have lt1 : ∀ x ∈ p1, x.block < W.heap.size := by obtain ⟨m, hm⟩ := k1; exact DataW.trod_lt m _ _ _ hm
  obtain ⟨a1, len1, cap1, rfl⟩ := okWide_slice Try.underlying29 (hval 1 29 v1 rfl rfl)
  obtain ⟨z1, w1⟩ := ints_in Try.underlying29 Try.underlying5 (by kernel_rfl) h1
  have rch1 := slice_reach (j := 1) Try.underlying29 (show Try.prog.bytesOf 5 = 1 by kernel_rfl) k1 hsz rfl rfl
  have k2 := h2
  have lt2 : ∀ x ∈ p2, x.block < W.heap.size := by obtain ⟨m, hm⟩ := k2; exact DataW.trod_lt m _ _ _ hm
  obtain ⟨a2, len2, cap2, rfl⟩ := okWide_slice Try.underlying30 (hval 2 30 v2 rfl rfl)
  obtain ⟨l2, w2⟩ := Lm.quads_in h2
  clear hA0 hval0
  refine (walk a0 a1 len1 cap1 z1 a2 len2 cap2 l2 W w0 w1 rch1 w2).mono fun e W' ⟨he, kept⟩ => ?_
  subst he
  have bel : Below W.heap.size W W' := kept.toBelow (Nat.le_refl _) (fun _ x => x.elim)
  exact ⟨_, rfl, _, _, _, [], _, [], hW', trodAll_mk1 (shut_bool Try.underlying4 _), (trodAll_cons_mk (shut_int Try.underlying28 w0) (trodAll_cons_mk (Below.trod laidOut (by kernel_rfl) (of_decide_eq_true (by kernel_rfl)) k1 bel lt1) (trodAll_cons_mk (Below.trod laidOut (by kernel_rfl) (of_decide_eq_true (by kernel_rfl)) k2 bel lt2) trodAll_mk0))), rfl, bel.frame _, fun h => by cases h⟩

theorem over : Rows.ModelAcceptsSaid :=
  OpenClaim.holds_of_wide 4 Try.f4 rfl rfl rfl rfl rfl rfl rfl ⟨rfl, rfl, rfl, rfl, rfl⟩ rfl rfl rfl rfl rfl (by kernel_rfl) Try.func4 (by kernel_rfl)
    (of_decide_eq_true (by kernel_rfl)) (by unfold Func.isWrapper; first | (rw [if_pos (by decide +kernel)]; kernel_rfl) | (rw [if_neg (by decide +kernel)]; exact ⟨rfl, rfl⟩))
    (fun os started H enc _ => lifted os started H enc)

/-- The statement. -/
theorem proved : Rows.ModelAcceptsSaid := over
#print axioms proved
end Go.Proofs.Ytginfnamagjmjaa.modelAccepts
