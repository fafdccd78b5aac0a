/-
  For every input the law ModelOwn of rickyard/rickyardlaw13 returns true, and its arguments read afterwards as before. The law's own sentence: What is handed in is as it was. No further conditions.
-/
import Derived.Test.YtmajgfpfbieakaaRows
import Derived.Test.YtmajgfpfbieakaaKept
import Derived.Test.YtmajgfpfbieakaaShell
import Derived.Test.YtmajgfpfbieakaaShellSized
import Derived.SizedLaws
import Derived.Test.YtmajgfpfbieakaaShellInts
import Derived.WalkKit
import Derived.ProofKit
import Derived.OpenShut
import Derived.ChangeOld
import Derived.Below
import Derived.Lib.SmallJoins
import Derived.Test.YtmajgfpfbieakaaDeedsMade
import Derived.Test.YtmajgfpfbieakaaModelLaw
import Derived.WalkKit
import Derived.ProofKit
import Derived.OpenShut
import Derived.Outline
import Derived.Deep.Light
import Derived.Deep.QuietTactic
import Derived.BigQuiet
import Derived.IntWalk
import Derived.StillTailTactics
import Derived.RegionTactic
import Derived.Deep.RegionLaw
import Derived.Deep.RegionHeld3
import Derived.Test.YtmajgfpfbieakaaMadeMade
import Derived.Test.YtmajgfpfbieakaaModelAlloc
import Derived.Test.YtmajgfpfbieakaaModelFree
namespace Go.Proofs.Ytmajgfpfbieakaa.modelOwn
open Go.ChangeShapes Go.WideShapes Go.ChangeAt Go.RowKit
set_option linter.unusedVariables false
set_option maxRecDepth 100000

theorem own : ownKnob Try.prog.godebug = none := by kernel_rfl
theorem laidOut : laidOutB Try.prog = true := by kernel_rfl
theorem made_keptD {L : List Lm.D} {w w' : World} {v : Value} (h : Lm.MadeD L w v w') : Kept Old w w' := by
  obtain ⟨_, _, _, _, _, _, _, k⟩ := h
  exact k

set_option maxHeartbeats 3000000 in
/-- The walk: the Go text returns true, and nothing that was there has turned. -/
theorem walk (a0 : Option Addr) (len0 cap0 : Nat) (z0 : Nat → Int) (a1 : Int) (a2 : Int) (w : World) (w0 : len0 ≤ cap0 ∧ cap0 ≤ maxLen ∧ (∀ i, i < len0 → (Lit.int .u8 (z0 i)).wf = true) ∧ Sl w a0 1 len0 fun i _ => .int .u8 (z0 i)) (rch0 : cap0 * 1 ≤ 140737488351232 ∧ (a0 = none → len0 = 0 ∧ cap0 = 0)) (w1 : (Lit.int .u16 a1).wf = true) (w2 : (Lit.int .u16 a2).wf = true) :
    Calls Try.prog 8 #[.slice a0 len0 cap0, .int .u16 a1, .int .u16 a2] w fun e w' => e = .returned (.bool true) ∧ Kept Old w w' := by
  obtain ⟨n0, n1, nz, ns⟩ := w0
  have b1 := bounds_u16 w1
  have b2 := bounds_u16 w2
  obtain ⟨Q, hQ, q0, q1⟩ : ∃ Q : Int, a2.tmod 512 = Q ∧ 0 ≤ Q ∧ Q < 512 := ⟨_, Int.tmod_eq_emod_of_nonneg b2.1, by omega, by omega⟩
  have u1 : IntKind.i64.wrap a1 = a1 := IntWalk.i64_in _ (by omega)
  have u2 : IntKind.i64.wrap a2 = a2 := IntWalk.i64_in _ (by omega)
  have u4 : IntKind.i64.wrap (Q * 32) = Q * 32 := IntWalk.i64_in _ (by omega)
  have ml : len0 ≤ 9223372036854775000 := by have := rch0.1; omega
  have CM := Lib.hid (fun X h => Lm.made_any a0 len0 cap0 z0 X ml (fun i hi => bounds_u8 (nz i hi)) h)
  have CD := Lib.hid (fun X h => Lm.deeds_any 2048 a0 len0 cap0 z0 X ml (by omega) (by omega) (fun i hi => bounds_u8 (nz i hi)) h)
  have DL := Lm.deedsL_len 2048 z0 len0
  have MO := Lm.made_ok z0 len0 (fun i hi => (bounds_u8 (nz i hi)).1)
  have NS := Lib.hid ns
  generalize Lm.madeL z0 len0 = l at *
  generalize Lm.deedsL 2048 z0 len0 = ds at *
  have VM := Lib.hid MO.2
  have LM := MO.1
  clear n1 nz ns w1 w2 rch0 MO
  have IN := Lib.hid (show Lm.in64S (Q * 32) from ⟨by omega, by omega⟩)
  go_enter Try.func8, Try.ntmps8
  go_wp2_with fail
  refine (CM.out _ NS.out).mono ?_
  rintro e w1 ⟨v, rfl, M1⟩
  obtain ⟨A1, m1, c1, rfl, R1, hc1, hA1, k1⟩ := M1
  have K1 := Lib.hid k1
  have R1 := Lib.hid R1
  have hA1 := Lib.hid hA1
  have NS := Lib.hid (NS.out.old k1)
  clear k1
  go_wp2_with fail
  refine (CM.out _ NS.out).mono ?_
  rintro e w2 ⟨v, rfl, M2⟩
  obtain ⟨A2, m2, c2, rfl, R2, hc2, hA2, k2⟩ := M2
  have k2 := (k2.alloc (.cells #[.int .i64 16384, .slice A1 m1 c1] 24)).alloc (.cells #[.int .i64 16384, .slice A2 m2 c2] 24)
  have K2 := Lib.hid (K1.out.trans k2)
  have NS := Lib.hid (NS.out.old k2)
  have R1 := Lib.hid (R1.out.old k2)
  have R2 := Lib.hid (R2.old (Lm.kept2 w2 (.cells #[.int .i64 16384, .slice A1 m1 c1] 24) (.cells #[.int .i64 16384, .slice A2 m2 c2] 24)))
  have B1 := Lib.hid ((Lm.Bm.new w2 16384 (.slice A1 m1 c1)).alloc (.cells #[.int .i64 16384, .slice A2 m2 c2] 24))
  have B2 := Lib.hid (Lm.Bm.new2 w2 (.cells #[.int .i64 16384, .slice A1 m1 c1] 24) _ 16384 (.slice A2 m2 c2) rfl)
  clear k2 CM hA2
  go_wp2_with fail
  refine (CD.out _ NS.out).mono ?_
  rintro e w3 ⟨v, rfl, M3, O3⟩
  have k3 := made_keptD M3
  have K3 := Lib.hid (K2.out.trans k3)
  have NS := Lib.hid (NS.out.old k3)
  have R1 := Lib.hid (R1.out.old k3)
  have R2 := Lib.hid (R2.out.old k3)
  have B1 := Lib.hid (B1.out.old k3)
  have B2 := Lib.hid (B2.out.old k3)
  have O3 := Lib.hid O3
  obtain ⟨A3, c3, rfl, S3, hc3, hA3⟩ := O3.out.rs
  have S3 := Lib.hid S3
  clear k3 M3 O3
  go_wp2_with fail
  refine (CD.out _ NS.out).mono ?_
  rintro e w4 ⟨v, rfl, M4, O4⟩
  have k4 := made_keptD M4
  have K4 := Lib.hid (K3.out.trans k4)
  have R1 := Lib.hid (R1.out.old k4)
  have R2 := Lib.hid (R2.out.old k4)
  have B1 := Lib.hid (B1.out.old k4)
  have B2 := Lib.hid (B2.out.old k4)
  have S3 := Lib.hid (S3.out.old k4)
  have O4 := Lib.hid O4
  obtain ⟨A4, c4, rfl, S4, hc4, hA4⟩ := O4.out.rs
  have S4 := Lib.hid S4
  clear k4 M4 O4 CD NS
  have x0 := B1.out.c0
  have x1 := B1.out.c1
  go_wp2_with fail
  refine (Lm.alloc_any 16384 A1 m1 c1 l a1 (Q * 32) _ R1.out VM.out hc1 hA1.out.1 IN.out).mono ?_
  rintro e w5 ⟨v5, rfl, M5⟩
  have k5 := M5.kept
  have K5 := Lib.hid (K4.out.trans k5)
  have R1 := Lib.hid (R1.out.old k5)
  have R2 := Lib.hid (R2.out.old k5)
  have B1 := Lib.hid (B1.out.old k5)
  have B2 := Lib.hid (B2.out.old k5)
  have S3 := Lib.hid (S3.out.old k5)
  have S4 := Lib.hid (S4.out.old k5)
  have x0 := B1.out.c0
  have x1 := B1.out.c1
  clear k5 M5
  have l1 := Lib.hid R1.out.len
  have R1f := R1
  have R2f := R2
  have B1f := B1
  have B2f := B2
  have S3f := S3
  have S4f := S4
  have x0f := x0
  have x1f := x1
  by_cases z : m1 = 0
  · have z' : ¬ (0 : Int) < (m1 : Int) := by omega
    have z'' : ¬ 0 < m1 := by omega
    have K6 := Lib.hid K5.out
    clear z
    go_wp2_with fail
    with_reducible refine (Lm.accepts_any 16384 A1 m1 c1 l A3 ds.length c3 ds _ R1.out VM.out hc1 hA1.out.1 S3.out (by omega)).mono ?_
    rintro e w7 ⟨v7, rfl, M7⟩
    have k7 := M7.kept
    have K7 := Lib.hid (K6.out.trans k7)
    have R1 := Lib.hid (R1.out.old k7)
    have R2 := Lib.hid (R2.out.old k7)
    have B1 := Lib.hid (B1.out.old k7)
    have B2 := Lib.hid (B2.out.old k7)
    have S3 := Lib.hid (S3.out.old k7)
    have S4 := Lib.hid (S4.out.old k7)
    generalize v7 = vv at *
    clear k7 M7 x0 x1 K6
    go_wp2_with fail
    go_loopw [11] (fun ii wr => ∃ k : Nat, k ≤ ds.length ∧ ii = .int .i64 (k : Int) ∧ Hid (Kept Old w7 wr)) (fun ii _ => ds.length - (intOf ii).toNat)
    case atStart => exact ⟨0, by omega, rfl, Lib.hid (Kept.refl _ _)⟩
    case round =>
      obtain ⟨k, hk, rfl, KK⟩ := hrel
      rename World => V
      by_cases c : k < ds.length
      · obtain ⟨g, o, x, rfl, _, hx, _, d0, d1, d2, d3⟩ := (S3.out.old KK.out).get c
        obtain ⟨g', o', y, rfl, _, hy, _, e0, e1, e2, e3⟩ := (S4.out.old KK.out).get c
        obtain rfl : x = y := by rw [hx] at hy; injection hy
        have kn : (k : Int) < ((ds.length : Nat) : Int) := by omega
        have wk : IntKind.i64.wrap ((k : Int) + 1) = (k : Int) + 1 := IntWalk.i64_in _ (by omega)
        clear hx hy
        go_wp2_with fail
        go_quiet (fail)
        go_wp2
        refine ⟨⟨k + 1, by omega, by go_num, Lib.hid (KK.out.drewN _)⟩, ?_⟩
        simp [intOf]; omega
      · have kn : ¬ (k : Int) < ((ds.length : Nat) : Int) := by omega
        have R1 := Lib.hid (R1.out.old KK.out)
        have R2 := Lib.hid (R2.out.old KK.out)
        have B1 := Lib.hid (B1.out.old KK.out)
        have B2 := Lib.hid (B2.out.old KK.out)
        have K8 := Lib.hid (K7.out.trans KK.out)
        have x0 := B1.out.c0
        have x1 := B1.out.c1
        have y0 := B2.out.c0
        have y1 := B2.out.c1
        have SM := Lib.hid (fun X a b => Lm.samem_yes 16384 A1 A2 m1 m2 c1 c2 l X a b (by have := R1.out.len; omega))
        go_wp2_with (first
          | (go_at_call 17; refine (SM.out _ R1.out R2.out).mono ?_; rintro e w10 ⟨rfl, k10⟩; have K10 := Lib.hid (K8.out.trans k10))
          | (go_at_call 9; refine (Lm.awake_any _).mono ?_; rintro e w11 ⟨rfl, k11⟩; have K11 := Lib.hid (K10.out.trans k11)))
        go_ret
        exact ⟨rfl, K11.out⟩
  · have z' : (0 : Int) < (m1 : Int) := by omega
    have z'' : 0 < m1 := by omega
    have z3 : (m1 : Int) ≠ 0 := by omega
    obtain ⟨id, hid, hidn⟩ : ∃ id : Nat, a2.tmod (m1 : Int) = (id : Int) ∧ id < m1 := by
      have q0 := Int.emod_nonneg a2 z3
      have q1 := Int.emod_lt_of_pos a2 z'
      refine ⟨(a2 % (m1 : Int)).toNat, ?_, by omega⟩
      rw [Int.tmod_eq_emod_of_nonneg b2.1]
      omega
    have idn : (id : Int) < (m1 : Int) := by omega
    obtain ⟨g, o, x, rfl, hg, hx, _, d0, d1, d2⟩ := R1.out.get hidn
    have FA := Lib.hid (fun X (q : Kept Old w5 X) => Lm.free_any 16384 (some ⟨g, o, none⟩) m1 c1 l x.a X (R1f.out.old q) VM.out hc1)
    have R1 := R1f
    have R2 := R2f
    have B1 := B1f
    have B2 := B2f
    have S3 := S3f
    have S4 := S4f
    have x0 := x0f
    have x1 := x1f
    have z4 : m1 ≠ 0 := by omega
    clear hx z d1 d2
    go_wp2_with fail
    go_region_held3 (fun w' => w'.cell? ⟨w2.heap.size, 0, none⟩ = some (.int .i64 16384) ∧ w'.cell? ⟨w2.heap.size, 1, none⟩ = some (.slice (some ⟨g, o, none⟩) m1 c1) ∧ w'.cell? ⟨g, o + id * 3, none⟩ = some (.int .i64 x.a))
      (first
        | (exact ⟨‹_›, ‹_›, ‹_›⟩)
        | (exact ⟨Lm.cell_on k6 x0, Lm.cell_on k6 x1, Lm.cell_on k6 d0⟩)
        | go_keep)
      (first
        | (go_at_call 23; ((with_reducible refine (FA.out _ (Kept.refl Old w5).drew).mono ?_); rintro e w6 ⟨v6, rfl, M6⟩; have k6 : Kept Old w5 w6 := Kept.trans (Kept.refl Old w5).drew M6.kept; clear M6)))
    have K6 := Lib.hid (K5.out.trans k6)
    have R1 := Lib.hid (R1.out.old k6)
    have R2 := Lib.hid (R2.out.old k6)
    have B1 := Lib.hid (B1.out.old k6)
    have B2 := Lib.hid (B2.out.old k6)
    have S3 := Lib.hid (S3.out.old k6)
    have S4 := Lib.hid (S4.out.old k6)
    have x0 := B1.out.c0
    have x1 := B1.out.c1
    clear k6 FA
    go_wp2_with fail
    with_reducible refine (Lm.accepts_any 16384 (some ⟨g, o, none⟩) m1 c1 l A3 ds.length c3 ds _ R1.out VM.out hc1 hA1.out.1 S3.out (by omega)).mono ?_
    rintro e w7 ⟨v7, rfl, M7⟩
    have k7 := M7.kept
    have K7 := Lib.hid (K6.out.trans k7)
    have R1 := Lib.hid (R1.out.old k7)
    have R2 := Lib.hid (R2.out.old k7)
    have B1 := Lib.hid (B1.out.old k7)
    have B2 := Lib.hid (B2.out.old k7)
    have S3 := Lib.hid (S3.out.old k7)
    have S4 := Lib.hid (S4.out.old k7)
    generalize v7 = vv at *
    clear k7 M7 x0 x1 K6
    go_wp2_with fail
    go_loopw [11] (fun ii wr => ∃ k : Nat, k ≤ ds.length ∧ ii = .int .i64 (k : Int) ∧ Hid (Kept Old w7 wr)) (fun ii _ => ds.length - (intOf ii).toNat)
    case atStart => exact ⟨0, by omega, rfl, Lib.hid (Kept.refl _ _)⟩
    case round =>
      obtain ⟨k, hk, rfl, KK⟩ := hrel
      rename World => V
      by_cases c : k < ds.length
      · obtain ⟨g, o, x, rfl, _, hx, _, d0, d1, d2, d3⟩ := (S3.out.old KK.out).get c
        obtain ⟨g', o', y, rfl, _, hy, _, e0, e1, e2, e3⟩ := (S4.out.old KK.out).get c
        obtain rfl : x = y := by rw [hx] at hy; injection hy
        have kn : (k : Int) < ((ds.length : Nat) : Int) := by omega
        have wk : IntKind.i64.wrap ((k : Int) + 1) = (k : Int) + 1 := IntWalk.i64_in _ (by omega)
        clear hx hy
        go_wp2_with fail
        go_quiet (fail)
        go_wp2
        refine ⟨⟨k + 1, by omega, by go_num, Lib.hid (KK.out.drewN _)⟩, ?_⟩
        simp [intOf]; omega
      · have kn : ¬ (k : Int) < ((ds.length : Nat) : Int) := by omega
        have R1 := Lib.hid (R1.out.old KK.out)
        have R2 := Lib.hid (R2.out.old KK.out)
        have B1 := Lib.hid (B1.out.old KK.out)
        have B2 := Lib.hid (B2.out.old KK.out)
        have K8 := Lib.hid (K7.out.trans KK.out)
        have x0 := B1.out.c0
        have x1 := B1.out.c1
        have y0 := B2.out.c0
        have y1 := B2.out.c1
        have SM := Lib.hid (fun X a b => Lm.samem_yes 16384 (some ⟨g, o, none⟩) A2 m1 m2 c1 c2 l X a b (by have := R1.out.len; omega))
        go_wp2_with (first
          | (go_at_call 17; refine (SM.out _ R1.out R2.out).mono ?_; rintro e w10 ⟨rfl, k10⟩; have K10 := Lib.hid (K8.out.trans k10))
          | (go_at_call 9; refine (Lm.awake_any _).mono ?_; rintro e w11 ⟨rfl, k11⟩; have K11 := Lib.hid (K10.out.trans k11)))
        go_ret
        exact ⟨rfl, K11.out⟩

/-- The row's step. -/
theorem lifted (os : Os) (started : os.Started) (H : Type) (enc : TypeId × Value → H) :
    ReturnsInHanded {} Try.checked os 8 .any (Rows.modelOwnSpec.pre6 enc Try.prog Try.f8 Rows.modelOwnRow.domain false) (Rows.modelOwnSpec.post enc Try.prog Try.f8 false true false false) := by
  refine returnsInHanded_of_change_sized (C := Try.checked) own started (by kernel_rfl) Try.func8
    (ChangeSpec.witness6 (enc := enc) (C := Try.checked) false ⟨#[], #[.slice none 0 0, .int .u16 0, .int .u16 0], []⟩ 8 (by kernel_rfl) (by kernel_rfl) (by kernel_rfl) (by kernel_rfl)) ?_
  intro W base args ds gs before hval0 hW hcnd hsz0 _
  have hsz : (DataW.weightsEach Try.prog (Try.f8.params.toList ++ Rows.modelOwnSpec.plain.varTypes Try.prog) (ds ++ gs)).all (· ≤ reachBytes) = true := hsz0
  have hval : ∀ (j : Nat) t v, Try.f8.params[j]? = some t → args[j]? = some v → Value.okWide Try.prog W .any base t v := hval0
  have hW' := hW
  obtain ⟨p, q, hA0, hV, rfl, hfz, hnd⟩ := hW
  have hA : DataW.TrodAll enc Try.prog W 0 (fun _ => true) true Try.f8.params.toList args.toList ds p := hA0
  rw [Try.params8] at hA hval hsz
  obtain ⟨v0, vs0, d0, ds0, p0, q0, hargs, rfl, rfl, h0, r0⟩ := trodAll_cons hA
  obtain ⟨v1, vs1, d1, ds1, p1, q1, rfl, rfl, rfl, h1, r1⟩ := trodAll_cons r0
  obtain ⟨v2, vs2, d2, ds2, p2, q2, rfl, rfl, rfl, h2, r2⟩ := trodAll_cons r1
  obtain ⟨rfl, rfl, rfl⟩ := trodAll_nil r2
  obtain rfl : args = #[v0, v1, v2] := by cases args; simp_all
  obtain ⟨rfl, rfl⟩ := trodVars_none hV
  have k0 := h0
  have lt0 : ∀ x ∈ p0, x.block < W.heap.size := by obtain ⟨m, hm⟩ := k0; exact DataW.trod_lt m _ _ _ hm
  obtain ⟨a0, len0, cap0, rfl⟩ := okWide_slice Try.underlying29 (hval 0 29 v0 rfl rfl)
  obtain ⟨z0, w0⟩ := ints_in Try.underlying29 Try.underlying5 (by kernel_rfl) h0
  have rch0 := slice_reach (j := 0) Try.underlying29 (show Try.prog.bytesOf 5 = 1 by kernel_rfl) k0 hsz rfl rfl
  obtain ⟨a1, rfl, rfl, rfl, w1⟩ := open_int Try.underlying28 (hval 1 28 v1 rfl rfl) h1
  obtain ⟨a2, rfl, rfl, rfl, w2⟩ := open_int Try.underlying28 (hval 2 28 v2 rfl rfl) h2
  clear hA0 hval0
  refine (walk a0 len0 cap0 z0 a1 a2 W w0 rch0 w1 w2).mono fun e W' ⟨he, kept⟩ => ?_
  subst he
  have bel : Below W.heap.size W W' := kept.toBelow (Nat.le_refl _) (fun _ x => x.elim)
  exact ⟨_, rfl, _, _, _, [], _, [], hW', trodAll_mk1 (shut_bool Try.underlying4 _), (trodAll_cons_mk (Below.trod laidOut (by kernel_rfl) (of_decide_eq_true (by kernel_rfl)) k0 bel lt0) (trodAll_cons_mk (shut_int Try.underlying28 w1) (trodAll_cons_mk (shut_int Try.underlying28 w2) trodAll_mk0))), rfl, bel.frame _, fun h => by cases h⟩

theorem over : Rows.ModelOwnSaid :=
  OpenClaim.holds_of_wide 8 Try.f8 rfl rfl rfl rfl rfl rfl rfl ⟨rfl, rfl, rfl, rfl, rfl⟩ rfl rfl rfl rfl rfl (by kernel_rfl) Try.func8 (by kernel_rfl)
    (of_decide_eq_true (by kernel_rfl)) (by unfold Func.isWrapper; first | (rw [if_pos (by decide +kernel)]; kernel_rfl) | (rw [if_neg (by decide +kernel)]; exact ⟨rfl, rfl⟩))
    (fun os started H enc _ => lifted os started H enc)

/-- The statement. -/
theorem proved : Rows.ModelOwnSaid := over
#print axioms proved
end Go.Proofs.Ytmajgfpfbieakaa.modelOwn
