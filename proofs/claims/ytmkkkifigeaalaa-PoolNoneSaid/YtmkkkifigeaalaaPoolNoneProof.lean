/-
  For every input the law PoolNone of rickyard/rickyardlaw10 returns true, and its arguments read afterwards as before. The law's own sentence: Of no pool, and without an arena, each call says so; what is refused has changed nothing. No further conditions.
-/
import Derived.Test.YtmkkkifigeaalaaRows
import Derived.Test.YtmkkkifigeaalaaKept
import Derived.Test.YtmkkkifigeaalaaShell
import Derived.WalkKit
import Derived.ProofKit
import Derived.OpenShut
import Derived.ChangeOld
import Derived.Below
import Derived.Lib.SmallJoins
import Derived.Test.YtmkkkifigeaalaaPoolSt
import Derived.Test.YtmkkkifigeaalaaIntSame
namespace Go.Proofs.Ytmkkkifigeaalaa.poolNone
open Go.ChangeShapes Go.WideShapes Go.ChangeAt Go.RowKit
set_option linter.unusedVariables false
set_option maxRecDepth 100000

theorem own : ownKnob Try.prog.godebug = none := by kernel_rfl
theorem laidOut : laidOutB Try.prog = true := by kernel_rfl
open Prt
/-- What the law's calls answer. -/
theorem facts (c : Nat) (h : c < 4) : addC 16 [] 3 = 0 ∧ addC 16 (addL 16 c [] 3) 8 = 4 ∧ addL 16 c (addL 16 c [] 3) 8 = addL 16 c [] 3 ∧ putC c (addL 16 c [] 3) 192 = 4 ∧ putL c (addL 16 c [] 3) 192 = addL 16 c [] 3 := by
  have e : addL 16 c [] 3 = [⟨3, allQ c 3⟩] := rfl
  have e2 : putR c [⟨3, allQ c 3⟩] 192 = ((0, false, 4), [⟨3, allQ c 3⟩]) := by
    have hm : (192 : Nat) ∈ allQ c 3 := List.mem_map.2 ⟨0, List.mem_range.2 (per_pos h).1, by simp [stk]⟩
    have ha : atB c 3 192 = true := allQ_at (page := 3) h 192 hm
    rw [putR_at (L := [⟨3, allQ c 3⟩]) (k := 0) (x := ⟨3, allQ c 3⟩) (fun _ h => (by cases h)) rfl ha]
    exact if_pos hm
  refine ⟨rfl, rfl, rfl, ?_, ?_⟩
  · unfold putC; rw [e, e2]
  · unfold putL; rw [e, e2]
theorem add_high (c : Nat) (L : List Q) (q : Int) (h : 8 < q) : addC 16 L q = 1 ∧ addL 16 c L q = L := by
  unfold addC addL
  rw [if_pos (by omega), if_pos (by omega)]
  exact ⟨rfl, rfl⟩
theorem add_low (c : Nat) (L : List Q) : addC 16 L (-1) = 1 ∧ addL 16 c L (-1) = L := by
  unfold addC addL
  rw [if_pos (by omega), if_pos (by omega)]
  exact ⟨rfl, rfl⟩

set_option maxHeartbeats 8000000 in
/-- The walk: the Go text returns true, and nothing that was there has turned. -/
theorem walk (a0 : Int) (a1 : Int) (a2 : Int) (w : World) (w0 : (Lit.int .i64 a0).wf = true) (w1 : (Lit.int .i64 a1).wf = true) (w2 : (Lit.int .u8 a2).wf = true) :
    Calls Try.prog 8 #[.int .i64 a0, .int .i64 a1, .int .u8 a2] w fun e w' => e = .returned (.bool true) ∧ Kept Old w w' := by
  have b0 := bounds_i64 w0
  have b1 := bounds_i64 w1
  have b2 := bounds_u8 w2
  obtain ⟨u, rfl⟩ : ∃ u : Nat, a2 = (u : Int) := ⟨a2.toNat, by omega⟩
  obtain ⟨c, hcu⟩ : ∃ c : Nat, u % 4 = c := ⟨_, rfl⟩
  have hc : c < 4 := by omega
  have rm : (u : Int) % 4 = (c : Int) := by omega
  obtain ⟨f1, f2, f3, f4, f5⟩ := facts c hc
  have F1 := Lib.hid f1
  have F2 := Lib.hid f2
  have F3 := Lib.hid f3
  have F4 := Lib.hid f4
  have F5 := Lib.hid f5
  have hN := Lib.hid (new_yes 16 w (by omega) (by omega))
  obtain ⟨z, mx, z1⟩ : ∃ z : Nat, (∀ W, (Builtin.max_ #[3, 3] 3 #[.int .i64 a0, .int .i64 0]).run Try.prog W = .ok (.int .i64 (z : Int)) W) ∧ (z : Int) ≤ 9223372036854775807 := by
    refine ⟨(if (0 : Int) > a0 then 0 else a0).toNat, fun W => (run_max_int2 _ _ _ _ _ _ _).trans ?_, by split <;> omega⟩
    congr 2
    split <;> omega
  have z2 : IntKind.i64.wrap (9 + (z : Int) % 1000) = 9 + (z : Int) % 1000 := IntWalk.i64_in _ (by omega)
  have H := Lib.hid (fun (L : List Q) => add_high c L (9 + (z : Int) % 1000) (by omega))
  clear f1 f2 f3 f4 f5 w0 w1 w2 hcu
  go_enter Try.func8, Try.ntmps8
  go_wp2_with fail
  refine hN.out.mono ?_
  rintro e w1 ⟨a, g, rfl, a1, k1, ha, hg⟩
  have A1 := Lib.hid a1
  have K1 := Lib.hid k1
  clear a1 k1 hN
  go_wp2_with fail
  refine (pnew_yes w.heap.size c w1 hc K1.out.size).mono ?_
  rintro e w2 ⟨p, rfl, T2, k2, hp⟩
  have S := Lib.hid (StP.new (F := fun _ => False) A1.out K1.out ha hg T2 k2 hc (by omega) (fun b h => h.elim))
  clear A1 K1 T2 k2
  go_wp2_with fail
  refine (st_add 3 S.out).mono ?_
  rintro e w3 ⟨rfl, s3, k3⟩
  rw [F1.out]
  have S := Lib.hid s3
  clear s3 k3
  go_wp2_with fail
  refine (st_free S.out).mono ?_
  rintro e w4 ⟨v4, rfl, A4, n4, c4, rfl, r4, hc4, ⟨hA4, hnew⟩, k4⟩
  have r4 : RsI w4 (if n4 = 0 then none else A4) n4 (NI (freeL (addL 16 c [] 3))) := by
    by_cases n0 : n4 = 0
    · rw [if_pos n0]; exact ⟨r4.len, r4.fit, fun h => by omega⟩
    · rw [if_neg n0]; exact r4
  have n4e := r4.len
  have n4l : n4 ≤ 1000 := by
    have := freeL_len S.out.good
    have := S.out.len
    rw [NI_length] at n4e
    omega
  have R4 := Lib.hid r4
  have S := Lib.hid (S.out.more (G := fun b => ∃ ad, (if n4 = 0 then none else A4) = some ad ∧ b = ad.block) k4 (fun b hb => by
    obtain ⟨ad, e, rfl⟩ := hb
    by_cases n0 : n4 = 0
    · rw [if_pos n0] at e; cases e
    · rw [if_neg n0] at e
      obtain ⟨g4, o4, e4, l4, _⟩ := r4.lies (by omega)
      rw [if_neg n0, e] at e4
      injection e4 with e4
      refine .inr ⟨hnew ad e, by rw [e4]; exact l4⟩))
  have keep := Lib.hid (show ∀ (W W' : World), RsI W (if n4 = 0 then none else A4) n4 (NI (freeL (addL 16 c [] 3))) → Kept (Fr fun b => ∃ ad, (if n4 = 0 then none else A4) = some ad ∧ b = ad.block) W W' → RsI W' (if n4 = 0 then none else A4) n4 (NI (freeL (addL 16 c [] 3))) from fun W W' r k => r.kept k (fun ad e z => z ⟨ad, e, rfl⟩))
  clear r4 k4 hnew hA4 n4e
  go_wp2_with fail
  refine (take_nil _).mono ?_
  rintro e w' ⟨rfl, rfl⟩
  go_wp2_with fail
  refine (put_nil _ _).mono ?_
  rintro e w' ⟨rfl, rfl⟩
  go_wp2_with fail
  refine (take_na _).mono ?_
  rintro e w' ⟨rfl, rfl⟩
  go_wp2_with fail
  refine (put_na _ _).mono ?_
  rintro e w' ⟨rfl, rfl⟩
  go_wp2_with fail
  refine (add_nil _ _).mono ?_
  rintro e w' ⟨rfl, rfl⟩
  go_wp2_with fail
  refine (spans_nil _).mono ?_
  rintro e w' ⟨rfl, rfl⟩
  go_wp2_with fail
  refine (free_nil _).mono ?_
  rintro e w' ⟨rfl, rfl⟩
  go_wp2_with fail
  refine (plen_nil _).mono ?_
  rintro e w' ⟨rfl, rfl⟩
  go_wp2_with fail
  refine (add_na _ _).mono ?_
  rintro e w' ⟨rfl, rfl⟩
  go_wp2_with fail
  refine (free_na _).mono ?_
  rintro e w' ⟨rfl, rfl⟩
  go_wp2_with fail
  refine (st_put 192 S.out).mono ?_
  rintro e w5 ⟨rfl, s5, k5⟩
  rw [F4.out]
  rw [F5.out] at s5
  have S := Lib.hid s5
  have R4 := Lib.hid (keep.out _ _ R4.out k5)
  clear s5 k5
  go_wp2_with fail
  refine (st_add 8 S.out).mono ?_
  rintro e w6 ⟨rfl, s6, k6⟩
  rw [F2.out]
  rw [F3.out] at s6
  have S := Lib.hid s6
  have R4 := Lib.hid (keep.out _ _ R4.out k6)
  clear s6 k6
  go_wp2_with fail
  refine (st_add (9 + (z : Int) % 1000) S.out).mono ?_
  rintro e w7 ⟨rfl, s7, k7⟩
  rw [(H.out _).1]
  rw [(H.out _).2] at s7
  have S := Lib.hid s7
  have R4 := Lib.hid (keep.out _ _ R4.out k7)
  clear s7 k7
  go_wp2_with fail
  refine (st_add (-1) S.out).mono ?_
  rintro e w8 ⟨rfl, s8, k8⟩
  rw [(add_low c _).1]
  rw [(add_low c _).2] at s8
  have S := Lib.hid s8
  have R4 := Lib.hid (keep.out _ _ R4.out k8)
  clear s8 k8
  go_wp2_with fail
  refine (st_free S.out).mono ?_
  rintro e w9 ⟨v9, rfl, A9, n9, c9, rfl, r9, hc9, _, k9⟩
  obtain rfl : n9 = n4 := by have h1 := r9.len; have h2 := R4.out.len; omega
  have R9 := Lib.hid r9
  have R4 := Lib.hid (R4.out.old k9)
  have K := Lib.hid (S.out.kept.trans k9)
  clear r9 k9
  go_wp2_with fail
  refine (sameInts_any A9 A4 n9 c9 c4 _ w9 R9.out ?_ (by omega)).mono ?_
  · by_cases n0 : n9 = 0
    · subst n0
      exact ⟨R4.out.len, R4.out.fit, fun h => by omega⟩
    · have := R4.out
      rw [if_neg n0] at this
      exact this
  rintro e w10 ⟨rfl, k10⟩
  have K := Lib.hid (K.out.trans k10)
  clear k10
  go_wp2_with fail
  refine (awake_any _).mono ?_
  rintro e w11 ⟨rfl, k11⟩
  go_wp2_with fail
  go_ret
  exact ⟨rfl, K.out.trans k11⟩

/-- The row's step. -/
theorem lifted (os : Os) (started : os.Started) (H : Type) (enc : TypeId × Value → H) :
    ReturnsInHanded {} Try.checked os 8 .any (Rows.poolNoneSpec.pre6 enc Try.prog Try.f8 Rows.poolNoneRow.domain false) (Rows.poolNoneSpec.post enc Try.prog Try.f8 false true false false) := by
  refine returnsInHanded_of_change (C := Try.checked) own started (by kernel_rfl) Try.func8
    (ChangeSpec.witness6 (enc := enc) (C := Try.checked) false ⟨#[], #[.int .i64 0, .int .i64 0, .int .u8 0], []⟩ 8 (by kernel_rfl) (by kernel_rfl) (by kernel_rfl) (by kernel_rfl)) ?_
  intro W base args ds gs before hval0 hW hcnd _
  have hval : ∀ (j : Nat) t v, Try.f8.params[j]? = some t → args[j]? = some v → Value.okWide Try.prog W .any base t v := hval0
  have hW' := hW
  obtain ⟨p, q, hA0, hV, rfl, hfz, hnd⟩ := hW
  have hA : DataW.TrodAll enc Try.prog W 0 (fun _ => true) true Try.f8.params.toList args.toList ds p := hA0
  rw [Try.params8] at hA hval
  obtain ⟨v0, vs0, d0, ds0, p0, q0, hargs, rfl, rfl, h0, r0⟩ := trodAll_cons hA
  obtain ⟨v1, vs1, d1, ds1, p1, q1, rfl, rfl, rfl, h1, r1⟩ := trodAll_cons r0
  obtain ⟨v2, vs2, d2, ds2, p2, q2, rfl, rfl, rfl, h2, r2⟩ := trodAll_cons r1
  obtain ⟨rfl, rfl, rfl⟩ := trodAll_nil r2
  obtain rfl : args = #[v0, v1, v2] := by cases args; simp_all
  obtain ⟨rfl, rfl⟩ := trodVars_none hV
  obtain ⟨a0, rfl, rfl, rfl, w0⟩ := open_int Try.underlying3 (hval 0 3 v0 rfl rfl) h0
  obtain ⟨a1, rfl, rfl, rfl, w1⟩ := open_int Try.underlying3 (hval 1 3 v1 rfl rfl) h1
  obtain ⟨a2, rfl, rfl, rfl, w2⟩ := open_int Try.underlying5 (hval 2 5 v2 rfl rfl) h2
  clear hA0 hval0
  refine (walk a0 a1 a2 W w0 w1 w2).mono fun e W' ⟨he, kept⟩ => ?_
  subst he
  have bel : Below W.heap.size W W' := kept.toBelow (Nat.le_refl _) (fun _ x => x.elim)
  exact ⟨_, rfl, _, _, _, [], _, [], hW', trodAll_mk1 (shut_bool Try.underlying4 _), (trodAll_cons_mk (shut_int Try.underlying3 w0) (trodAll_cons_mk (shut_int Try.underlying3 w1) (trodAll_cons_mk (shut_int Try.underlying5 w2) trodAll_mk0))), rfl, bel.frame _, fun h => by cases h⟩

theorem over : Rows.PoolNoneSaid :=
  OpenClaim.holds_of_wide 8 Try.f8 rfl rfl rfl rfl rfl rfl rfl ⟨rfl, rfl, rfl, rfl, rfl⟩ rfl rfl rfl rfl rfl (by kernel_rfl) Try.func8 (by kernel_rfl)
    (of_decide_eq_true (by kernel_rfl)) (by unfold Func.isWrapper; first | (rw [if_pos (by decide +kernel)]; kernel_rfl) | (rw [if_neg (by decide +kernel)]; exact ⟨rfl, rfl⟩))
    (fun os started H enc _ => lifted os started H enc)

/-- The statement. -/
theorem proved : Rows.PoolNoneSaid := over
#print axioms proved
end Go.Proofs.Ytmkkkifigeaalaa.poolNone
