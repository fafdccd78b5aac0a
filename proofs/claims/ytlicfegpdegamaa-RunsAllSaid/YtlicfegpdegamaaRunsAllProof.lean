/-
  For every input the law RunsAll of rickyard/rickyardlaw5 returns true, and its arguments read afterwards as before. The law's own sentence: Whether any runs are right, and, if they are, what fits, is taken, is put, how many pages there are, which, are the document's. No further conditions.
-/
import Derived.Test.YtlicfegpdegamaaRows
import Derived.Test.YtlicfegpdegamaaKept
import Derived.Test.YtlicfegpdegamaaShell
import Derived.Test.YtlicfegpdegamaaRunsMem
import Derived.WalkKit
import Derived.ProofKit
import Derived.OpenShut
import Derived.ChangeOld
import Derived.Below
import Derived.Lib.SmallJoins
import Derived.Test.YtlicfegpdegamaaRunsBoth
import Derived.Test.YtlicfegpdegamaaRunsAwake
namespace Go.Proofs.Ytlicfegpdegamaa.runsAll
open Go.ChangeShapes Go.WideShapes Go.ChangeAt Go.RowKit
set_option linter.unusedVariables false
set_option maxRecDepth 100000

theorem own : ownKnob Try.prog.godebug = none := by kernel_rfl
theorem laidOut : laidOutB Try.prog = true := by kernel_rfl

set_option maxHeartbeats 8000000 in
/-- The walk: the Go text returns true, and nothing that was there has turned. -/
theorem walk (a0 : Option Addr) (len0 cap0 : Nat) (l0 : List R) (a1 : Int) (a2 : Int) (a3 : Int) (a4_0 : Int) (a4_1 : Int) (w : World) (w0 : len0 ≤ cap0 ∧ cap0 ≤ maxLen ∧ (a0 = none → cap0 = 0) ∧ Rs w a0 len0 l0) (w1 : (Lit.int .i64 a1).wf = true) (w2 : (Lit.int .i64 a2).wf = true) (w3 : (Lit.int .i64 a3).wf = true) (w4_0 : (Lit.int .i64 a4_0).wf = true) (w4_1 : (Lit.int .i64 a4_1).wf = true) :
    Calls Try.prog 3 #[.slice a0 len0 cap0, .int .i64 a1, .int .i64 a2, .int .i64 a3, .agg #[.int .i64 a4_0, .int .i64 a4_1]] w fun e w' => e = .returned (.bool true) ∧ Kept Old w w' := by
  obtain ⟨v0, v1, v2, v3⟩ := w0
  have h64 := Lib.hid (show in64 a4_1 from by have := bounds_i64 w4_1; exact ⟨by omega, by omega⟩)
  have HR := Lib.hid v3
  have HA := Lib.hid v2
  clear v1 v2 v3 w1 w2 w3 w4_0 w4_1
  by_cases c : len0 ≤ 600
  · cases hb : rightL 256 l0 with
    | false =>
      have hb := Lib.hid hb
      go_enter Try.func3, Try.ntmps3
      go_wp2_with fail
      refine (right_any a0 len0 cap0 l0 a1 _ (HR.out.old ((Kept.refl Old w).alloc _)) (by omega)).mono ?_
      rintro e w1 ⟨rfl, q⟩
      have K := Lib.hid (((Kept.refl Old w).alloc _).trans q)
      clear q
      go_wp2_with fail
      refine (rright_any a0 len0 cap0 l0 a1 _ (HR.out.old K.out) (by omega)).mono ?_
      rintro e w2 ⟨rfl, q⟩
      have K := Lib.hid (K.out.trans q)
      clear q
      go_wp2_with fail
      refine (rright_any a0 len0 cap0 l0 256 _ (HR.out.old K.out) (by omega)).mono ?_
      rintro e w3 ⟨rfl, q⟩
      rw [hb.out]
      have K := Lib.hid (K.out.trans q)
      clear q
      go_wp2_with fail
      refine (awake_any _).mono ?_
      rintro e w4 ⟨rfl, q⟩
      go_wp2_with fail
      go_ret
      exact ⟨rfl, K.out.trans q⟩
    | true =>
      have hr : Right 256 0 l0 := by
        unfold rightL at hb
        rw [Bool.and_eq_true] at hb
        exact (right_iff _ _ _).1 hb.2
      have hr := Lib.hid hr
      have hb := Lib.hid hb
      go_enter Try.func3, Try.ntmps3
      go_wp2_with fail
      refine (right_any a0 len0 cap0 l0 a1 _ (HR.out.old ((Kept.refl Old w).alloc _)) (by omega)).mono ?_
      rintro e w1 ⟨rfl, q⟩
      have B := Lib.hid ((Bx.new w (a4_0, a4_1)).old q)
      have K := Lib.hid (((Kept.refl Old w).alloc _).trans q)
      clear q
      go_wp2_with fail
      refine (rright_any a0 len0 cap0 l0 a1 _ (HR.out.old K.out) (by omega)).mono ?_
      rintro e w2 ⟨rfl, q⟩
      have B := Lib.hid (B.out.old q)
      have K := Lib.hid (K.out.trans q)
      clear q
      go_wp2_with fail
      refine (rright_any a0 len0 cap0 l0 256 _ (HR.out.old K.out) (by omega)).mono ?_
      rintro e w3 ⟨rfl, q⟩
      rw [hb.out]
      have B := Lib.hid (B.out.old q)
      have K := Lib.hid (K.out.trans q)
      clear q
      have x0 : w3.cell? ⟨w.heap.size, 0, none⟩ = some (.int .i64 a4_0) := B.out.c0
      have x1 : w3.cell? ⟨w.heap.size, 1, none⟩ = some (.int .i64 a4_1) := B.out.c1
      go_wp2_with fail
      refine (same_any a0 len0 cap0 l0 a2 a3 (a4_0, a4_1) _ (HR.out.old K.out) hr.out v0 HA.out h64.out).mono ?_
      rintro e w4 ⟨rfl, q⟩
      have K := Lib.hid (K.out.trans q)
      clear q
      go_wp2_with fail
      refine (awake_any _).mono ?_
      rintro e w5 ⟨rfl, q⟩
      go_wp2_with fail
      go_ret
      exact ⟨rfl, K.out.trans q⟩
  · go_enter Try.func3, Try.ntmps3
    go_wp2_with fail
    refine (awake_any _).mono ?_
    rintro e w1 ⟨rfl, q⟩
    go_wp2_with fail
    go_ret
    exact ⟨rfl, ((Kept.refl Old w).alloc _).trans q⟩

/-- The row's step. -/
theorem lifted (os : Os) (started : os.Started) (H : Type) (enc : TypeId × Value → H) :
    ReturnsInHanded {} Try.checked os 3 .any (Rows.runsAllSpec.pre6 enc Try.prog Try.f3 Rows.runsAllRow.domain false) (Rows.runsAllSpec.post enc Try.prog Try.f3 false true false false) := by
  refine returnsInHanded_of_change (C := Try.checked) own started (by kernel_rfl) Try.func3
    (ChangeSpec.witness6 (enc := enc) (C := Try.checked) false ⟨#[], #[.slice none 0 0, .int .i64 0, .int .i64 0, .int .i64 0, .agg #[.int .i64 0, .int .i64 0]], []⟩ 8 (by kernel_rfl) (by kernel_rfl) (by kernel_rfl) (by kernel_rfl)) ?_
  intro W base args ds gs before hval0 hW hcnd _
  have hval : ∀ (j : Nat) t v, Try.f3.params[j]? = some t → args[j]? = some v → Value.okWide Try.prog W .any base t v := hval0
  have hW' := hW
  obtain ⟨p, q, hA0, hV, rfl, hfz, hnd⟩ := hW
  have hA : DataW.TrodAll enc Try.prog W 0 (fun _ => true) true Try.f3.params.toList args.toList ds p := hA0
  rw [Try.params3] at hA hval
  obtain ⟨v0, vs0, d0, ds0, p0, q0, hargs, rfl, rfl, h0, r0⟩ := trodAll_cons hA
  obtain ⟨v1, vs1, d1, ds1, p1, q1, rfl, rfl, rfl, h1, r1⟩ := trodAll_cons r0
  obtain ⟨v2, vs2, d2, ds2, p2, q2, rfl, rfl, rfl, h2, r2⟩ := trodAll_cons r1
  obtain ⟨v3, vs3, d3, ds3, p3, q3, rfl, rfl, rfl, h3, r3⟩ := trodAll_cons r2
  obtain ⟨v4, vs4, d4, ds4, p4, q4, rfl, rfl, rfl, h4, r4⟩ := trodAll_cons r3
  obtain ⟨rfl, rfl, rfl⟩ := trodAll_nil r4
  obtain rfl : args = #[v0, v1, v2, v3, v4] := by cases args; simp_all
  obtain ⟨rfl, rfl⟩ := trodVars_none hV
  have k0 := h0
  have lt0 : ∀ x ∈ p0, x.block < W.heap.size := by obtain ⟨m, hm⟩ := k0; exact DataW.trod_lt m _ _ _ hm
  obtain ⟨a0, len0, cap0, rfl⟩ := okWide_slice Try.underlying22 (hval 0 22 v0 rfl rfl)
  obtain ⟨l0, w0⟩ := pairs_in h0
  obtain ⟨a1, rfl, rfl, rfl, w1⟩ := open_int Try.underlying3 (hval 1 3 v1 rfl rfl) h1
  obtain ⟨a2, rfl, rfl, rfl, w2⟩ := open_int Try.underlying3 (hval 2 3 v2 rfl rfl) h2
  obtain ⟨a3, rfl, rfl, rfl, w3⟩ := open_int Try.underlying3 (hval 3 3 v3 rfl rfl) h3
  have k4 := h4
  have lt4 : ∀ x ∈ p4, x.block < W.heap.size := by obtain ⟨m, hm⟩ := k4; exact DataW.trod_lt m _ _ _ hm
  obtain ⟨u4_0, u4_1, y4_0, y4_1, n4, rfl, _, _, t4_0, t4_1⟩ := Joins.open_agg2 Try.underlying24 (by kernel_rfl) (by kernel_rfl) (hval 4 24 v4 rfl rfl) h4
  obtain ⟨a4_0, e4_0, _, w4_0⟩ := DataW.trod_int Try.underlying3 t4_0
  obtain rfl := List.head_eq_of_cons_eq e4_0
  obtain ⟨a4_1, e4_1, _, w4_1⟩ := DataW.trod_int Try.underlying3 t4_1
  obtain rfl := List.head_eq_of_cons_eq e4_1
  clear hA0 hval0
  refine (walk a0 len0 cap0 l0 a1 a2 a3 a4_0 a4_1 W w0 w1 w2 w3 w4_0 w4_1).mono fun e W' ⟨he, kept⟩ => ?_
  subst he
  have bel : Below W.heap.size W W' := kept.toBelow (Nat.le_refl _) (fun _ x => x.elim)
  exact ⟨_, rfl, _, _, _, [], _, [], hW', trodAll_mk1 (shut_bool Try.underlying4 _), (trodAll_cons_mk (Below.trod laidOut (by kernel_rfl) (of_decide_eq_true (by kernel_rfl)) k0 bel lt0) (trodAll_cons_mk (shut_int Try.underlying3 w1) (trodAll_cons_mk (shut_int Try.underlying3 w2) (trodAll_cons_mk (shut_int Try.underlying3 w3) (trodAll_cons_mk (Below.trod laidOut (by kernel_rfl) (of_decide_eq_true (by kernel_rfl)) k4 bel lt4) trodAll_mk0))))), rfl, bel.frame _, fun h => by cases h⟩

theorem over : Rows.RunsAllSaid :=
  OpenClaim.holds_of_wide 3 Try.f3 rfl rfl rfl rfl rfl rfl rfl ⟨rfl, rfl, rfl, rfl, rfl⟩ rfl rfl rfl rfl rfl (by kernel_rfl) Try.func3 (by kernel_rfl)
    (of_decide_eq_true (by kernel_rfl)) (by unfold Func.isWrapper; first | (rw [if_pos (by decide +kernel)]; kernel_rfl) | (rw [if_neg (by decide +kernel)]; exact ⟨rfl, rfl⟩))
    (fun os started H enc _ => lifted os started H enc)

/-- The statement. -/
theorem proved : Rows.RunsAllSaid := over
#print axioms proved
end Go.Proofs.Ytlicfegpdegamaa.runsAll
