/-
  For every input the law LateAll of rickyard/rickyardlaw12 returns true, and its arguments read afterwards as before. The law's own sentence: Whatever is kept back, if it may be: what is set, put, what goes next, what is there, are the document's. No further conditions.
-/
import Derived.Test.YtjchdkjncfjibaaRows
import Derived.Test.YtjchdkjncfjibaaKept
import Derived.Test.YtjchdkjncfjibaaShell
import Derived.Test.YtjchdkjncfjibaaFieldInts
import Derived.WalkKit
import Derived.ProofKit
import Derived.OpenShut
import Derived.ChangeOld
import Derived.Below
import Derived.Lib.SmallJoins
import Derived.Test.YtjchdkjncfjibaaLateSame
namespace Go.Proofs.Ytjchdkjncfjibaa.lateAll
open Go.ChangeShapes Go.WideShapes Go.ChangeAt Go.RowKit
set_option linter.unusedVariables false
set_option maxRecDepth 100000

theorem own : ownKnob Try.prog.godebug = none := by kernel_rfl
theorem laidOut : laidOutB Try.prog = true := by kernel_rfl

set_option maxHeartbeats 8000000 in
/-- The walk: the Go text returns true, and nothing that was there has turned. -/
theorem walk (a0_0 : Bool) (a0_1 : Option Addr) (len0_1 cap0_1 : Nat) (l0_1 : List Int) (a1 : Bool) (a2 : Int) (w : World) (w0_1 : len0_1 ≤ cap0_1 ∧ cap0_1 ≤ maxLen ∧ (a0_1 = none → cap0_1 = 0) ∧ RsI w a0_1 len0_1 l0_1) (w2 : (Lit.int .i64 a2).wf = true) :
    Calls Try.prog 3 #[.agg #[.bool a0_0, .slice a0_1 len0_1 cap0_1], .bool a1, .int .i64 a2] w fun e w' => e = .returned (.bool true) ∧ Kept Old w w' := by
  obtain ⟨v1, v2, v3, v4⟩ := w0_1
  have b2 := bounds_i64 w2
  have HR := Lib.hid v4
  have hA := Lib.hid v3
  clear v4 v3 w2
  have AW := Lib.hid (fun W => Lq.awake_any W)
  by_cases c : len0_1 ≤ 300
  · have MC := Lib.hid (fun W h => Lq.may_any a0_0 a0_1 len0_1 cap0_1 l0_1 W h (by omega))
    have B0 := Lib.hid (Lq.Bq.new w a0_0 (.slice a0_1 len0_1 cap0_1))
    have K := Lib.hid ((Kept.refl Old w).alloc (.cells #[.bool a0_0, .slice a0_1 len0_1 cap0_1] 24))
    have x0 := B0.out.c0
    have x1 := B0.out.c1
    have hq := Lib.hid (show Lq.mayB l0_1 = true → Lq.MayL l0_1 from Lq.mayB_yes)
    generalize Lq.mayB l0_1 = mb at *
    go_enter Try.func3, Try.ntmps3
    cases mb with
    | false =>
      go_wp2_with fail
      refine (MC.out _ (HR.out.old K.out)).mono ?_
      rintro e w1 ⟨rfl, k1⟩
      go_wp2_with fail
      refine (AW.out _).mono ?_
      rintro e w2 ⟨rfl, k2⟩
      go_wp2_with fail
      go_ret
      exact ⟨rfl, (K.out.trans k1).trans k2⟩
    | true =>
      have SC := Lib.hid (fun W h => Lq.same_any a0_0 a0_1 len0_1 cap0_1 l0_1 a1 a2 W h (hq.out rfl) ⟨by omega, by omega⟩ c v1 hA.out)
      go_wp2_with fail
      refine (MC.out _ (HR.out.old K.out)).mono ?_
      rintro e w1 ⟨rfl, k1⟩
      have K1 := Lib.hid (K.out.trans k1)
      have B1 := Lib.hid (B0.out.old k1)
      have x0 := B1.out.c0
      have x1 := B1.out.c1
      clear k1
      go_wp2_with fail
      refine (SC.out _ (HR.out.old K1.out)).mono ?_
      rintro e w3 ⟨rfl, k3⟩
      go_wp2_with fail
      refine (AW.out _).mono ?_
      rintro e w2 ⟨rfl, k2⟩
      go_wp2_with fail
      go_ret
      exact ⟨rfl, (K1.out.trans k3).trans k2⟩
  · have K := Lib.hid ((Kept.refl Old w).alloc (.cells #[.bool a0_0, .slice a0_1 len0_1 cap0_1] 24))
    have c' : (300 : Int) < (len0_1 : Int) := by omega
    go_enter Try.func3, Try.ntmps3
    go_wp2_with fail
    refine (AW.out _).mono ?_
    rintro e w2 ⟨rfl, k2⟩
    go_wp2_with fail
    go_ret
    exact ⟨rfl, K.out.trans k2⟩

/-- The row's step. -/
theorem lifted (os : Os) (started : os.Started) (H : Type) (enc : TypeId × Value → H) :
    ReturnsInHanded {} Try.checked os 3 .any (Rows.lateAllSpec.pre6 enc Try.prog Try.f3 Rows.lateAllRow.domain false) (Rows.lateAllSpec.post enc Try.prog Try.f3 false true false false) := by
  refine returnsInHanded_of_change (C := Try.checked) own started (by kernel_rfl) Try.func3
    (ChangeSpec.witness6 (enc := enc) (C := Try.checked) false ⟨#[], #[.agg #[.bool false, .slice none 0 0], .bool false, .int .i64 0], []⟩ 8 (by kernel_rfl) (by kernel_rfl) (by kernel_rfl) (by kernel_rfl)) ?_
  intro W base args ds gs before hval0 hW hcnd _
  have hval : ∀ (j : Nat) t v, Try.f3.params[j]? = some t → args[j]? = some v → Value.okWide Try.prog W .any base t v := hval0
  have hW' := hW
  obtain ⟨p, q, hA0, hV, rfl, hfz, hnd⟩ := hW
  have hA : DataW.TrodAll enc Try.prog W 0 (fun _ => true) true Try.f3.params.toList args.toList ds p := hA0
  rw [Try.params3] at hA hval
  obtain ⟨v0, vs0, d0, ds0, p0, q0, hargs, rfl, rfl, h0, r0⟩ := trodAll_cons hA
  obtain ⟨v1, vs1, d1, ds1, p1, q1, rfl, rfl, rfl, h1, r1⟩ := trodAll_cons r0
  obtain ⟨v2, vs2, d2, ds2, p2, q2, rfl, rfl, rfl, h2, r2⟩ := trodAll_cons r1
  obtain ⟨rfl, rfl, rfl⟩ := trodAll_nil r2
  obtain rfl : args = #[v0, v1, v2] := by cases args; simp_all
  obtain ⟨rfl, rfl⟩ := trodVars_none hV
  have k0 := h0
  have lt0 : ∀ x ∈ p0, x.block < W.heap.size := by obtain ⟨m, hm⟩ := k0; exact DataW.trod_lt m _ _ _ hm
  obtain ⟨u0_0, u0_1, y0_0, y0_1, n0, rfl, _, _, t0_0, t0_1⟩ := Joins.open_agg2 Try.underlying24 (by kernel_rfl) (by kernel_rfl) (hval 0 24 v0 rfl rfl) h0
  obtain ⟨a0_0, e0_0, _⟩ := DataW.trod_bool Try.underlying4 t0_0
  obtain rfl := List.head_eq_of_cons_eq e0_0
  obtain ⟨a0_1, len0_1, cap0_1, l0_1, rfl, w0_1⟩ := ints_field Try.underlying22 Try.underlying3 (by kernel_rfl) t0_1
  obtain ⟨a1, rfl, rfl, rfl⟩ := open_bool Try.underlying4 (hval 1 4 v1 rfl rfl) h1
  obtain ⟨a2, rfl, rfl, rfl, w2⟩ := open_int Try.underlying3 (hval 2 3 v2 rfl rfl) h2
  clear hA0 hval0
  refine (walk a0_0 a0_1 len0_1 cap0_1 l0_1 a1 a2 W w0_1 w2).mono fun e W' ⟨he, kept⟩ => ?_
  subst he
  have bel : Below W.heap.size W W' := kept.toBelow (Nat.le_refl _) (fun _ x => x.elim)
  exact ⟨_, rfl, _, _, _, [], _, [], hW', trodAll_mk1 (shut_bool Try.underlying4 _), (trodAll_cons_mk (Below.trod laidOut (by kernel_rfl) (of_decide_eq_true (by kernel_rfl)) k0 bel lt0) (trodAll_cons_mk (shut_bool Try.underlying4 _) (trodAll_cons_mk (shut_int Try.underlying3 w2) trodAll_mk0))), rfl, bel.frame _, fun h => by cases h⟩

theorem over : Rows.LateAllSaid :=
  OpenClaim.holds_of_wide 3 Try.f3 rfl rfl rfl rfl rfl rfl rfl ⟨rfl, rfl, rfl, rfl, rfl⟩ rfl rfl rfl rfl rfl (by kernel_rfl) Try.func3 (by kernel_rfl)
    (of_decide_eq_true (by kernel_rfl)) (by unfold Func.isWrapper; first | (rw [if_pos (by decide +kernel)]; kernel_rfl) | (rw [if_neg (by decide +kernel)]; exact ⟨rfl, rfl⟩))
    (fun os started H enc _ => lifted os started H enc)

/-- The statement. -/
theorem proved : Rows.LateAllSaid := over
#print axioms proved
end Go.Proofs.Ytjchdkjncfjibaa.lateAll
