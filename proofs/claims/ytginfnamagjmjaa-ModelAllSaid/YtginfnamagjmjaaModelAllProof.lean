/-
  For every input the law ModelAll of rickyard/rickyardlaw13 returns true, and its arguments read afterwards as before. The law's own sentence: Whether any model may be, and, if it may, what is allocated, freed, found, are the document's. No further conditions.
-/
import Derived.Test.YtginfnamagjmjaaRows
import Derived.Test.YtginfnamagjmjaaKept
import Derived.Test.YtginfnamagjmjaaShell
import Derived.Test.YtginfnamagjmjaaModelMem
import Derived.WalkKit
import Derived.ProofKit
import Derived.OpenShut
import Derived.ChangeOld
import Derived.Below
import Derived.Lib.SmallJoins
import Derived.Test.YtginfnamagjmjaaModelSame
import Derived.Test.YtginfnamagjmjaaModelRmay
import Derived.WalkKit
import Derived.ProofKit
import Derived.OpenShut
import Derived.Outline
import Derived.Deep.Light
import Derived.Deep.QuietTactic
import Derived.BigQuiet
import Derived.IntWalk
import Derived.StillTailTactics
import Derived.RegionTactic
import Derived.Deep.RegionLaw
import Derived.Deep.RegionHeld3
namespace Go.Proofs.Ytginfnamagjmjaa.modelAll
open Go.ChangeShapes Go.WideShapes Go.ChangeAt Go.RowKit
set_option linter.unusedVariables false
set_option maxRecDepth 100000

theorem own : ownKnob Try.prog.godebug = none := by kernel_rfl
theorem laidOut : laidOutB Try.prog = true := by kernel_rfl

set_option maxHeartbeats 1500000 in
/-- The walk: the Go text returns true, and nothing that was there has turned. -/
theorem walk (a0_0 : Int) (a0_1 : Option Addr) (len0_1 cap0_1 : Nat) (l0_1 : List Lm.S) (a1 : Int) (a2 : Int) (w : World) (w0_0 : (Lit.int .i64 a0_0).wf = true) (w0_1 : len0_1 ≤ cap0_1 ∧ cap0_1 ≤ maxLen ∧ (a0_1 = none → cap0_1 = 0) ∧ Lm.RsS w a0_1 len0_1 l0_1) (w1 : (Lit.int .i64 a1).wf = true) (w2 : (Lit.int .i64 a2).wf = true) :
    Calls Try.prog 3 #[.agg #[.int .i64 a0_0, .slice a0_1 len0_1 cap0_1], .int .i64 a1, .int .i64 a2] w fun e w' => e = .returned (.bool true) ∧ Kept Old w w' := by
  obtain ⟨v0, v1, v2, v3⟩ := w0_1
  have b2 := bounds_i64 w2
  have fa := Lib.hid (show Lm.in64S a2 from ⟨by omega, by omega⟩)
  have HR := Lib.hid v3
  have hA := Lib.hid v2
  clear v1 v2 v3 b2
  have K1 := Lib.hid ((Kept.refl Old w).alloc (.cells #[.int .i64 a0_0, .slice a0_1 len0_1 cap0_1] 24))
  have B1 := Lib.hid (Lm.Bm.new w a0_0 (.slice a0_1 len0_1 cap0_1))
  by_cases hn : len0_1 ≤ 600
  · have RM := Lib.hid (fun W h => Lm.may_any a0_0 a0_1 len0_1 cap0_1 l0_1 W h (by omega))
    have RD := Lib.hid (fun W h => Lm.rmay_any a0_0 a0_1 len0_1 cap0_1 l0_1 W h (by omega))
    have SA := Lib.hid (fun r W h => Lm.same_any a0_0 a0_1 len0_1 cap0_1 l0_1 a1 a2 W h (Lm.valid_may.1 r) v0 hA.out fa.out)
    have a0 := B1.out.c0
    have a1 := B1.out.c1
    have l1 := Blk.lt B1.out
    generalize hV : w.alloc (.cells #[.int .i64 a0_0, .slice a0_1 len0_1 cap0_1] 24) = V at *
    cases r : Lm.mayM a0_0 l0_1 with
    | true =>
      have SA := Lib.hid (SA.out r)
      rw [r] at RM RD
      clear r
      go_enter Try.func3, Try.ntmps3
      go_wp2_with fail
      go_region_held3 (fun w' => Kept Old V w' ∧ w'.cell? ⟨w.heap.size, 0, none⟩ = some (.int .i64 a0_0) ∧ w'.cell? ⟨w.heap.size, 1, none⟩ = some (.slice a0_1 len0_1 cap0_1))
        (first
          | (exact ⟨Kept.refl Old V, ‹_›, ‹_›⟩)
          | (exact ⟨(Kept.refl Old V).drew, ‹_›, ‹_›⟩)
          | (exact ⟨‹_›, ‹_›, ‹_›⟩)
          | (go_split_ands; exact ⟨Kept.trans ‹_› k1, Lm.cell_on k1 ‹_›, Lm.cell_on k1 ‹_›⟩)
          | go_keep)
        (first
          | (go_at_call 10; with_reducible refine (RM.out _ (HR.out.old (K1.out.trans (‹Kept Old V _ ∧ _›).1))).mono ?_; rintro e w' ⟨rfl, k1⟩)
          | (go_at_call 11; with_reducible refine (RD.out _ (HR.out.old (K1.out.trans (‹Kept Old V _ ∧ _›).1))).mono ?_; rintro e w' ⟨rfl, k1⟩))
      have k2 := Lib.hid (‹Kept Old V _ ∧ _›).1
      have B2 := Lib.hid (B1.out.old k2.out)
      have a0 := B2.out.c0
      have a1 := B2.out.c1
      go_wp2_with (first
        | (go_at_call 11; refine (RD.out _ (HR.out.old (K1.out.trans k2.out))).mono ?_; rintro e w3 ⟨rfl, k3⟩; have k3 := Lib.hid (k2.out.trans k3); have a0 := (B1.out.old k3.out).c0; have a1 := (B1.out.old k3.out).c1)
        | (go_at_call 12; refine (SA.out _ (HR.out.old (K1.out.trans k3.out))).mono ?_; rintro e w4 ⟨rfl, k4⟩; have k4 := Lib.hid (k3.out.trans k4))
        | (go_at_call 9; refine (Lm.awake_any _).mono ?_; rintro e w5 ⟨rfl, k5⟩; have k5 := Lib.hid (k4.out.trans k5)))
      go_ret
      exact ⟨rfl, K1.out.trans k5.out⟩
    | false =>
      clear SA
      rw [r] at RM RD
      clear r
      go_enter Try.func3, Try.ntmps3
      go_wp2_with fail
      go_region_held3 (fun w' => Kept Old V w' ∧ w'.cell? ⟨w.heap.size, 0, none⟩ = some (.int .i64 a0_0) ∧ w'.cell? ⟨w.heap.size, 1, none⟩ = some (.slice a0_1 len0_1 cap0_1))
        (first
          | (exact ⟨Kept.refl Old V, ‹_›, ‹_›⟩)
          | (exact ⟨(Kept.refl Old V).drew, ‹_›, ‹_›⟩)
          | (exact ⟨‹_›, ‹_›, ‹_›⟩)
          | (go_split_ands; exact ⟨Kept.trans ‹_› k1, Lm.cell_on k1 ‹_›, Lm.cell_on k1 ‹_›⟩)
          | go_keep)
        (first
          | (go_at_call 10; with_reducible refine (RM.out _ (HR.out.old (K1.out.trans (‹Kept Old V _ ∧ _›).1))).mono ?_; rintro e w' ⟨rfl, k1⟩)
          | (go_at_call 11; with_reducible refine (RD.out _ (HR.out.old (K1.out.trans (‹Kept Old V _ ∧ _›).1))).mono ?_; rintro e w' ⟨rfl, k1⟩))
      have k2 := Lib.hid (‹Kept Old V _ ∧ _›).1
      have B2 := Lib.hid (B1.out.old k2.out)
      have a0 := B2.out.c0
      have a1 := B2.out.c1
      go_wp2_with (first
        | (go_at_call 11; refine (RD.out _ (HR.out.old (K1.out.trans k2.out))).mono ?_; rintro e w3 ⟨rfl, k3⟩; have k3 := Lib.hid (k2.out.trans k3))
        | (go_at_call 9; refine (Lm.awake_any _).mono ?_; rintro e w5 ⟨rfl, k5⟩; have k5 := Lib.hid (k3.out.trans k5)))
      go_ret
      exact ⟨rfl, K1.out.trans k5.out⟩
  · have dt : decide ((600 : Int) < (len0_1 : Int)) = true := decide_eq_true (by omega)
    have dt2 : (600 : Int) < (len0_1 : Int) := by omega
    go_enter Try.func3, Try.ntmps3
    go_wp2_with (go_at_call 9; refine (Lm.awake_any _).mono ?_; rintro e w5 ⟨rfl, k5⟩; have k5 := Lib.hid (K1.out.trans k5))
    go_ret
    exact ⟨rfl, k5.out⟩

/-- The row's step. -/
theorem lifted (os : Os) (started : os.Started) (H : Type) (enc : TypeId × Value → H) :
    ReturnsInHanded {} Try.checked os 3 .any (Rows.modelAllSpec.pre6 enc Try.prog Try.f3 Rows.modelAllRow.domain false) (Rows.modelAllSpec.post enc Try.prog Try.f3 false true false false) := by
  refine returnsInHanded_of_change (C := Try.checked) own started (by kernel_rfl) Try.func3
    (ChangeSpec.witness6 (enc := enc) (C := Try.checked) false ⟨#[], #[.agg #[.int .i64 0, .slice none 0 0], .int .i64 0, .int .i64 0], []⟩ 8 (by kernel_rfl) (by kernel_rfl) (by kernel_rfl) (by kernel_rfl)) ?_
  intro W base args ds gs before hval0 hW hcnd _
  have hval : ∀ (j : Nat) t v, Try.f3.params[j]? = some t → args[j]? = some v → Value.okWide Try.prog W .any base t v := hval0
  have hW' := hW
  obtain ⟨p, q, hA0, hV, rfl, hfz, hnd⟩ := hW
  have hA : DataW.TrodAll enc Try.prog W 0 (fun _ => true) true Try.f3.params.toList args.toList ds p := hA0
  rw [Try.params3] at hA hval
  obtain ⟨v0, vs0, d0, ds0, p0, q0, hargs, rfl, rfl, h0, r0⟩ := trodAll_cons hA
  obtain ⟨v1, vs1, d1, ds1, p1, q1, rfl, rfl, rfl, h1, r1⟩ := trodAll_cons r0
  obtain ⟨v2, vs2, d2, ds2, p2, q2, rfl, rfl, rfl, h2, r2⟩ := trodAll_cons r1
  obtain ⟨rfl, rfl, rfl⟩ := trodAll_nil r2
  obtain rfl : args = #[v0, v1, v2] := by cases args; simp_all
  obtain ⟨rfl, rfl⟩ := trodVars_none hV
  have k0 := h0
  have lt0 : ∀ x ∈ p0, x.block < W.heap.size := by obtain ⟨m, hm⟩ := k0; exact DataW.trod_lt m _ _ _ hm
  obtain ⟨u0_0, u0_1, y0_0, y0_1, n0, rfl, _, _, t0_0, t0_1⟩ := Joins.open_agg2 Try.underlying24 (by kernel_rfl) (by kernel_rfl) (hval 0 24 v0 rfl rfl) h0
  obtain ⟨a0_0, e0_0, _, w0_0⟩ := DataW.trod_int Try.underlying3 t0_0
  obtain rfl := List.head_eq_of_cons_eq e0_0
  obtain ⟨a0_1, len0_1, cap0_1, l0_1, rfl, w0_1⟩ := Lm.lives_field t0_1
  obtain ⟨a1, rfl, rfl, rfl, w1⟩ := open_int Try.underlying3 (hval 1 3 v1 rfl rfl) h1
  obtain ⟨a2, rfl, rfl, rfl, w2⟩ := open_int Try.underlying3 (hval 2 3 v2 rfl rfl) h2
  clear hA0 hval0
  refine (walk a0_0 a0_1 len0_1 cap0_1 l0_1 a1 a2 W w0_0 w0_1 w1 w2).mono fun e W' ⟨he, kept⟩ => ?_
  subst he
  have bel : Below W.heap.size W W' := kept.toBelow (Nat.le_refl _) (fun _ x => x.elim)
  exact ⟨_, rfl, _, _, _, [], _, [], hW', trodAll_mk1 (shut_bool Try.underlying4 _), (trodAll_cons_mk (Below.trod laidOut (by kernel_rfl) (of_decide_eq_true (by kernel_rfl)) k0 bel lt0) (trodAll_cons_mk (shut_int Try.underlying3 w1) (trodAll_cons_mk (shut_int Try.underlying3 w2) trodAll_mk0))), rfl, bel.frame _, fun h => by cases h⟩

theorem over : Rows.ModelAllSaid :=
  OpenClaim.holds_of_wide 3 Try.f3 rfl rfl rfl rfl rfl rfl rfl ⟨rfl, rfl, rfl, rfl, rfl⟩ rfl rfl rfl rfl rfl (by kernel_rfl) Try.func3 (by kernel_rfl)
    (of_decide_eq_true (by kernel_rfl)) (by unfold Func.isWrapper; first | (rw [if_pos (by decide +kernel)]; kernel_rfl) | (rw [if_neg (by decide +kernel)]; exact ⟨rfl, rfl⟩))
    (fun os started H enc _ => lifted os started H enc)

/-- The statement. -/
theorem proved : Rows.ModelAllSaid := over
#print axioms proved
end Go.Proofs.Ytginfnamagjmjaa.modelAll
