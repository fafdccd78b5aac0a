/-
  For every input the law LargeAll of rickyard/rickyardlaw11 returns true, and its arguments read afterwards as before. The law's own sentence: Whether any large ones are right, and, if they are, what is put, taken, dropped, how many words they have, are the document's. No further conditions.
-/
import Derived.Test.YtiiojhmlagkcdaaRows
import Derived.Test.YtiiojhmlagkcdaaKept
import Derived.Test.YtiiojhmlagkcdaaShell
import Derived.Test.YtiiojhmlagkcdaaBigMem
import Derived.WalkKit
import Derived.ProofKit
import Derived.OpenShut
import Derived.ChangeOld
import Derived.Below
import Derived.Lib.SmallJoins
import Derived.Test.YtiiojhmlagkcdaaBigSame
namespace Go.Proofs.Ytiiojhmlagkcdaa.largeAll
open Go.ChangeShapes Go.WideShapes Go.ChangeAt Go.RowKit
set_option linter.unusedVariables false
set_option maxRecDepth 100000

theorem own : ownKnob Try.prog.godebug = none := by kernel_rfl
theorem laidOut : laidOutB Try.prog = true := by kernel_rfl
theorem is_yes {l : List Bg.R} {w w' : World} {e : Ending} (h : Bg.RightPost l w e w') (r : Bg.RightL l) : e = .returned (.bool true) ∧ Kept Old w w' := by
  obtain ⟨B, rfl, i, k⟩ := h
  obtain rfl := i.2 r
  exact ⟨rfl, k⟩
theorem is_no {l : List Bg.R} {w w' : World} {e : Ending} (h : Bg.RightPost l w e w') (r : ¬ Bg.RightL l) : e = .returned (.bool false) ∧ Kept Old w w' := by
  obtain ⟨B, rfl, i, k⟩ := h
  cases B with
  | true => exact absurd (i.1 rfl) r
  | false => exact ⟨rfl, k⟩

set_option maxHeartbeats 1500000 in
/-- The walk: the Go text returns true, and nothing that was there has turned. -/
theorem walk (a0 : Option Addr) (len0 cap0 : Nat) (l0 : List Bg.R) (a1_0 : Int) (a1_1 : Int) (a2 : Int) (w : World) (w0 : len0 ≤ cap0 ∧ cap0 ≤ maxLen ∧ (a0 = none → cap0 = 0) ∧ Bg.Rs w a0 len0 l0) (w1_0 : (Lit.int .i64 a1_0).wf = true) (w1_1 : (Lit.int .i64 a1_1).wf = true) (w2 : (Lit.int .i64 a2).wf = true) :
    Calls Try.prog 3 #[.slice a0 len0 cap0, .agg #[.int .i64 a1_0, .int .i64 a1_1], .int .i64 a2] w fun e w' => e = .returned (.bool true) ∧ Kept Old w w' := by
  obtain ⟨v0, v1, v2, v3⟩ := w0
  have b0 := bounds_i64 w1_0
  have b1 := bounds_i64 w1_1
  have fb := Lib.hid (show Bg.in64 a1_0 ∧ Bg.in64 a1_1 from ⟨⟨by omega, by omega⟩, ⟨by omega, by omega⟩⟩)
  have HR := Lib.hid v3
  have hA := Lib.hid v2
  clear v1 v2 v3 w1_0 w1_1 b0 b1
  by_cases hn : len0 ≤ 300
  · by_cases r : Bg.RightL l0
    · have RR := Lib.hid (fun W h => (Bg.right_any a0 len0 cap0 l0 W h (by omega) v0).mono fun e w' h => is_yes h r)
      have RD := Lib.hid (fun W h => (Bg.rright_any a0 len0 cap0 l0 W h (by omega) v0).mono fun e w' h => is_yes h r)
      have SA := Lib.hid (fun W h => Bg.same_any a0 len0 cap0 l0 (a1_0, a1_1) a2 W h r hn v0 hA.out fb.out)
      clear r
      go_enter Try.func3, Try.ntmps3
      go_wp2_with fail
      refine (RR.out _ (HR.out.old ((Kept.refl Old w).alloc _))).mono ?_
      rintro e w1 ⟨rfl, k⟩
      have B := Lib.hid ((Bg.Bx.new w (a1_0, a1_1)).old k)
      have K := Lib.hid (((Kept.refl Old w).alloc _).trans k)
      clear k
      go_wp2_with fail
      refine (RD.out _ (HR.out.old K.out)).mono ?_
      rintro e w2 ⟨rfl, k⟩
      have B := Lib.hid (B.out.old k)
      have K := Lib.hid (K.out.trans k)
      clear k
      go_wp2_with fail
      refine (RD.out _ (HR.out.old K.out)).mono ?_
      rintro e w3 ⟨rfl, k⟩
      have B := Lib.hid (B.out.old k)
      have K := Lib.hid (K.out.trans k)
      have x0 := B.out.c0
      have x1 := B.out.c1
      clear k
      go_wp2_with fail
      refine (SA.out _ (HR.out.old K.out)).mono ?_
      rintro e w4 ⟨rfl, k⟩
      have K := Lib.hid (K.out.trans k)
      clear k x0 x1
      go_wp2_with fail
      refine (Bg.awake_any _).mono ?_
      rintro e w5 ⟨rfl, k⟩
      go_wp2_with fail
      go_ret
      exact ⟨rfl, K.out.trans k⟩
    · have RR := Lib.hid (fun W h => (Bg.right_any a0 len0 cap0 l0 W h (by omega) v0).mono fun e w' h => is_no h r)
      have RD := Lib.hid (fun W h => (Bg.rright_any a0 len0 cap0 l0 W h (by omega) v0).mono fun e w' h => is_no h r)
      clear r
      go_enter Try.func3, Try.ntmps3
      go_wp2_with fail
      refine (RR.out _ (HR.out.old ((Kept.refl Old w).alloc _))).mono ?_
      rintro e w1 ⟨rfl, k⟩
      have K := Lib.hid (((Kept.refl Old w).alloc _).trans k)
      clear k
      go_wp2_with fail
      refine (RD.out _ (HR.out.old K.out)).mono ?_
      rintro e w2 ⟨rfl, k⟩
      have K := Lib.hid (K.out.trans k)
      clear k
      go_wp2_with fail
      refine (RD.out _ (HR.out.old K.out)).mono ?_
      rintro e w3 ⟨rfl, k⟩
      have K := Lib.hid (K.out.trans k)
      clear k
      go_wp2_with fail
      refine (Bg.awake_any _).mono ?_
      rintro e w5 ⟨rfl, k⟩
      go_wp2_with fail
      go_ret
      exact ⟨rfl, K.out.trans k⟩
  · have hn1 : 300 < len0 := by omega
    clear hn
    go_enter Try.func3, Try.ntmps3
    go_wp2_with fail
    refine (Bg.awake_any _).mono ?_
    rintro e w5 ⟨rfl, k⟩
    go_wp2_with fail
    go_ret
    exact ⟨rfl, ((Kept.refl Old w).alloc _).trans k⟩

/-- The row's step. -/
theorem lifted (os : Os) (started : os.Started) (H : Type) (enc : TypeId × Value → H) :
    ReturnsInHanded {} Try.checked os 3 .any (Rows.largeAllSpec.pre6 enc Try.prog Try.f3 Rows.largeAllRow.domain false) (Rows.largeAllSpec.post enc Try.prog Try.f3 false true false false) := by
  refine returnsInHanded_of_change (C := Try.checked) own started (by kernel_rfl) Try.func3
    (ChangeSpec.witness6 (enc := enc) (C := Try.checked) false ⟨#[], #[.slice none 0 0, .agg #[.int .i64 0, .int .i64 0], .int .i64 0], []⟩ 8 (by kernel_rfl) (by kernel_rfl) (by kernel_rfl) (by kernel_rfl)) ?_
  intro W base args ds gs before hval0 hW hcnd _
  have hval : ∀ (j : Nat) t v, Try.f3.params[j]? = some t → args[j]? = some v → Value.okWide Try.prog W .any base t v := hval0
  have hW' := hW
  obtain ⟨p, q, hA0, hV, rfl, hfz, hnd⟩ := hW
  have hA : DataW.TrodAll enc Try.prog W 0 (fun _ => true) true Try.f3.params.toList args.toList ds p := hA0
  rw [Try.params3] at hA hval
  obtain ⟨v0, vs0, d0, ds0, p0, q0, hargs, rfl, rfl, h0, r0⟩ := trodAll_cons hA
  obtain ⟨v1, vs1, d1, ds1, p1, q1, rfl, rfl, rfl, h1, r1⟩ := trodAll_cons r0
  obtain ⟨v2, vs2, d2, ds2, p2, q2, rfl, rfl, rfl, h2, r2⟩ := trodAll_cons r1
  obtain ⟨rfl, rfl, rfl⟩ := trodAll_nil r2
  obtain rfl : args = #[v0, v1, v2] := by cases args; simp_all
  obtain ⟨rfl, rfl⟩ := trodVars_none hV
  have k0 := h0
  have lt0 : ∀ x ∈ p0, x.block < W.heap.size := by obtain ⟨m, hm⟩ := k0; exact DataW.trod_lt m _ _ _ hm
  obtain ⟨a0, len0, cap0, rfl⟩ := okWide_slice Try.underlying22 (hval 0 22 v0 rfl rfl)
  obtain ⟨l0, w0⟩ := Bg.pairs_in h0
  have k1 := h1
  have lt1 : ∀ x ∈ p1, x.block < W.heap.size := by obtain ⟨m, hm⟩ := k1; exact DataW.trod_lt m _ _ _ hm
  obtain ⟨u1_0, u1_1, y1_0, y1_1, n1, rfl, _, _, t1_0, t1_1⟩ := Joins.open_agg2 Try.underlying24 (by kernel_rfl) (by kernel_rfl) (hval 1 24 v1 rfl rfl) h1
  obtain ⟨a1_0, e1_0, _, w1_0⟩ := DataW.trod_int Try.underlying3 t1_0
  obtain rfl := List.head_eq_of_cons_eq e1_0
  obtain ⟨a1_1, e1_1, _, w1_1⟩ := DataW.trod_int Try.underlying3 t1_1
  obtain rfl := List.head_eq_of_cons_eq e1_1
  obtain ⟨a2, rfl, rfl, rfl, w2⟩ := open_int Try.underlying3 (hval 2 3 v2 rfl rfl) h2
  clear hA0 hval0
  refine (walk a0 len0 cap0 l0 a1_0 a1_1 a2 W w0 w1_0 w1_1 w2).mono fun e W' ⟨he, kept⟩ => ?_
  subst he
  have bel : Below W.heap.size W W' := kept.toBelow (Nat.le_refl _) (fun _ x => x.elim)
  exact ⟨_, rfl, _, _, _, [], _, [], hW', trodAll_mk1 (shut_bool Try.underlying4 _), (trodAll_cons_mk (Below.trod laidOut (by kernel_rfl) (of_decide_eq_true (by kernel_rfl)) k0 bel lt0) (trodAll_cons_mk (Below.trod laidOut (by kernel_rfl) (of_decide_eq_true (by kernel_rfl)) k1 bel lt1) (trodAll_cons_mk (shut_int Try.underlying3 w2) trodAll_mk0))), rfl, bel.frame _, fun h => by cases h⟩

theorem over : Rows.LargeAllSaid :=
  OpenClaim.holds_of_wide 3 Try.f3 rfl rfl rfl rfl rfl rfl rfl ⟨rfl, rfl, rfl, rfl, rfl⟩ rfl rfl rfl rfl rfl (by kernel_rfl) Try.func3 (by kernel_rfl)
    (of_decide_eq_true (by kernel_rfl)) (by unfold Func.isWrapper; first | (rw [if_pos (by decide +kernel)]; kernel_rfl) | (rw [if_neg (by decide +kernel)]; exact ⟨rfl, rfl⟩))
    (fun os started H enc _ => lifted os started H enc)

/-- The statement. -/
theorem proved : Rows.LargeAllSaid := over
#print axioms proved
end Go.Proofs.Ytiiojhmlagkcdaa.largeAll
