/-
  For every input the law LateApart of rickyard/rickyardlaw12 returns true, and its arguments read afterwards as before. The law's own sentence: Of two that have a page in common just the first is kept; of two that have none both are. No further conditions.
-/
import Derived.Test.YtjchdkjncfjibaaRows
import Derived.Test.YtjchdkjncfjibaaKept
import Derived.Test.YtjchdkjncfjibaaShell
import Derived.WalkKit
import Derived.ProofKit
import Derived.OpenShut
import Derived.ChangeOld
import Derived.Below
import Derived.Lib.SmallJoins
import Derived.Test.YtjchdkjncfjibaaLateLaw
namespace Go.Proofs.Ytjchdkjncfjibaa.lateApart
open Go.ChangeShapes Go.WideShapes Go.ChangeAt Go.RowKit
set_option linter.unusedVariables false
set_option maxRecDepth 100000

theorem own : ownKnob Try.prog.godebug = none := by kernel_rfl
theorem laidOut : laidOutB Try.prog = true := by kernel_rfl
open Lq in
theorem put_ok {l : List Int} {p : Int} (m : mayI p = true) (o : overI l p = false) : putB true l p = true ∧ putL true l p = l ++ [p] ∧ putC true l p = 0 := by
  unfold putB putL putC
  rw [m, o]
  exact ⟨rfl, rfl, rfl⟩
open Lq in
theorem put_hit {l : List Int} {p : Int} (m : mayI p = true) (o : overI l p = true) : putB true l p = false ∧ putL true l p = [] ∧ putC true l p = 4 := by
  unfold putB putL putC
  rw [m, o]
  exact ⟨rfl, rfl, rfl⟩
open Lq in
theorem over_one (p q : Int) : overI [p] q = hitI p q := by
  unfold overI
  simp

set_option maxHeartbeats 2000000 in
/-- The walk: the Go text returns true, and nothing that was there has turned. -/
theorem walk (a0 : Int) (a1 : Int) (w : World) (w0 : (Lit.int .u8 a0).wf = true) (w1 : (Lit.int .u8 a1).wf = true) :
    Calls Try.prog 5 #[.int .u8 a0, .int .u8 a1] w fun e w' => e = .returned (.bool true) ∧ Kept Old w w' := by
  have b0 := bounds_u8 w0
  have b1 := bounds_u8 w1
  clear w0 w1
  have t0 : a0.tmod 249 = a0 % 249 := Int.tmod_eq_emod_of_nonneg (by omega)
  have t1 : a1.tmod 249 = a1 % 249 := Int.tmod_eq_emod_of_nonneg (by omega)
  have p0 : 0 ≤ a0 % 249 ∧ a0 % 249 ≤ 248 := by omega
  have q0 : 0 ≤ a1 % 249 ∧ a1 % 249 ≤ 248 := by omega
  have e0 : IntKind.i64.wrap a0 = a0 := IntWalk.i64_in _ (by omega)
  have e1 : IntKind.i64.wrap a1 = a1 := IntWalk.i64_in _ (by omega)
  generalize a0 % 249 = p at *
  generalize a1 % 249 = q at *
  obtain ⟨p0, p1⟩ := p0
  obtain ⟨q0, q1⟩ := q0
  have r0 : IntKind.i64.wrap p = p := IntWalk.i64_in _ (by omega)
  have r1 : IntKind.i64.wrap q = q := IntWalk.i64_in _ (by omega)
  have r2 : IntKind.i64.wrap (p + 8) = p + 8 := IntWalk.i64_in _ (by omega)
  have r3 : IntKind.i64.wrap (q + 8) = q + 8 := IntWalk.i64_in _ (by omega)
  have AW := Lib.hid (fun W => Lq.awake_any W)
  have mp : Lq.mayI p = true := decide_eq_true ⟨p0, p1⟩
  have mq : Lq.mayI q = true := decide_eq_true ⟨q0, q1⟩
  obtain ⟨i1, i2, i3⟩ := put_ok (l := []) mp (by rfl)
  have P1 := Lib.hid (fun A n c W h hn hc hA => Lq.lput_lit i1 i2 i3 A n c W h Lq.MayL.nil ⟨by omega, by omega⟩ hn hc hA)
  have mayp := Lib.hid (show Lq.MayL [p] from fun x hx => by obtain rfl := List.mem_singleton.1 hx; exact ⟨p0, p1⟩)
  by_cases ap : p + 8 ≤ q ∨ q + 8 ≤ p
  · obtain ⟨j1, j2, j3⟩ := put_ok (l := [p]) mq (by rw [over_one]; exact decide_eq_false (by omega))
    have P2 := Lib.hid (fun A n c W h hn hc hA => Lq.lput_lit j1 j2 j3 A n c W h mayp.out ⟨by omega, by omega⟩ hn hc hA)
    have H1 := Lib.hid (fun A n c W h hn => Lq.lhas_lit (l := [p, q]) (p := p) (B := true) (by simp) true A n c W h hn)
    have H2 := Lib.hid (fun A n c W h hn => Lq.lhas_lit (l := [p, q]) (p := q) (B := true) (by simp) true A n c W h hn)
    clear i1 i2 i3 j1 j2 j3 mp mq
    have ip := Lib.hid (show inI p from ⟨by omega, by omega⟩)
    have iq := Lib.hid (show inI q from ⟨by omega, by omega⟩)
    have ap := Lib.hid ap
    have ways : (decide (q + 8 ≤ p) = true) ∨ (decide (q + 8 ≤ p) = false ∧ decide (p + 8 ≤ q) = true) := by
      by_cases d : q + 8 ≤ p
      · exact .inl (decide_eq_true d)
      · exact .inr ⟨decide_eq_false d, decide_eq_true (ap.out.resolve_right d)⟩
    go_enter Try.func5, Try.ntmps5
    rcases ways with d | ⟨d, d2⟩
    all_goals
      go_wp2_with fail
      refine (Lq.lset_any false none 0 0 [] true _ (RsI.nil _ _) (by omega) (fun _ => ⟨rfl, rfl⟩)).mono ?_
      rintro e w1 ⟨v, rfl, A1, n1, c1, rfl, R1, hc1, hA1, k1⟩
      obtain rfl : n1 = 0 := R1.len.symm
      have K1 := Lib.hid k1
      have R1 := Lib.hid R1
      have hA1 := Lib.hid hA1.1
      clear k1
      go_wp2_with fail
      refine (P1.out _ _ _ _ R1.out (by omega) hc1 hA1.out).mono ?_
      rintro e w2 ⟨v, rfl, A2, n2, c2, rfl, R2, hc2, hA2, k2⟩
      obtain rfl : n2 = 1 := R2.len.symm
      have z2 := (Kept.refl Old w2).alloc (.cells #[.bool true, .slice A2 1 c2] 24)
      have K2 := Lib.hid ((K1.out.trans k2).trans z2)
      have R2 := Lib.hid (R2.old z2)
      have hA2 := Lib.hid hA2.1
      clear k2 z2
      go_wp2_with fail
      refine (P2.out _ _ _ _ R2.out (by omega) hc2 hA2.out).mono ?_
      rintro e w3 ⟨v, rfl, A3, n3, c3, rfl, R3, hc3, hA3, k3⟩
      obtain rfl : n3 = 2 := R3.len.symm
      have z3 := (Kept.refl Old w3).alloc (.cells #[.bool true, .slice A3 2 c3] 24)
      have K3 := Lib.hid ((K2.out.trans k3).trans z3)
      have R3 := Lib.hid (R3.old z3)
      have B3 := Lib.hid (Lq.Bq.new w3 true (.slice A3 2 c3))
      clear k3 z3 hA3
      go_wp2_with fail
      refine (H1.out _ _ _ _ R3.out (by omega)).mono ?_
      rintro e w4 ⟨rfl, k4⟩
      have K4 := Lib.hid (K3.out.trans k4)
      have R4 := Lib.hid (R3.out.old k4)
      have B4 := Lib.hid (B3.out.old k4)
      have x0 := B4.out.c0
      have x1 := B4.out.c1
      clear k4
      go_wp2_with fail
      refine (H2.out _ _ _ _ R4.out (by omega)).mono ?_
      rintro e w5 ⟨rfl, k5⟩
      have K5 := Lib.hid (K4.out.trans k5)
      have R5 := Lib.hid (R4.out.old k5)
      have B5 := Lib.hid (B4.out.old k5)
      have x0 := B5.out.c0
      have x1 := B5.out.c1
      clear k5
      go_wp2_with fail
      have z6 := (Kept.refl Old w5).alloc (.cells #[.int .i64 p, .int .i64 q] 3)
      have b6 := Blk.new w5 3 [.int .i64 p, .int .i64 q]
      have R6 : RsI (w5.alloc (.cells #[.int .i64 p, .int .i64 q] 3)) (some ⟨w5.heap.size, 0, none⟩) 2 [p, q] := ⟨rfl, fun y hy => by
        rcases List.mem_cons.1 hy with rfl | hy
        · exact ip.out
        · obtain rfl := List.mem_singleton.1 hy; exact iq.out, fun _ => ⟨w5.heap.size, 0, rfl, b6.lt, fun i y hy => by
        have hi := (List.getElem?_eq_some_iff.1 hy).1
        have : i = 0 ∨ i = 1 := by simp at hi; omega
        rcases this with rfl | rfl
        · simp only [List.getElem?_cons_zero, Option.some.injEq] at hy
          subst hy
          exact b6.cell 0
        · simp only [List.getElem?_cons_succ, List.getElem?_cons_zero, Option.some.injEq] at hy
          subst hy
          exact b6.cell 1⟩⟩
      refine (sameInts_any _ _ _ _ _ [p, q] _ (R5.out.old z6) R6 (by omega)).mono ?_
      rintro e w7 ⟨rfl, k7⟩
      have K7 := Lib.hid ((K5.out.trans z6).trans k7)
      clear k7 z6 b6 R6
      go_wp2_with fail
      refine (AW.out _).mono ?_
      rintro e w8 ⟨rfl, k8⟩
      go_wp2_with fail
      go_ret
      exact ⟨rfl, K7.out.trans k8⟩
  · obtain ⟨j1, j2, j3⟩ := put_hit (l := [p]) mq (by rw [over_one]; exact decide_eq_true (by omega))
    have P2 := Lib.hid (fun A n c W h hn hc hA => Lq.lput_lit j1 j2 j3 A n c W h mayp.out ⟨by omega, by omega⟩ hn hc hA)
    clear i1 i2 i3 j1 j2 j3 mp mq
    have d1 : decide (q + 8 ≤ p) = false := decide_eq_false (by omega)
    have d2 : decide (p + 8 ≤ q) = false := decide_eq_false (by omega)
    clear ap
    go_enter Try.func5, Try.ntmps5
    go_wp2_with fail
    refine (Lq.lset_any false none 0 0 [] true _ (RsI.nil _ _) (by omega) (fun _ => ⟨rfl, rfl⟩)).mono ?_
    rintro e w1 ⟨v, rfl, A1, n1, c1, rfl, R1, hc1, hA1, k1⟩
    obtain rfl : n1 = 0 := R1.len.symm
    have K1 := Lib.hid k1
    have R1 := Lib.hid R1
    have hA1 := Lib.hid hA1.1
    clear k1
    go_wp2_with fail
    refine (P1.out _ _ _ _ R1.out (by omega) hc1 hA1.out).mono ?_
    rintro e w2 ⟨v, rfl, A2, n2, c2, rfl, R2, hc2, hA2, k2⟩
    obtain rfl : n2 = 1 := R2.len.symm
    have z2 := (Kept.refl Old w2).alloc (.cells #[.bool true, .slice A2 1 c2] 24)
    have K2 := Lib.hid ((K1.out.trans k2).trans z2)
    have R2 := Lib.hid (R2.old z2)
    have hA2 := Lib.hid hA2.1
    clear k2 z2
    go_wp2_with fail
    refine (P2.out _ _ _ _ R2.out (by omega) hc2 hA2.out).mono ?_
    rintro e w3 ⟨v, rfl, A3, n3, c3, rfl, R3, hc3, hA3, k3⟩
    obtain rfl : n3 = 0 := R3.len.symm
    have z3 := (Kept.refl Old w3).alloc (.cells #[.bool false, .slice A3 0 c3] 24)
    have K3 := Lib.hid ((K2.out.trans k3).trans z3)
    clear k3 z3 hA3
    go_wp2_with fail
    refine (AW.out _).mono ?_
    rintro e w8 ⟨rfl, k8⟩
    go_wp2_with fail
    go_ret
    exact ⟨rfl, K3.out.trans k8⟩

/-- The row's step. -/
theorem lifted (os : Os) (started : os.Started) (H : Type) (enc : TypeId × Value → H) :
    ReturnsInHanded {} Try.checked os 5 .any (Rows.lateApartSpec.pre6 enc Try.prog Try.f5 Rows.lateApartRow.domain false) (Rows.lateApartSpec.post enc Try.prog Try.f5 false true false false) := by
  refine returnsInHanded_of_change (C := Try.checked) own started (by kernel_rfl) Try.func5
    (ChangeSpec.witness6 (enc := enc) (C := Try.checked) false ⟨#[], #[.int .u8 0, .int .u8 0], []⟩ 8 (by kernel_rfl) (by kernel_rfl) (by kernel_rfl) (by kernel_rfl)) ?_
  intro W base args ds gs before hval0 hW hcnd _
  have hval : ∀ (j : Nat) t v, Try.f5.params[j]? = some t → args[j]? = some v → Value.okWide Try.prog W .any base t v := hval0
  have hW' := hW
  obtain ⟨p, q, hA0, hV, rfl, hfz, hnd⟩ := hW
  have hA : DataW.TrodAll enc Try.prog W 0 (fun _ => true) true Try.f5.params.toList args.toList ds p := hA0
  rw [Try.params5] at hA hval
  obtain ⟨v0, vs0, d0, ds0, p0, q0, hargs, rfl, rfl, h0, r0⟩ := trodAll_cons hA
  obtain ⟨v1, vs1, d1, ds1, p1, q1, rfl, rfl, rfl, h1, r1⟩ := trodAll_cons r0
  obtain ⟨rfl, rfl, rfl⟩ := trodAll_nil r1
  obtain rfl : args = #[v0, v1] := by cases args; simp_all
  obtain ⟨rfl, rfl⟩ := trodVars_none hV
  obtain ⟨a0, rfl, rfl, rfl, w0⟩ := open_int Try.underlying5 (hval 0 5 v0 rfl rfl) h0
  obtain ⟨a1, rfl, rfl, rfl, w1⟩ := open_int Try.underlying5 (hval 1 5 v1 rfl rfl) h1
  clear hA0 hval0
  refine (walk a0 a1 W w0 w1).mono fun e W' ⟨he, kept⟩ => ?_
  subst he
  have bel : Below W.heap.size W W' := kept.toBelow (Nat.le_refl _) (fun _ x => x.elim)
  exact ⟨_, rfl, _, _, _, [], _, [], hW', trodAll_mk1 (shut_bool Try.underlying4 _), (trodAll_cons_mk (shut_int Try.underlying5 w0) (trodAll_cons_mk (shut_int Try.underlying5 w1) trodAll_mk0)), rfl, bel.frame _, fun h => by cases h⟩

theorem over : Rows.LateApartSaid :=
  OpenClaim.holds_of_wide 5 Try.f5 rfl rfl rfl rfl rfl rfl rfl ⟨rfl, rfl, rfl, rfl, rfl⟩ rfl rfl rfl rfl rfl (by kernel_rfl) Try.func5 (by kernel_rfl)
    (of_decide_eq_true (by kernel_rfl)) (by unfold Func.isWrapper; first | (rw [if_pos (by decide +kernel)]; kernel_rfl) | (rw [if_neg (by decide +kernel)]; exact ⟨rfl, rfl⟩))
    (fun os started H enc _ => lifted os started H enc)

/-- The statement. -/
theorem proved : Rows.LateApartSaid := over
#print axioms proved
end Go.Proofs.Ytjchdkjncfjibaa.lateApart
