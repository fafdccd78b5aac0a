/-
  For every input the law HeapWhole of rickyard/rickyardlaw7 returns true, and its arguments read afterwards as before. The law's own sentence: At any time each page is in one free run or in one span, of one of which Of tells. No further conditions.
-/
import Derived.Test.YtdolchlhphoggaaRows
import Derived.Test.YtdolchlhphoggaaKept
import Derived.Test.YtdolchlhphoggaaShell
import Derived.Test.YtdolchlhphoggaaShellInts
import Derived.WalkKit
import Derived.ProofKit
import Derived.OpenShut
import Derived.ChangeOld
import Derived.Below
import Derived.Lib.SmallJoins
import Derived.Test.YtdolchlhphoggaaHeapAwake
import Derived.Deep.CutRange
namespace Go.Proofs.Ytdolchlhphoggaa.heapWhole
open Go.ChangeShapes Go.WideShapes Go.ChangeAt Go.RowKit
set_option linter.unusedVariables false
set_option maxRecDepth 100000

theorem own : ownKnob Try.prog.godebug = none := by kernel_rfl
theorem laidOut : laidOutB Try.prog = true := by kernel_rfl
theorem pages_one {P : Int} {rl : List R} {sl : List S} (h : Whole P rl sl) {p : Int} (h0 : 0 ≤ p) (h1 : p < P) : ofB sl p = !hasB rl p := by
  have o := h.one p h0 h1
  have f := of_iff h.good p
  cases a : ofB sl p <;> cases b : hasB rl p <;> simp_all
theorem right_all {P : Int} {rl : List R} {sl : List S} (h : Whole P rl sl) : rightL P rl = true := by
  unfold rightL
  rw [decide_eq_true (by have := h.pages; omega), Bool.true_and]
  exact (right_iff P 0 rl).2 h.right

set_option maxHeartbeats 8000000 in
/-- The walk: the Go text returns true, and nothing that was there has turned. -/
theorem walk (a0 : Int) (a1 : Option Addr) (len1 cap1 : Nat) (z1 : Nat → Int) (w : World) (w0 : (Lit.int .u8 a0).wf = true) (w1 : len1 ≤ cap1 ∧ cap1 ≤ maxLen ∧ (∀ i, i < len1 → (Lit.int .u8 (z1 i)).wf = true) ∧ Sl w a1 1 len1 fun i _ => .int .u8 (z1 i)) :
    Calls Try.prog 4 #[.int .u8 a0, .slice a1 len1 cap1] w fun e w' => e = .returned (.bool true) ∧ Kept Old w w' := by
  obtain ⟨v0, v1, v2, v3⟩ := w1
  have hl : len1 ≤ 9223372036854775807 := by unfold maxLen at v1; omega
  have hz := Lib.hid (show ∀ i, i < len1 → 0 ≤ z1 i ∧ z1 i ≤ 255 from fun i hi => bounds_u8 (v2 i hi))
  have HS := Lib.hid v3
  obtain ⟨p1, p2⟩ := bounds_u8 w0
  clear v0 v1 v2 v3
  obtain ⟨P, hP⟩ : ∃ P, 1 + a0 = P := ⟨_, rfl⟩
  have P1 : 1 ≤ P := by omega
  have P2 : P ≤ 256 := by omega
  go_enter Try.func4, Try.ntmps4
  go_wp2_with fail
  refine (hp_new w P F0 w P1 P2 (Kept.refl _ _) (fun _ h => h.elim)).mono ?_
  rintro e W ⟨h, rfl, T, -⟩
  have T := Lib.hid T
  go_wp2_with fail
  go_loopw [7] (fun i wr => ∃ (k : Nat) (rl : List R) (sl : List S), k ≤ 401 ∧ i = .int .i64 (k : Int) ∧ Hid (Hp w wr h P rl sl F0)) (fun i _ => 402 - (intOf i).toNat)
  case atStart => exact ⟨0, _, _, by omega, rfl, T⟩
  case round =>
    obtain ⟨k, rl, sl, hk, rfl, T1⟩ := hrel
    rename World => V
    clear T
    have wk : IntKind.i64.wrap ((k : Int) + 1) = (k : Int) + 1 := IntWalk.i64_in _ (by omega)
    by_cases c : k + 1 < len1 ∧ k < 400
    · obtain ⟨c1, c2⟩ := c
      obtain ⟨g, o, rfl, hg, hc⟩ := (HS.out.old T1.out.kept).lies (by omega)
      have d0 := hc k 0 (by omega) (by omega)
      have d1 := hc (k + 1) 0 (by omega) (by omega)
      simp only [Nat.mul_one, Nat.add_zero] at d0 d1
      have y0 := hz.out k (by omega)
      have y1 := hz.out (k + 1) (by omega)
      generalize z1 k = u at *
      generalize z1 (k + 1) = v at *
      have fu : u.tmod 3 = u % 3 := Int.tmod_eq_emod_of_nonneg (by omega)
      have fv : v.tmod 20 = v % 20 := Int.tmod_eq_emod_of_nonneg (by omega)
      have fr : u.tmod 8 = u % 8 := Int.tmod_eq_emod_of_nonneg (by omega)
      have q0 : IntKind.u8.wrap (u % 3) = u % 3 := IntWalk.u8_in _ (by omega)
      clear hc hz HS
      by_cases cu : 0 < u % 3
      · go_wp2_with fail
        have cd0 : World.cell? { heap := V.heap, tape := V.tape, drawn := V.drawn + 1, os := V.os, output := V.output } ⟨g, o + k, none⟩ = some (.int .u8 u) := d0
        have cd1 : World.cell? { heap := V.heap, tape := V.tape, drawn := V.drawn + 1, os := V.os, output := V.output } ⟨g, o + (k + 1), none⟩ = some (.int .u8 v) := d1
        have j0 : (k : Int) < (len1 : Int) := by omega
        have j1 : (k : Int) + 1 < (len1 : Int) := by omega
        have j2 : (0 : Int) ≤ (k : Int) + 1 := by omega
        have j3 : ((k : Int) + 1).toNat = k + 1 := by omega
        have j4 : IntKind.i64.wrap u = u := IntWalk.i64_in _ (by omega)
        have j5 : IntKind.i64.wrap v = v := IntWalk.i64_in _ (by omega)
        have j6 : IntKind.i64.wrap (u % 8) = u % 8 := IntWalk.i64_in _ (by omega)
        have j7 : IntKind.i64.wrap (v % 20) = v % 20 := IntWalk.i64_in _ (by omega)
        have j8 : IntKind.i64.wrap (1 + v % 20) = 1 + v % 20 := IntWalk.i64_in _ (by omega)
        have T2 := Lib.hid (T1.out.old ((Kept.refl Old V).drew))
        go_still_tail 15, (by kernel_rfl)
        change wpList _ _ _ _ _ V.drew
        go_wp2_with fail
        refine (hp_alloc _ _ T2.out).mono ?_
        rintro e V2 ⟨rfl, T3, -⟩
        have T3 := Lib.hid T3
        go_wp2
        refine ⟨⟨k + 2, _, _, by omega, by go_num, T3⟩, ?_⟩
        simp [intOf]; omega
      · go_wp2_with fail
        refine (hp_free _ T1.out).mono ?_
        rintro e V2 ⟨rfl, T3, -⟩
        have T3 := Lib.hid T3
        go_wp2
        refine ⟨⟨k + 2, _, _, by omega, by go_num, T3⟩, ?_⟩
        simp [intOf]; omega
    · have cc : ¬ (k : Int) + 1 < (len1 : Int) ∨ ((k : Int) + 1 < (len1 : Int) ∧ ¬ (k : Int) < 400) := by omega
      clear c hz HS
      rcases cc with ca | ⟨ca, cb⟩
      all_goals
        go_wp2_with fail
        refine (hp_runs T1.out).mono ?_
        rintro e W1 ⟨g, rfl, R1, k1, -, -⟩
        have wl := T1.out.whole.len
        have T2 := Lib.hid (T1.out.old k1)
        have R1 := Lib.hid R1
        have WH := Lib.hid T1.out.whole
        clear k1 T1
        obtain ⟨n, hln⟩ : ∃ n, sl.length = n := ⟨_, rfl⟩
        obtain ⟨m, hlm⟩ : ∃ m, rl.length = m := ⟨_, rfl⟩
        rw [hlm] at R1
        rw [hlm, hln] at wl
        rw [hlm]
        have hln := Lib.hid hln
        have hlm := Lib.hid hlm
        obtain ⟨wl1, wl2⟩ := wl
        go_wp2_with fail
        go_loopw [9, 10] (fun s i wr => ∃ j : Nat, j ≤ n ∧ s = .int .i64 (sumN (sl.take j)) ∧ i = .int .i64 (j : Int) ∧ Hid (Kept Old W1 wr)) (fun _ i _ => n - (intOf i).toNat)
        case atStart => exact ⟨0, by omega, by simp [sumN], rfl, Lib.hid (Kept.refl _ _)⟩
        case round =>
          obtain ⟨j, hj, rfl, rfl, K⟩ := hrel
          rename World => X
          have TX := Lib.hid (T2.out.old K.out)
          by_cases c2 : j < n
          · go_wp2_with fail
            refine (hp_spans TX.out).mono ?_
            rintro e X1 ⟨A, cA, rfl, R5, k5, -⟩
            rw [hln.out]
            have T5 := Lib.hid (TX.out.old k5)
            have K5 := Lib.hid (K.out.trans k5)
            clear R5 k5 TX
            go_wp2_with fail
            refine (hp_spans T5.out).mono ?_
            rintro e X2 ⟨A2, cA2, rfl, R6, k6, -, g6, cs6, rfl, -, -⟩
            rw [hln.out] at R6 ⊢
            obtain ⟨gg, o, x, e', _, hx, f1, a0, a1, a2⟩ := R6.get c2
            obtain ⟨rfl, rfl⟩ : g6 = gg ∧ 0 = o := by injection e' with e'; injection e' with e1 e2; exact ⟨e1, e2⟩
            simp only [Nat.zero_add] at a0 a1 a2
            obtain ⟨b1, b2, b3, b4, b5⟩ := WH.out.good.at hx
            have sb := (WH.out.good.sub (List.take_sublist j sl)).sum (by omega)
            have ts := Lib.hid (sum_snoc hx)
            have K6 := Lib.hid (K5.out.trans k6)
            generalize sumN (sl.take j) = sm at *
            clear R6 hx f1 T5 K5 k6 K e'
            go_wp2
            refine ⟨⟨j + 1, by omega, by rw [ts.out], by go_num, K6⟩, ?_⟩
            simp [intOf]; omega
          · have e1 : sl.take j = sl := List.take_of_length_le (by have := hln.out; omega)
            rw [e1]
            have sb := WH.out.good.sum (by omega)
            have st := WH.out.sum
            generalize hsm : sumN sl = sm at *
            have st := Lib.hid st
            go_wp2_with fail
            refine (hp_spans TX.out).mono ?_
            rintro e X1 ⟨A, cA, rfl, R5, k5, -⟩
            rw [hln.out]
            have K5 := Lib.hid (K.out.trans k5)
            clear R5 k5 TX
            go_wp2_with fail
            go_loopw [11] (fun i wr => ∃ y : Nat, (y : Int) ≤ P ∧ i = .int .i64 (y : Int) ∧ Hid (Kept Old W1 wr)) (fun i _ => P.toNat - (intOf i).toNat)
            case atStart => exact ⟨0, by omega, rfl, K5⟩
            case round =>
              obtain ⟨y, hy, rfl, K7⟩ := hrel
              rename World => Y
              by_cases c3 : (y : Int) < P
              · have TY := Lib.hid (T2.out.old K7.out)
                have po := pages_one WH.out (p := (y : Int)) (by omega) c3
                go_wp2_with fail
                refine (hp_of _ TY.out).mono ?_
                rintro e Y1 ⟨rfl, k8⟩
                rw [po]
                have KZ := Lib.hid ((K7.out.trans k8).alloc (.cells #[.int .i64 (ofX sl (y : Int)).a, .int .i64 (ofX sl (y : Int)).n, .int .i64 (ofX sl (y : Int)).c] 44))
                generalize ofX sl (y : Int) = xx at *
                have po := Lib.hid po
                clear k8 TY
                go_wp2_with fail
                refine (has_any _ _ _ rl _ _ (R1.out.old KZ.out) WH.out.wide).mono ?_
                rintro e Y2 ⟨rfl, k9⟩
                have K9 := Lib.hid (KZ.out.trans k9)
                clear k9 KZ
                cases hasB rl (y : Int)
                all_goals
                  go_wp2
                  refine ⟨⟨y + 1, by omega, by go_num, K9⟩, ?_⟩
                  simp [intOf]; omega
              · have KP := T2.out.kept
                go_wp2_with fail
                refine (right_any _ _ _ rl P _ (R1.out.old K7.out) (by omega)).mono ?_
                rintro e Y1 ⟨rfl, k8⟩
                rw [right_all WH.out]
                have K8 := Lib.hid (K7.out.trans k8)
                clear k8
                go_wp2_with fail
                refine (total_any _ _ _ rl _ (R1.out.old K8.out) WH.out.wide).mono ?_
                rintro e Y2 ⟨rfl, k9⟩
                have K9 := Lib.hid (K8.out.trans k9)
                have tb := total_le WH.out.right (by omega)
                have st' := st.out
                generalize totalL rl = tt at *
                clear k9
                go_wp2_with fail
                refine (awakeH_any _).mono ?_
                rintro e Y3 ⟨rfl, k10⟩
                have K10 := Lib.hid ((KP.trans K9.out).trans k10)
                clear k10
                go_wp2
                go_ret
                exact ⟨rfl, K10.out⟩

/-- The row's step. -/
theorem lifted (os : Os) (started : os.Started) (H : Type) (enc : TypeId × Value → H) :
    ReturnsInHanded {} Try.checked os 4 .any (Rows.heapWholeSpec.pre6 enc Try.prog Try.f4 Rows.heapWholeRow.domain false) (Rows.heapWholeSpec.post enc Try.prog Try.f4 false true false false) := by
  refine returnsInHanded_of_change (C := Try.checked) own started (by kernel_rfl) Try.func4
    (ChangeSpec.witness6 (enc := enc) (C := Try.checked) false ⟨#[], #[.int .u8 0, .slice none 0 0], []⟩ 8 (by kernel_rfl) (by kernel_rfl) (by kernel_rfl) (by kernel_rfl)) ?_
  intro W base args ds gs before hval0 hW hcnd _
  have hval : ∀ (j : Nat) t v, Try.f4.params[j]? = some t → args[j]? = some v → Value.okWide Try.prog W .any base t v := hval0
  have hW' := hW
  obtain ⟨p, q, hA0, hV, rfl, hfz, hnd⟩ := hW
  have hA : DataW.TrodAll enc Try.prog W 0 (fun _ => true) true Try.f4.params.toList args.toList ds p := hA0
  rw [Try.params4] at hA hval
  obtain ⟨v0, vs0, d0, ds0, p0, q0, hargs, rfl, rfl, h0, r0⟩ := trodAll_cons hA
  obtain ⟨v1, vs1, d1, ds1, p1, q1, rfl, rfl, rfl, h1, r1⟩ := trodAll_cons r0
  obtain ⟨rfl, rfl, rfl⟩ := trodAll_nil r1
  obtain rfl : args = #[v0, v1] := by cases args; simp_all
  obtain ⟨rfl, rfl⟩ := trodVars_none hV
  obtain ⟨a0, rfl, rfl, rfl, w0⟩ := open_int Try.underlying5 (hval 0 5 v0 rfl rfl) h0
  have k1 := h1
  have lt1 : ∀ x ∈ p1, x.block < W.heap.size := by obtain ⟨m, hm⟩ := k1; exact DataW.trod_lt m _ _ _ hm
  obtain ⟨a1, len1, cap1, rfl⟩ := okWide_slice Try.underlying50 (hval 1 50 v1 rfl rfl)
  obtain ⟨z1, w1⟩ := ints_in Try.underlying50 Try.underlying5 (by kernel_rfl) h1
  clear hA0 hval0
  refine (walk a0 a1 len1 cap1 z1 W w0 w1).mono fun e W' ⟨he, kept⟩ => ?_
  subst he
  have bel : Below W.heap.size W W' := kept.toBelow (Nat.le_refl _) (fun _ x => x.elim)
  exact ⟨_, rfl, _, _, _, [], _, [], hW', trodAll_mk1 (shut_bool Try.underlying4 _), (trodAll_cons_mk (shut_int Try.underlying5 w0) (trodAll_cons_mk (Below.trod laidOut (by kernel_rfl) (of_decide_eq_true (by kernel_rfl)) k1 bel lt1) trodAll_mk0)), rfl, bel.frame _, fun h => by cases h⟩

theorem over : Rows.HeapWholeSaid :=
  OpenClaim.holds_of_wide 4 Try.f4 rfl rfl rfl rfl rfl rfl rfl ⟨rfl, rfl, rfl, rfl, rfl⟩ rfl rfl rfl rfl rfl (by kernel_rfl) Try.func4 (by kernel_rfl)
    (of_decide_eq_true (by kernel_rfl)) (by unfold Func.isWrapper; first | (rw [if_pos (by decide +kernel)]; kernel_rfl) | (rw [if_neg (by decide +kernel)]; exact ⟨rfl, rfl⟩))
    (fun os started H enc _ => lifted os started H enc)

/-- The statement. -/
theorem proved : Rows.HeapWholeSaid := over
#print axioms proved
end Go.Proofs.Ytdolchlhphoggaa.heapWhole
