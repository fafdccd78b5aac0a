/-
  Plain facts on words as numbers: signs, sums and products either way round, what is no number, floors. Own work. Conditions: as each states.
-/
import Derived.Test.YtbkemghabhpdhaaDoorFltMath
namespace Go.Proofs.YtbkemghabhpdhaaDoor
open Ieee
/-! ### Signs, sums, products either way round -/
theorem negneg (a : Nat) (h : a < 2 ^ 64) : wordW (negF (wordW (negF a))) = wordW a := by
  have f := nan_negF a h
  cases c : nanW a
  · rw [wordW_num (f.1.trans c)]
    have e : negF (negF a) = a := by
      unfold negF
      by_cases p : a < 2 ^ 63
      · rw [if_pos p, if_neg (by omega)]; omega
      · rw [if_neg p, if_pos (by omega)]; omega
    rw [e]
  · rw [wordW_nan (f.1.trans c), wordW_nan c]
    exact wordW_nan ((nan_negF noneW (by unfold noneW; omega)).1.trans nan_noneW)
theorem sum_comm (x y : Datum) : x.sum y = y.sum x := by
  cases x <;> cases y <;> try rfl
  · rename_i s m i t n j
    simp only [Datum.sum]
    rw [Int.min_comm j i, Int.add_comm, Bool.and_comm]
  · rename_i s t
    simp only [Datum.sum]
    by_cases c : s = t
    · rw [c]
    · rw [if_neg c, if_neg (Ne.symm c)]
theorem add_comm' (a b : Nat) : Ieee.double.add a b = Ieee.double.add b a := by
  unfold Format.add; rw [sum_comm]
theorem product_comm (x y : Datum) : x.product y = y.product x := by
  cases x <;> cases y <;> try rfl
  · rename_i s m i t n j
    simp only [Datum.product]
    rw [Bool.xor_comm, Nat.mul_comm, Int.add_comm]
  · rename_i s t
    simp only [Datum.product]
    rw [Bool.xor_comm]
theorem mul_comm' (a b : Nat) : Ieee.double.mul a b = Ieee.double.mul b a := by
  unfold Format.mul; rw [product_comm]
theorem read_negF (b : Nat) (h : b < 2 ^ 64) : Ieee.double.read (negF b) = (Ieee.double.read b).opposite := by
  have f := nan_negF b h
  have hr : rungW (negF b) = rungW b := by
    unfold rungW negF
    split <;> omega
  have hs : negW (negF b) = !negW b := by
    unfold negW negF
    by_cases p : b < 2 ^ 63
    · rw [if_pos p, decide_eq_true (by omega), decide_eq_false (by omega)]; rfl
    · rw [if_neg p, decide_eq_false (by omega), decide_eq_true (by omega)]; rfl
  rw [read_eq _ f.2, read_eq b h, hr, hs]
  split
  · rfl
  · split
    · rfl
    · split <;> rfl
theorem sub_add (a b : Nat) (hb : b < 2 ^ 64) : Ieee.double.add a (wordW (negF b)) = Ieee.double.sub a b := by
  have f := nan_negF b hb
  cases c : nanW b
  · rw [wordW_num (f.1.trans c)]
    unfold Format.add Format.sub
    rw [read_negF b hb]
  · rw [wordW_nan (f.1.trans c)]
    unfold Format.add Format.sub
    rw [read_nan b hb c, read_nan noneW (by unfold noneW; omega) nan_noneW]
    cases Ieee.double.read a <;> rfl
theorem true_equal (a : Nat) (h : a < 2 ^ 64) : trueW a = !equalW a 0 := by
  rw [← order_true a h, ← order_beq a 0 h (by omega)]
  rfl

/-! ### What is no number -/
theorem add_nan (a b : Nat) (ha : a < 2 ^ 64) (h : nanW a = true) : Ieee.double.add a b = none := by
  unfold Format.add; rw [read_nan a ha h]; cases Ieee.double.read b <;> rfl
theorem sub_nan (a b : Nat) (ha : a < 2 ^ 64) (h : nanW a = true) : Ieee.double.sub a b = none ∧ Ieee.double.sub b a = none := by
  unfold Format.sub; rw [read_nan a ha h]
  exact ⟨by cases Ieee.double.read b <;> rfl, by cases Ieee.double.read b <;> rfl⟩
theorem mul_nan (a b : Nat) (ha : a < 2 ^ 64) (h : nanW a = true) : Ieee.double.mul a b = none := by
  unfold Format.mul; rw [read_nan a ha h]; cases Ieee.double.read b <;> rfl
theorem div_nan (a b : Nat) (ha : a < 2 ^ 64) (h : nanW a = true) : Ieee.double.div a b = none ∧ Ieee.double.div b a = none := by
  unfold Format.div; rw [read_nan a ha h]
  exact ⟨by cases Ieee.double.read b <;> rfl, by cases Ieee.double.read b <;> rfl⟩

/-! ### Floors -/
/-- What is not whole lies between its floor and one more. -/
theorem floor_facts (a : Nat) (h : a < 2 ^ 64) (hn : nanW a = false) :
    lessW a (floorN a) = false ∧ floorN (floorN a) = floorN a ∧ (floorN a = a ∨ lessW a (optW (Ieee.double.add (floorN a) (intW 1))) = true) := by
  by_cases ci : rungW a = 2047 * 2 ^ 52
  · have e := floor_inf a h ci
    rw [e, e]
    refine ⟨?_, rfl, Or.inl rfl⟩
    unfold lessW; rw [decide_eq_false (by omega), Bool.and_false]
  · have hr : rungW a < 2047 * 2 ^ 52 := by have := notnan_rung hn; omega
    obtain ⟨r, hr', e, f⟩ := floor_num a h hr
    have wf := word_facts (negW a) r (by omega)
    have sv := sval_word (negW a) r (by omega)
    rw [← f] at wf sv
    obtain ⟨w1, w2, w3, w4⟩ := wf
    have idem : floorN (floorN a) = floorN a := floor_whole _ w4 (by rw [w2]; exact hr') (by rw [w2, e]; exact Nat.mul_mod_left _ _)
    have up := U_pos
    have dm : valR (rungW a) / U * U + valR (rungW a) % U = valR (rungW a) := by rw [Nat.mul_comm]; exact Nat.div_add_mod _ _
    have ml : valR (rungW a) % U < U := Nat.mod_lt _ up
    have sa : svalW a = sgn (negW a) (valR (rungW a)) := rfl
    rw [e] at sv
    have qe : floorQ (negW a) (valR (rungW a)) = valR (rungW a) / U + (negW a && (valR (rungW a) % U != 0)).toNat := rfl
    by_cases z : valR (rungW a) % U = 0
    · have q0 : floorQ (negW a) (valR (rungW a)) = valR (rungW a) / U := by rw [qe, z]; simp
      have ea : floorN a = a := floor_whole a h hr z
      refine ⟨?_, idem, Or.inl ea⟩
      rw [ea]
      unfold lessW; rw [decide_eq_false (by omega), Bool.and_false]
    · have zb : (valR (rungW a) % U != 0) = true := by simpa using z
      rw [zb, Bool.and_true] at qe
      have small := val_small a h hr z
      have e1 := sval_int 1 (by omega)
      obtain ⟨r1, hr1, v1, f1⟩ := int_facts 1 (by omega)
      have wf1 := word_facts (decide ((1 : Int) < 0)) r1 (by omega)
      rw [← f1] at wf1
      obtain ⟨_, x2, x3, x4⟩ := wf1
      -- the floor's value, and one more
      have S : ∃ N : Int, svalW (floorN a) + svalW (intW 1) = N * (U : Int) ∧ N.natAbs ≤ 2 ^ 53 ∧ svalW a < N * (U : Int) ∧ svalW (floorN a) ≤ svalW a := by
        rw [sv, e1, sa, qe]
        generalize hQ : valR (rungW a) / U = Q at *
        generalize hM : valR (rungW a) % U = M at *
        cases c : negW a
        · refine ⟨(Q : Int) + 1, ?_, by omega, ?_, ?_⟩
          · simp only [sgn, Bool.toNat_false, Nat.add_zero, Bool.false_eq_true, if_false]
            rw [Int.add_mul, Int.natCast_mul]
          · simp only [sgn, Bool.false_eq_true, if_false]
            rw [Int.add_mul, ← Int.natCast_mul]
            omega
          · simp only [sgn, Bool.toNat_false, Nat.add_zero, Bool.false_eq_true, if_false]
            omega
        · refine ⟨-(Q : Int), ?_, by omega, ?_, ?_⟩
          · simp only [sgn, Bool.toNat_true, if_true]
            rw [Int.natCast_mul, Int.natCast_add, Int.neg_mul, Int.add_mul]
            omega
          · simp only [sgn, if_true]
            rw [Int.neg_mul, ← Int.natCast_mul]
            omega
          · simp only [sgn, Bool.toNat_true, if_true]
            rw [Int.natCast_mul, Int.natCast_add, Int.add_mul, ← Int.natCast_mul]
            omega
      obtain ⟨N, sN, bN, lN, fN⟩ := S
      obtain ⟨rn, hrn, vn⟩ := rung_whole N.natAbs bN
      have ad := add_exact (floorN a) (intW 1) rn w4 x4 (by rw [w2]; exact hr') (by rw [x2]; exact hr1) (by omega) (by rw [sN, natAbs_mul_pow, vn])
      refine ⟨?_, idem, Or.inr ?_⟩
      · unfold lessW; rw [decide_eq_false (by omega), Bool.and_false]
      · rw [ad]
        show lessW a (wordW _) = true
        have wn := word_facts (if svalW (floorN a) + svalW (intW 1) = 0 then negW (floorN a) && negW (intW 1) else decide (svalW (floorN a) + svalW (intW 1) < 0)) rn (by omega)
        rw [wordW_num wn.2.2.1]
        unfold lessW
        rw [hn, wn.2.2.1, sval_word _ _ (by omega), vn]
        have val : sgn (if svalW (floorN a) + svalW (intW 1) = 0 then negW (floorN a) && negW (intW 1) else decide (svalW (floorN a) + svalW (intW 1) < 0)) (N.natAbs * U) = N * (U : Int) := by
          rw [sN]
          by_cases n0 : N = 0
          · rw [n0]
            unfold sgn
            split <;> simp
          · have up' : (0 : Int) < (U : Int) := by omega
            have c1 : ¬ N * (U : Int) = 0 := by
              intro hz
              rcases Int.mul_eq_zero.1 hz with c | c <;> omega
            rw [if_neg c1]
            have c2 : (N * (U : Int) < 0) ↔ N < 0 := by
              have := Int.mul_lt_mul_right (b := N) (c := 0) up'
              rw [Int.zero_mul] at this
              exact this
            rw [decide_eq_decide.2 c2]
            exact sgn_int N U
        rw [val, decide_eq_true lN]
        rfl
end Go.Proofs.YtbkemghabhpdhaaDoor
