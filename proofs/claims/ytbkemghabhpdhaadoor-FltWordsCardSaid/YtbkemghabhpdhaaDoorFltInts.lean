/-
  Whole numbers as words: sums, differences, products, order, floors and texts of them. Own work. Conditions: as each states.
-/
import Derived.Test.YtbkemghabhpdhaaDoorRows
import Derived.Test.YtbkemghabhpdhaaDoorFltRead
import Derived.WalkKit
import Derived.ProofKit
import Derived.OpenShut
import Derived.Outline
import Derived.Deep.Light
import Derived.Lib.Hide
import Derived.WalkLawsBesides
import Derived.Lib.SmallJoins
namespace Go.Proofs.YtbkemghabhpdhaaDoor
open Go.ChangeShapes Go.WideShapes Go.ChangeAt Go.RowKit
set_option maxRecDepth 100000
theorem read_any (n : Int) (w : World) (h : n.natAbs < 2 ^ 53) :
    Calls Tryd.prog 45 #[.string ⟨(Lib.itoa n).toArray⟩] w fun e w' => e = .returned (.tuple #[.int .i64 n, .bool true]) ∧ w = w' := by
  by_cases c : n < 0
  · have e := itoa_parts n
    rw [if_pos c] at e
    have := read_neg ⟨(Lib.itoa n).toArray⟩ _ n.natAbs w h (by omega) (Lib.hid (by show (Lib.itoa n).toArray.toList = _; rw [e])) rfl
    rwa [show -(n.natAbs : Int) = n by omega] at this
  · have e := itoa_parts n
    rw [if_neg c] at e
    have := read_pos ⟨(Lib.itoa n).toArray⟩ n.natAbs w h (Lib.hid (by show (Lib.itoa n).toArray.toList = _; rw [e]))
    rwa [show (n.natAbs : Int) = n by omega] at this

/-! ### Whole numbers' words -/
theorem int_parts (n : Int) (h : n.natAbs ≤ 2 ^ 53) : ∃ r, r < 2047 * 2 ^ 52 ∧ valR r = n.natAbs * U ∧ intW n = Ieee.double.word (decide (n < 0)) r ∧ negW (intW n) = decide (n < 0) ∧ rungW (intW n) = r ∧ nanW (intW n) = false ∧ intW n < 2 ^ 64 := by
  obtain ⟨r, hr, e, f⟩ := int_facts n h
  have w := word_facts (decide (n < 0)) r (by omega)
  rw [← f] at w
  exact ⟨r, hr, e, f, w⟩
theorem text_int (n : Int) (h : n.natAbs < 2 ^ 53) : textL (intW n) = Lib.itoa n := by
  obtain ⟨r, hr, e, f, w1, w2, w3, w4⟩ := int_parts n (by omega)
  obtain ⟨x1, x2⟩ := whole_word n h
  have d1 : intW n ≠ 9218868437227405312 := by intro z; rw [z] at w2; unfold rungW at w2; omega
  have d2 : intW n ≠ 18442240474082181120 := by intro z; rw [z] at w2; unfold rungW at w2; omega
  have d3 : intW n ≠ 9223372036854775808 := by
    intro z
    rw [z] at w2 w1
    have r0 : r = 0 := by rw [← w2]; unfold rungW; omega
    rw [r0, valR_zero] at e
    have up := U_pos
    have n0 : n.natAbs = 0 := by
      rcases Nat.mul_eq_zero.1 e.symm with c | c
      · exact c
      · omega
    have : decide (n < 0) = false := decide_eq_false (by omega)
    rw [this] at w1
    have : negW 9223372036854775808 = true := decide_eq_true (by omega)
    rw [this] at w1
    cases w1
  rw [textL_dec w3 d1 d2 d3 x1, x2]
theorem mulU (a b : Int) : a * (U : Int) + b * (U : Int) = (a + b) * (U : Int) := by rw [Int.add_mul]
theorem mulU_zero (a : Int) : a * (U : Int) = 0 ↔ a = 0 := by
  have up := U_pos
  rw [Int.mul_eq_zero]
  constructor
  · rintro (c | c)
    · exact c
    · omega
  · intro c; exact Or.inl c
theorem mulU_lt (a b : Int) : a * (U : Int) < b * (U : Int) ↔ a < b := by
  have up := U_pos
  exact Int.mul_lt_mul_right (by omega)
theorem mulU_eq (a b : Int) : a * (U : Int) = b * (U : Int) ↔ a = b := by
  have up := U_pos
  exact Int.mul_eq_mul_right_iff (by omega)
theorem add_words (x y : Nat) (m n : Int) (hx : x < 2 ^ 64) (hy : y < 2 ^ 64) (rx : rungW x < 2047 * 2 ^ 52) (ry : rungW y < 2047 * 2 ^ 52) (sx : svalW x = m * (U : Int)) (sy : svalW y = n * (U : Int))
    (hb : (m + n).natAbs ≤ 2 ^ 53) (hz : m + n = 0 → (negW x && negW y) = false) : optW (Ieee.double.add x y) = intW (m + n) := by
  obtain ⟨r, hr, e, f, w1, w2, w3, w4⟩ := int_parts (m + n) hb
  have ad := add_exact x y r hx hy rx ry (by omega) (by rw [sx, sy, mulU, natAbs_mul_pow, e])
  rw [ad]
  show wordW _ = _
  rw [wordW_num (nan_word _ _ (by omega)).1, f, sx, sy, mulU]
  congr 1
  by_cases z : m + n = 0
  · rw [if_pos ((mulU_zero _).2 z), hz z, z]; rfl
  · rw [if_neg (fun c => z ((mulU_zero _).1 c))]
    have := mulU_lt (m + n) 0
    rw [Int.zero_mul] at this
    exact decide_eq_decide.2 this
theorem int_add (m n : Int) (hm : m.natAbs ≤ 2 ^ 32) (hn : n.natAbs ≤ 2 ^ 32) : optW (floatBits .add .f64 (intW m) (intW n)) = intW (m + n) := by
  obtain ⟨r, hr, _, _, w1, w2, w3, w4⟩ := int_parts m (by omega)
  obtain ⟨s, hs, _, _, x1, x2, x3, x4⟩ := int_parts n (by omega)
  refine add_words _ _ m n w4 x4 (by omega) (by omega) (sval_int m (by omega)) (sval_int n (by omega)) (by omega) (fun z => ?_)
  rw [w1, x1]
  by_cases c : m < 0
  · rw [decide_eq_false (show ¬ n < 0 by omega), Bool.and_false]
  · rw [decide_eq_false c, Bool.false_and]
theorem sval_negF (x : Nat) (h : x < 2 ^ 64) : svalW (negF x) = -svalW x := by
  unfold negF
  by_cases p : x < 2 ^ 63
  · rw [if_pos p, sval_neg (by omega) (by omega), sval_pos p, show x + 2 ^ 63 - 2 ^ 63 = x by omega]
  · rw [if_neg p, sval_pos (by omega), sval_neg p h, Int.neg_neg]
theorem int_sub (m n : Int) (hm : m.natAbs ≤ 2 ^ 32) (hn : n.natAbs ≤ 2 ^ 32) : optW (floatBits .sub .f64 (intW m) (intW n)) = intW (m - n) := by
  obtain ⟨r, hr, _, _, w1, w2, w3, w4⟩ := int_parts m (by omega)
  obtain ⟨s, hs, _, _, x1, x2, x3, x4⟩ := int_parts n (by omega)
  have q := nan_negF (intW n) x4
  have e : floatBits .sub .f64 (intW m) (intW n) = Ieee.double.add (intW m) (negF (intW n)) := by
    rw [← wordW_num (q.1.trans x3)]
    exact (sub_add (intW m) (intW n) x4).symm
  rw [e]
  have rn : rungW (negF (intW n)) = rungW (intW n) := by unfold rungW negF; split <;> omega
  have sn : negW (negF (intW n)) = !decide (n < 0) := by
    rw [← x1]
    unfold negW negF
    by_cases p : intW n < 2 ^ 63
    · rw [if_pos p, decide_eq_true (by omega), decide_eq_false (by omega)]; rfl
    · rw [if_neg p, decide_eq_false (by omega), decide_eq_true (by omega)]; rfl
  have hsv : svalW (negF (intW n)) = (-n) * (U : Int) := by rw [sval_negF _ x4, sval_int n (by omega), Int.neg_mul]
  have := add_words (intW m) (negF (intW n)) m (-n) w4 q.2 (by omega) (by omega) (sval_int m (by omega)) hsv (by omega) (fun z => by
    rw [w1, sn]
    by_cases c : m < 0
    · rw [decide_eq_true (show n < 0 by omega)]; simp
    · rw [decide_eq_false c, Bool.false_and])
  rw [this, Int.sub_eq_add_neg]
theorem int_mul (m n : Int) (hm : m.natAbs ≤ 2 ^ 16) (hn : n.natAbs ≤ 2 ^ 16) (m0 : m ≠ 0) (n0 : n ≠ 0) : optW (floatBits .mul .f64 (intW m) (intW n)) = intW (m * n) := by
  obtain ⟨r, hr, v, _, w1, w2, w3, w4⟩ := int_parts m (by omega)
  obtain ⟨s, hs, v', _, x1, x2, x3, x4⟩ := int_parts n (by omega)
  have ab : (m * n).natAbs = m.natAbs * n.natAbs := Int.natAbs_mul m n
  have bd : m.natAbs * n.natAbs ≤ 2 ^ 16 * 2 ^ 16 := Nat.mul_le_mul hm hn
  obtain ⟨q, hq, e, f, _⟩ := int_parts (m * n) (by omega)
  have := mul_exact (intW m) (intW n) q m.natAbs n.natAbs w4 x4 (by omega) (by omega) (by omega) (by rw [w2, v]) (by rw [x2, v']) (by omega) (by omega) (by rw [← ab, e])
  show optW (Ieee.double.mul (intW m) (intW n)) = _
  rw [this]
  show wordW _ = _
  rw [wordW_num (nan_word _ _ (by omega)).1, f, w1, x1]
  congr 1
  rw [Bool.eq_iff_iff]
  simp only [decide_eq_true_eq, bne_iff_ne, ne_eq]
  rcases Int.lt_or_gt_of_ne m0 with c | c <;> rcases Int.lt_or_gt_of_ne n0 with d | d
  · have := Int.mul_pos_of_neg_of_neg c d
    simp [c, d]; omega
  · have := Int.mul_neg_of_neg_of_pos c d
    simp [c, this, Int.not_lt.2 (Int.le_of_lt d)]
  · have := Int.mul_neg_of_pos_of_neg c d
    simp [d, this, Int.not_lt.2 (Int.le_of_lt c)]
  · have := Int.mul_pos c d
    simp [Int.not_lt.2 (Int.le_of_lt c), Int.not_lt.2 (Int.le_of_lt d)]; omega
theorem int_less (m n : Int) (hm : m.natAbs ≤ 2 ^ 53) (hn : n.natAbs ≤ 2 ^ 53) : lessW (intW m) (intW n) = decide (m < n) := by
  unfold lessW
  rw [(int_lt m).1, (int_lt n).1, sval_int m hm, sval_int n hn, decide_eq_decide.2 (mulU_lt m n)]
  rfl
theorem int_equal (m n : Int) (hm : m.natAbs ≤ 2 ^ 53) (hn : n.natAbs ≤ 2 ^ 53) : equalW (intW m) (intW n) = (m == n) := by
  unfold equalW
  rw [(int_lt m).1, (int_lt n).1, sval_int m hm, sval_int n hn, Bool.eq_iff_iff]
  simp only [Bool.or_self, Bool.not_false, Bool.true_and, decide_eq_true_eq, beq_iff_eq]
  exact mulU_eq m n
theorem int_true (m : Int) (hm : m.natAbs ≤ 2 ^ 53) : trueW (intW m) = (m != 0) := by
  have h := sval_zero (intW m) (int_lt m).2
  rw [sval_int m hm, mulU_zero] at h
  unfold trueW
  rw [Bool.eq_iff_iff]
  simp only [decide_eq_true_eq, bne_iff_ne, ne_eq]
  omega
theorem int_floor (m : Int) (hm : m.natAbs ≤ 2 ^ 53) : floorW (intW m) = intW m := by
  obtain ⟨r, hr, v, _, w1, w2, w3, w4⟩ := int_parts m hm
  rw [floorW_num _ w3]
  exact floor_whole _ w4 (by omega) (by rw [w2, v]; exact Nat.mul_mod_left _ _)
theorem text_ne (a b : Nat) (h : textL a ≠ textL b) : (textL a == textL b) = false := by
  rw [beq_eq_false_iff_ne]
  exact h
theorem mul_bound (m n : Int) (hm : m.natAbs ≤ 2 ^ 16) (hn : n.natAbs ≤ 2 ^ 16) : -4294967296 ≤ m * n ∧ m * n ≤ 4294967296 := by
  have ab : (m * n).natAbs = m.natAbs * n.natAbs := Int.natAbs_mul m n
  have bd : m.natAbs * n.natAbs ≤ 2 ^ 16 * 2 ^ 16 := Nat.mul_le_mul hm hn
  omega
end Go.Proofs.YtbkemghabhpdhaaDoor
