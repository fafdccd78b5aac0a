/-
  Plain facts on numbers, with no program in sight: the length in bits, powers of two, quotients rounded up, multiples, pages, runs of words that meet. Own work; nothing is assumed.
-/
import Derived.WalkKit
import Derived.ProofKit
import Derived.WalkSpells
import Derived.WalkLawsBesides
import Derived.Lib.BitFns
namespace Go.Proofs.Ytjipfhjfochoaaa
open Go.RowKit

/-! ### Length in bits -/
theorem bitLen_zero : Lib.bitLen 0 = 0 := by decide
theorem bitLen_bounds : ∀ (x : Nat), x < 2 ^ 64 → x < 2 ^ Lib.bitLen x ∧ (x ≠ 0 → 2 ^ Lib.bitLen x ≤ 2 * x) := by
  intro x
  induction x using Nat.strongRecOn with
  | ind x ih =>
    intro h
    by_cases h0 : x = 0
    · subst h0
      exact ⟨by decide, fun h => absurd rfl h⟩
    · have e := Lib.bitLen_half x h0 h
      obtain ⟨i1, i2⟩ := ih (x / 2) (by omega) (by omega)
      have p : 2 ^ Lib.bitLen x = 2 * 2 ^ Lib.bitLen (x / 2) := by rw [e, Nat.pow_add]
      refine ⟨by omega, fun _ => ?_⟩
      by_cases h1 : x / 2 = 0
      · rw [h1, bitLen_zero] at p
        simp at p
        omega
      · have := i2 h1
        omega
theorem bitLen_eq (x k : Nat) (h : x < 2 ^ 64) (h1 : x < 2 ^ k) (h2 : k ≠ 0 → 2 ^ k ≤ 2 * x) : Lib.bitLen x = k := by
  obtain ⟨i1, i2⟩ := bitLen_bounds x h
  by_cases hk : k = 0
  · subst hk
    have : x = 0 := by simpa using h1
    subst this
    exact bitLen_zero
  · have h2 := h2 hk
    have pk : 0 < 2 ^ k := Nat.two_pow_pos k
    have hx : x ≠ 0 := by omega
    have i2 := i2 hx
    by_cases a : Lib.bitLen x < k
    · have := Nat.pow_le_pow_right (n := 2) (by decide) (show Lib.bitLen x + 1 ≤ k from a)
      rw [Nat.pow_succ] at this
      omega
    · by_cases b : k < Lib.bitLen x
      · have := Nat.pow_le_pow_right (n := 2) (by decide) (show k + 1 ≤ Lib.bitLen x from b)
        rw [Nat.pow_succ] at this
        omega
      · omega

/-! ### Logarithms -/
def logN (n : Int) : Nat := Lib.bitLen (n - 1).toNat
def logI (n : Int) : Int := (logN n : Int)
theorem logN_low (n : Int) (h : n < 1) : logN n = 0 := by
  unfold logN
  rw [show (n - 1).toNat = 0 from by omega]
  exact bitLen_zero
theorem logN_up (n : Int) (h : 1 ≤ n) (h1 : n ≤ 9223372036854775807) : n ≤ ((2 ^ logN n : Nat) : Int) ∧ (logN n ≠ 0 → ((2 ^ (logN n - 1) : Nat) : Int) < n) := by
  obtain ⟨a, b⟩ := bitLen_bounds (n - 1).toNat (by omega)
  refine ⟨by unfold logN; omega, fun hk => ?_⟩
  unfold logN at hk ⊢
  have hx : (n - 1).toNat ≠ 0 := by
    intro e
    rw [e, bitLen_zero] at hk
    exact hk rfl
  have b := b hx
  obtain ⟨j, hj⟩ : ∃ j, Lib.bitLen (n - 1).toNat = j + 1 := ⟨_, (Nat.succ_pred_eq_of_ne_zero hk).symm⟩
  rw [hj] at b ⊢
  rw [Nat.pow_succ] at b
  simp only [Nat.add_sub_cancel]
  omega
theorem logN_eq (n : Int) (k : Nat) (h : 1 ≤ n) (h1 : n ≤ 9223372036854775807) (a : n ≤ ((2 ^ k : Nat) : Int)) (b : k ≠ 0 → ((2 ^ (k - 1) : Nat) : Int) < n) : logN n = k := by
  unfold logN
  refine bitLen_eq _ _ (by omega) (by omega) fun hk => ?_
  obtain ⟨j, rfl⟩ : ∃ j, k = j + 1 := ⟨_, (Nat.succ_pred_eq_of_ne_zero hk).symm⟩
  have b := b hk
  simp only [Nat.add_sub_cancel] at b
  rw [Nat.pow_succ]
  omega
theorem logN_le (n : Int) (h1 : n ≤ 4611686018427387904) : logN n ≤ 62 := by
  unfold logN
  exact Lib.bitLen_le _ 62 (by decide) (by omega)
theorem logN_high (n : Int) (h : 4611686018427387904 < n) (h1 : n ≤ 9223372036854775807) : logN n = 63 :=
  logN_eq n 63 (by omega) h1 (by omega) (fun _ => by simp; omega)
theorem logN_le63 (n : Int) (h1 : n ≤ 9223372036854775807) : logN n ≤ 63 := by
  unfold logN
  exact Lib.bitLen_le _ 63 (by decide) (by omega)

/-! ### Powers of two -/
def powB (n : Int) : Bool := decide (0 < n) && (bits .and .i64 n (n - 1) == 0)
theorem i64_and (a b : Nat) (ha : a < 9223372036854775808) (hb : b < 9223372036854775808) : bits .and .i64 (a : Int) (b : Int) = ((a &&& b : Nat) : Int) := by
  have hab : a &&& b < 9223372036854775808 := Nat.lt_of_le_of_lt Nat.and_le_left ha
  show IntKind.i64.wrap ((BitVec.ofInt 64 (a : Int) &&& BitVec.ofInt 64 (b : Int)).toNat : Int) = _
  rw [BitVec.toNat_and, BitVec.ofInt_natCast, BitVec.ofInt_natCast, BitVec.toNat_ofNat, BitVec.toNat_ofNat, Nat.mod_eq_of_lt (a := a) (by omega), Nat.mod_eq_of_lt (a := b) (by omega), IntKind.wrap_i64]
  omega
theorem top_bit (x j : Nat) (h : 2 ^ j ≤ x) (h1 : x < 2 ^ (j + 1)) : x.testBit j = true := by
  rw [Nat.testBit_eq_decide_div_mod_eq]
  have : x / 2 ^ j = 1 := by
    rw [Nat.pow_succ] at h1
    exact Nat.div_eq_of_lt_le (by omega) (by omega)
  rw [this]
  rfl
theorem and_pred (x k : Nat) (h : 1 ≤ x) (h1 : x ≤ 2 ^ k) (h2 : k ≠ 0 → 2 ^ (k - 1) < x) : (x &&& (x - 1) = 0) ↔ x = 2 ^ k := by
  constructor
  · intro e
    by_cases hx : x = 2 ^ k
    · exact hx
    · exfalso
      have hk : k ≠ 0 := by
        rintro rfl
        simp at h1 hx
        omega
      have h2 := h2 hk
      obtain ⟨j, rfl⟩ : ∃ j, k = j + 1 := ⟨_, (Nat.succ_pred_eq_of_ne_zero hk).symm⟩
      simp only [Nat.add_sub_cancel] at h2
      have t1 := top_bit x j (by omega) (by omega)
      have t2 := top_bit (x - 1) j (by omega) (by omega)
      have : (x &&& (x - 1)).testBit j = true := by rw [Nat.testBit_and, t1, t2]; rfl
      rw [e, Nat.zero_testBit] at this
      exact absurd this (by decide)
  · rintro rfl
    rw [Nat.and_two_pow_sub_one_eq_mod]
    exact Nat.mod_self _
theorem powB_iff (n : Int) (h : 1 ≤ n) (h1 : n ≤ 9223372036854775807) : powB n = decide (((2 ^ logN n : Nat) : Int) = n) := by
  obtain ⟨a, b⟩ := logN_up n h h1
  have p := and_pred n.toNat (logN n) (by omega) (by omega) (fun hk => by have := b hk; omega)
  have e : bits .and .i64 n (n - 1) = ((n.toNat &&& (n.toNat - 1) : Nat) : Int) := by
    have := i64_and n.toNat (n.toNat - 1) (by omega) (by omega)
    rw [show ((n.toNat : Nat) : Int) = n from by omega, show ((n.toNat - 1 : Nat) : Int) = n - 1 from by omega] at this
    exact this
  unfold powB
  rw [e, decide_eq_true (show 0 < n by omega), Bool.true_and, Bool.eq_iff_iff]
  simp only [beq_iff_eq, decide_eq_true_eq]
  omega
theorem powB_low (n : Int) (h : n < 1) : powB n = false := by
  unfold powB
  rw [decide_eq_false (by omega)]
  rfl
theorem powB_high (n : Int) (h : 4611686018427387904 < n) (h1 : n ≤ 9223372036854775807) : powB n = false := by
  rw [powB_iff n (by omega) h1, logN_high n h h1]
  exact decide_eq_false (by omega)
theorem powB_of (n : Int) (k : Nat) (hk : k ≤ 62) (h : n = ((2 ^ k : Nat) : Int)) : powB n = true := by
  have p0 : 0 < 2 ^ k := Nat.two_pow_pos k
  have p1 : 2 ^ k ≤ 2 ^ 62 := Nat.pow_le_pow_right (by decide) hk
  rw [powB_iff n (by omega) (by omega)]
  have e : logN n = k := by
    refine logN_eq n k (by omega) (by omega) (by omega) fun hk => ?_
    obtain ⟨j, rfl⟩ : ∃ j, k = j + 1 := ⟨_, (Nat.succ_pred_eq_of_ne_zero hk).symm⟩
    rw [Nat.pow_succ] at h
    simp only [Nat.add_sub_cancel]
    have : 0 < 2 ^ j := Nat.two_pow_pos j
    omega
  rw [e]
  exact decide_eq_true h.symm
theorem powB_not (n : Int) (h1 : n ≤ 9223372036854775807) (h : ∀ k : Nat, k ≤ 62 → n ≠ ((2 ^ k : Nat) : Int)) : powB n = false := by
  by_cases a : n < 1
  · exact powB_low n a
  · by_cases b : 4611686018427387904 < n
    · exact powB_high n b h1
    · rw [powB_iff n (by omega) h1]
      have := h (logN n) (logN_le n (by omega))
      exact decide_eq_false (fun e => this e.symm)

/-! ### Quotients rounded up -/
def ceilI (n m : Int) : Int := if n < 1 ∨ m < 1 then 0 else (n - 1) / m + 1
theorem ceilI_low (n m : Int) (h : n < 1 ∨ m < 1) : ceilI n m = 0 := if_pos h
theorem ceilI_at (n m : Int) (h : 1 ≤ n) (h1 : 1 ≤ m) : ceilI n m = (n - 1) / m + 1 := if_neg (by omega)
/-- What the quotient rounded up is: the one q with (q - 1) m < n <= q m. -/
theorem ceilI_bounds (n m : Int) (h : 1 ≤ n) (h1 : 1 ≤ m) : (ceilI n m - 1) * m < n ∧ n ≤ ceilI n m * m ∧ 1 ≤ ceilI n m ∧ ceilI n m ≤ n := by
  rw [ceilI_at n m h h1]
  have e := Int.mul_ediv_add_emod (n - 1) m
  have r0 := Int.emod_nonneg (n - 1) (show m ≠ 0 by omega)
  have r1 := Int.emod_lt_of_pos (n - 1) (show 0 < m by omega)
  have q0 : 0 ≤ (n - 1) / m := Int.ediv_nonneg (by omega) (by omega)
  have q1 : (n - 1) / m ≤ n - 1 := Int.ediv_le_self _ (by omega)
  generalize (n - 1) / m = q at *
  generalize (n - 1) % m = r at *
  have c1 : (q + 1) * m = m * q + m := by rw [Int.add_mul, Int.mul_comm q m]; omega
  have c2 : (q + 1 - 1) * m = m * q := by rw [show q + 1 - 1 = q from by omega, Int.mul_comm]
  omega
/-- It is the one such number. -/
theorem ceil_uniq (n m q p : Int) (h : 1 ≤ m) (a : (q - 1) * m < n) (b : n ≤ q * m) (c : (p - 1) * m < n) (d : n ≤ p * m) : q = p := by
  have x : q - 1 < p := by
    apply Int.lt_of_mul_lt_mul_right (a := m) _ (by omega)
    omega
  have y : p - 1 < q := by
    apply Int.lt_of_mul_lt_mul_right (a := m) _ (by omega)
    omega
  omega
/-- By the quotient rounded down: one more where something is left. -/
theorem ceilI_div (n m : Int) (h : 1 ≤ n) (h1 : 1 ≤ m) : ceilI n m = if n / m * m < n then n / m + 1 else n / m := by
  obtain ⟨a, b, _, _⟩ := ceilI_bounds n m h h1
  have e := Int.mul_ediv_add_emod n m
  have r0 := Int.emod_nonneg n (show m ≠ 0 by omega)
  have r1 := Int.emod_lt_of_pos n (show 0 < m by omega)
  generalize n / m = q at *
  generalize n % m = r at *
  have c0 : q * m = m * q := Int.mul_comm q m
  have c1 : (q + 1) * m = m * q + m := by rw [Int.add_mul, Int.mul_comm q m]; omega
  have c2 : (q - 1) * m = m * q - m := by rw [Int.sub_mul, Int.mul_comm q m]; omega
  split
  · refine ceil_uniq n m _ _ h1 a b ?_ (by omega)
    rw [show q + 1 - 1 = q from by omega]
    omega
  · exact ceil_uniq n m _ _ h1 a b (by omega) (by omega)

/-! ### Multiples -/
def alignB (n m : Int) : Bool := decide (0 ≤ n ∧ 1 ≤ m ∧ ceilI n m ≤ 4611686018427387904 / m)
def alignI (n m : Int) : Int := if alignB n m = true then ceilI n m * m else 0
theorem ceilI_up (n m : Int) (h : 0 ≤ n) (h1 : 1 ≤ m) : n ≤ ceilI n m * m ∧ ceilI n m * m < n + m ∧ 0 ≤ ceilI n m ∧ ceilI n m ≤ n := by
  by_cases z : n < 1
  · rw [ceilI_low n m (Or.inl z)]
    omega
  · obtain ⟨a, b, c, d⟩ := ceilI_bounds n m (by omega) h1
    rw [Int.sub_mul] at a
    omega
theorem alignB_iff (n m : Int) (h : 0 ≤ n) (h1 : 1 ≤ m) : alignB n m = decide (ceilI n m * m ≤ 4611686018427387904) := by
  unfold alignB
  rw [Bool.eq_iff_iff]
  simp only [decide_eq_true_eq]
  have := Int.le_ediv_iff_mul_le (a := ceilI n m) (b := 4611686018427387904) (c := m) (by omega)
  omega
theorem alignB_low (n m : Int) (h : n < 0 ∨ m < 1) : alignB n m = false := decide_eq_false (by omega)
theorem alignI_no (n m : Int) (h : alignB n m = false) : alignI n m = 0 := by
  unfold alignI
  rw [h]
  rfl
theorem alignI_yes (n m : Int) (h : alignB n m = true) : alignI n m = ceilI n m * m := if_pos h
/-- The least multiple is n itself where m divides it, else n and what is missing. -/
theorem ceilI_mod (n m : Int) (h : 0 ≤ n) (h1 : 1 ≤ m) : ceilI n m * m = if n % m = 0 then n else n + (m - n % m) := by
  obtain ⟨a, b, _, _⟩ := ceilI_up n m h h1
  have e := Int.mul_ediv_add_emod n m
  have r0 := Int.emod_nonneg n (show m ≠ 0 by omega)
  have r1 := Int.emod_lt_of_pos n (show 0 < m by omega)
  have d1 : ceilI n m < n / m + 2 := by
    apply Int.lt_of_mul_lt_mul_right (a := m) _ (by omega)
    rw [Int.add_mul, Int.mul_comm (n / m) m]
    omega
  have d2 : n / m ≤ ceilI n m := by
    apply Int.le_of_mul_le_mul_right (a := m) _ (by omega)
    rw [Int.mul_comm (n / m) m]
    omega
  generalize n / m = q at *
  generalize n % m = r at *
  generalize ceilI n m = p at *
  have c : p = q ∨ p = q + 1 := by omega
  have c0 : q * m = m * q := Int.mul_comm q m
  have c1 : (q + 1) * m = m * q + m := by rw [Int.add_mul, Int.mul_comm q m]; omega
  rcases c with rfl | rfl
  · split <;> omega
  · split <;> omega
theorem align_again (n m : Int) (h : 0 ≤ n) (h1 : 1 ≤ m) : ceilI (ceilI n m * m) m * m = ceilI n m * m := by
  obtain ⟨a, b, c, d⟩ := ceilI_up n m h h1
  rw [ceilI_mod (ceilI n m * m) m (by omega) h1, Int.mul_emod_left]
  rfl

/-! ### Pages -/
def pageI (n : Int) : Int := if n < 0 then -1 else n / 64

/-! ### Words in common -/
def reachB (at' n : Int) : Bool := decide (0 ≤ at' ∧ at' ≤ 2305843009213693952 ∧ 1 ≤ n ∧ n ≤ 2305843009213693952)
def overB (a n b m : Int) : Bool := reachB a n && reachB b m && decide (a < b + m ∧ b < a + n)
theorem overB_comm (a n b m : Int) : overB a n b m = overB b m a n := by
  unfold overB
  rw [Bool.and_comm (reachB a n), Bool.eq_iff_iff]
  simp only [Bool.and_eq_true, decide_eq_true_eq]
  constructor <;> rintro ⟨p, q, r⟩ <;> exact ⟨p, r, q⟩
end Go.Proofs.Ytjipfhjfochoaaa
