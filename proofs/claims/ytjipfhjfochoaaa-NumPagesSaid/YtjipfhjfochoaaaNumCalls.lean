/-
  What each function of package num answers, as a function of its numbers; the world stays as it was. Own work; each is proved by a walk through the landed text.
-/
import Derived.Test.YtjipfhjfochoaaaRows
import Derived.Test.YtjipfhjfochoaaaNumMath
import Derived.OpenShut
import Derived.Outline
import Derived.Deep.Light
import Derived.Lib.Hide
namespace Go.Proofs.Ytjipfhjfochoaaa
open Go.ChangeShapes Go.WideShapes Go.ChangeAt Go.RowKit

/-! ### bits.Len64 -/
set_option maxRecDepth 100000 in
theorem tab_size : (Lib.len8tab.size : Int) = 256 := by
  have : Lib.len8tab.size = 256 := by decide
  omega
theorem tab_get (y : Int) (h : y.toNat < Lib.len8tab.size) (h0 : 0 ≤ y) (h1 : y < 256) : ((Lib.len8tab[y.toNat]'h).toNat : Int) = (Lib.bitLen y.toNat : Int) := by
  rw [← Lib.len8_of y h0 (by omega)]
  unfold Lib.len8
  rw [getElem?_pos Lib.len8tab y.toNat h]
  rfl
theorem wrap_sum (k a b : Nat) (hk : k ≤ 56) (ha : a ≤ 8) (hb : b = k + a) : wrap64 ((k : Int) + wrap64 (a : Int)) = (b : Int) := by
  unfold wrap64
  omega
/-- One way's end: the table's byte of x / 2^k, and k, are x's length. -/
theorem len_end (k : Nat) (x y : Int) (hk : k ≤ 56) (hx : x.toNat < 2 ^ 64) (hy : y.toNat = x.toNat / 2 ^ k) (hb : 2 ^ k ≤ x.toNat) (h0 : 0 ≤ y) (h1 : y < 256) (h : y.toNat < Lib.len8tab.size) :
    wrap64 ((k : Int) + wrap64 ((Lib.len8tab[y.toNat]'h).toNat : Int)) = (Lib.bitLen x.toNat : Int) := by
  rw [tab_get y h h0 h1]
  have s := Lib.bitLen_shift k x.toNat hb hx
  rw [← hy] at s
  exact wrap_sum k _ _ hk (Lib.bitLen_le8' y h0 (by omega)) s
theorem len_end0 (x : Int) (h0 : 0 ≤ x) (h1 : x < 256) (h : x.toNat < Lib.len8tab.size) :
    wrap64 (wrap64 ((Lib.len8tab[x.toNat]'h).toNat : Int)) = (Lib.bitLen x.toNat : Int) := by
  rw [tab_get x h h0 h1]
  have l := Lib.bitLen_le8' x h0 (by omega)
  generalize Lib.bitLen x.toNat = a at l
  unfold wrap64
  omega
set_option maxHeartbeats 4000000 in
set_option maxRecDepth 100000 in
theorem len_any (x : Int) (w : World) (h0 : 0 ≤ x) (h1 : x ≤ 18446744073709551615) :
    Calls Try.prog 23 #[.int .u64 x] w fun e w' => e = .returned (.int .i64 (Lib.bitLen x.toNat)) ∧ w = w' := by
  have hs := tab_size
  go_enter Try.func23, Try.ntmps23
  go_wp2
  all_goals (go_ret; refine ⟨congrArg Ending.returned (congrArg (Value.int IntKind.i64) ?_), rfl⟩)
  all_goals go_light
  · exact len_end 56 x _ (by omega) (by omega) (by omega) (by omega) (by omega) (by omega) _
  · exact len_end 48 x _ (by omega) (by omega) (by omega) (by omega) (by omega) (by omega) _
  · exact len_end 40 x _ (by omega) (by omega) (by omega) (by omega) (by omega) (by omega) _
  · exact len_end 32 x _ (by omega) (by omega) (by omega) (by omega) (by omega) (by omega) _
  · exact len_end 24 x _ (by omega) (by omega) (by omega) (by omega) (by omega) (by omega) _
  · exact len_end 16 x _ (by omega) (by omega) (by omega) (by omega) (by omega) (by omega) _
  · exact len_end 8 x _ (by omega) (by omega) (by omega) (by omega) (by omega) (by omega) _
  · exact len_end0 x (by omega) (by omega) _

/-! ### Pow, Log -/
theorem ret_int {k : IntKind} {a b : Int} (h : a = b) : Ending.returned (.int k a) = .returned (.int k b) := by rw [h]
theorem ret_bool {a b : Bool} (h : a = b) : Ending.returned (.bool a) = .returned (.bool b) := by rw [h]
theorem pow_any (n : Int) (w : World) (h0 : -9223372036854775808 ≤ n) (h1 : n ≤ 9223372036854775807) :
    Calls Try.prog 12 #[.int .i64 n] w fun e w' => e = .returned (.bool (powB n)) ∧ w = w' := by
  by_cases h : 0 < n
  · go_enter Try.func12, Try.ntmps12
    go_wp2
    go_ret
    refine ⟨ret_bool ?_, rfl⟩
    unfold powB
    rw [decide_eq_true h, Bool.true_and]
  · go_enter Try.func12, Try.ntmps12
    go_wp2
    go_ret
    exact ⟨ret_bool (powB_low n (by omega)).symm, rfl⟩
theorem log_any (n : Int) (w : World) (h0 : -9223372036854775808 ≤ n) (h1 : n ≤ 9223372036854775807) :
    Calls Try.prog 14 #[.int .i64 n] w fun e w' => e = .returned (.int .i64 (logI n)) ∧ w = w' := by
  by_cases h : n < 1
  · go_enter Try.func14, Try.ntmps14
    go_wp2
    go_ret
    exact ⟨ret_int (by unfold logI; rw [logN_low n h]; rfl), rfl⟩
  · go_enter Try.func14, Try.ntmps14
    go_wp2_with (go_at_call 23; refine (len_any _ _ (by omega) (by omega)).mono ?_; rintro e w' ⟨rfl, rfl⟩)
    go_ret
    exact ⟨ret_int (by unfold logI logN; rw [show (n - 1).toNat = n.toNat - 1 from by omega]), rfl⟩

/-! ### Ceil, Align -/
theorem ceil_any (n m : Int) (w : World) (h0 : -9223372036854775808 ≤ n) (h1 : n ≤ 9223372036854775807) (h2 : -9223372036854775808 ≤ m) (h3 : m ≤ 9223372036854775807) :
    Calls Try.prog 16 #[.int .i64 n, .int .i64 m] w fun e w' => e = .returned (.int .i64 (ceilI n m)) ∧ w = w' := by
  by_cases a : n < 1
  · go_enter Try.func16, Try.ntmps16
    go_wp2
    go_ret
    exact ⟨ret_int (ceilI_low n m (by omega)).symm, rfl⟩
  · by_cases b : m < 1
    · go_enter Try.func16, Try.ntmps16
      go_wp2
      go_ret
      exact ⟨ret_int (ceilI_low n m (by omega)).symm, rfl⟩
    · have q0 : 0 ≤ (n - 1) / m := Int.ediv_nonneg (by omega) (by omega)
      have q1 : (n - 1) / m ≤ n - 1 := Int.ediv_le_self _ (by omega)
      go_enter Try.func16, Try.ntmps16
      go_wp2
      go_ret
      exact ⟨ret_int (ceilI_at n m (by omega) (by omega)).symm, rfl⟩
theorem align_any (n m : Int) (w : World) (h0 : -9223372036854775808 ≤ n) (h1 : n ≤ 9223372036854775807) (h2 : -9223372036854775808 ≤ m) (h3 : m ≤ 9223372036854775807) :
    Calls Try.prog 10 #[.int .i64 n, .int .i64 m] w fun e w' => e = .returned (.tuple #[.int .i64 (alignI n m), .bool (alignB n m)]) ∧ w = w' := by
  by_cases a : n < 0
  · have hb := alignB_low n m (Or.inl a)
    have hi := alignI_no n m hb
    rw [hb, hi]
    clear hb hi
    go_enter Try.func10, Try.ntmps10
    go_wp2
    go_ret2
    exact ⟨rfl, rfl⟩
  · by_cases b : m < 1
    · have hb := alignB_low n m (Or.inr b)
      have hi := alignI_no n m hb
      rw [hb, hi]
      clear hb hi
      go_enter Try.func10, Try.ntmps10
      go_wp2
      go_ret2
      exact ⟨rfl, rfl⟩
    · obtain ⟨u0, u1, u2, u3⟩ := ceilI_up n m (by omega) (by omega)
      have d0 : 0 ≤ 4611686018427387904 / m := Int.ediv_nonneg (by omega) (by omega)
      have d1 : 4611686018427387904 / m ≤ 4611686018427387904 := Int.ediv_le_self _ (by omega)
      have d2 := Int.le_ediv_iff_mul_le (a := ceilI n m) (b := 4611686018427387904) (c := m) (by omega)
      by_cases c : 4611686018427387904 / m < ceilI n m
      · have hb : alignB n m = false := decide_eq_false (by omega)
        have hi := alignI_no n m hb
        rw [hb, hi]
        clear hb hi d2
        go_enter Try.func10, Try.ntmps10
        go_wp2_with (go_at_call 16; refine (ceil_any _ _ _ h0 h1 h2 h3).mono ?_; rintro e w' ⟨rfl, rfl⟩)
        go_ret2
        exact ⟨rfl, rfl⟩
      · have hb : alignB n m = true := decide_eq_true (by omega)
        have hi := alignI_yes n m hb
        have d3 : ceilI n m * m ≤ 4611686018427387904 := by omega
        rw [hb, hi]
        clear hb hi d2
        go_enter Try.func10, Try.ntmps10
        go_wp2_with (go_at_call 16; refine (ceil_any _ _ _ h0 h1 h2 h3).mono ?_; rintro e w' ⟨rfl, rfl⟩)
        go_ret2
        exact ⟨rfl, rfl⟩

/-! ### Page -/
theorem page_any (n : Int) (w : World) (h1 : n ≤ 9223372036854775807) :
    Calls Try.prog 18 #[.int .i64 n] w fun e w' => e = .returned (.int .i64 (pageI n)) ∧ w = w' := by
  by_cases h : n < 0
  · go_enter Try.func18, Try.ntmps18
    go_wp2
    go_ret
    exact ⟨ret_int (if_pos h).symm, rfl⟩
  · go_enter Try.func18, Try.ntmps18
    go_wp2
    go_ret
    exact ⟨ret_int (if_neg (by omega)).symm, rfl⟩

/-! ### Over -/
theorem reach_any (a n : Int) (w : World) :
    Calls Try.prog 24 #[.int .i64 a, .int .i64 n] w fun e w' => e = .returned (.bool (reachB a n)) ∧ w = w' := by
  go_enter Try.func24, Try.ntmps24
  go_wp2
  all_goals (go_ret; refine ⟨ret_bool ?_, rfl⟩)
  all_goals (go_light; unfold reachB; first | exact decide_eq_decide.mpr (by omega) | exact (decide_eq_false (by omega)).symm)
theorem overB_at (a n b m : Int) (h : reachB a n = true) (k : reachB b m = true) : overB a n b m = decide (a < b + m ∧ b < a + n) := by
  unfold overB
  rw [h, k]
  rfl
theorem overB_off (a n b m : Int) (h : reachB a n = false ∨ reachB b m = false) : overB a n b m = false := by
  unfold overB
  rcases h with h | h <;> simp [h]
theorem over_any (a n b m : Int) (w : World) :
    Calls Try.prog 21 #[.int .i64 a, .int .i64 n, .int .i64 b, .int .i64 m] w fun e w' => e = .returned (.bool (overB a n b m)) ∧ w = w' := by
  by_cases h : reachB a n = true
  · by_cases k : reachB b m = true
    · have h' := of_decide_eq_true h
      have k' := of_decide_eq_true k
      go_enter Try.func21, Try.ntmps21
      go_wp2_with (go_at_call 24; refine (reach_any _ _ _).mono ?_; rintro e w' ⟨rfl, rfl⟩)
      all_goals (go_ret; refine ⟨ret_bool ?_, rfl⟩)
      all_goals (go_light; rw [overB_at a n b m h k]; first | exact decide_eq_decide.mpr (by omega) | exact (decide_eq_false (by omega)).symm)
    · have k' : reachB b m = false := by simpa using k
      clear k
      go_enter Try.func21, Try.ntmps21
      go_wp2_with (go_at_call 24; refine (reach_any _ _ _).mono ?_; rintro e w' ⟨rfl, rfl⟩)
      go_ret
      exact ⟨ret_bool (overB_off a n b m (Or.inr k')).symm, rfl⟩
  · have h' : reachB a n = false := by simpa using h
    clear h
    go_enter Try.func21, Try.ntmps21
    go_wp2_with (go_at_call 24; refine (reach_any _ _ _).mono ?_; rintro e w' ⟨rfl, rfl⟩)
    go_ret
    exact ⟨ret_bool (overB_off a n b m (Or.inl h')).symm, rfl⟩
end Go.Proofs.Ytjipfhjfochoaaa
