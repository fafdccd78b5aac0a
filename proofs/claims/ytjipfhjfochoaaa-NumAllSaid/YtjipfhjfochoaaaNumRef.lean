/-
  What each function of the document's own answer for chapter 1 answers: the same numbers as package num's; and that the chapter's examples come out as the chapter says. Own work.
-/
import Derived.Test.YtjipfhjfochoaaaNumCalls
namespace Go.Proofs.Ytjipfhjfochoaaa
open Go.ChangeShapes Go.WideShapes Go.ChangeAt Go.RowKit

/-! ### The examples -/
theorem ex_alignB : alignB 33 32 = true := by decide
theorem ex_alignI : alignI 33 32 = 64 := by decide
theorem ex_log : logI 5 = 3 := by decide
theorem ex_ceil : ceilI 65 64 = 2 := by decide
theorem ex_over : overB 0 4 3 1 = true := by decide
theorem ex_pow : powB 64 = true := by decide
theorem ex_page : pageI 64 = 1 := by decide
theorem awake_any (w : World) :
    Calls Try.prog 20 #[] w fun e w' => e = .returned (.bool true) ∧ w = w' := by
  have x1 := ex_alignB
  have x2 := ex_alignI
  have x3 := ex_log
  have x4 := ex_ceil
  have x5 := ex_over
  have x6 := ex_pow
  have x7 := ex_page
  go_enter Try.func20, Try.ntmps20
  go_wp2_with (first
    | (go_at_call 10; refine (align_any _ _ _ (by omega) (by omega) (by omega) (by omega)).mono ?_; rintro e w' ⟨rfl, rfl⟩)
    | (go_at_call 14; refine (log_any _ _ (by omega) (by omega)).mono ?_; rintro e w' ⟨rfl, rfl⟩)
    | (go_at_call 16; refine (ceil_any _ _ _ (by omega) (by omega) (by omega) (by omega)).mono ?_; rintro e w' ⟨rfl, rfl⟩)
    | (go_at_call 21; refine (over_any _ _ _ _ _).mono ?_; rintro e w' ⟨rfl, rfl⟩)
    | (go_at_call 12; refine (pow_any _ _ (by omega) (by omega)).mono ?_; rintro e w' ⟨rfl, rfl⟩)
    | (go_at_call 18; refine (page_any _ _ (by omega)).mono ?_; rintro e w' ⟨rfl, rfl⟩))
  go_ret
  exact ⟨rfl, rfl⟩

/-! ### The document's own answers -/
theorem rpage_any (n : Int) (w : World) (h1 : n ≤ 9223372036854775807) :
    Calls Try.prog 19 #[.int .i64 n] w fun e w' => e = .returned (.int .i64 (pageI n)) ∧ w = w' := by
  by_cases h : n < 0
  · go_enter Try.func19, Try.ntmps19
    go_wp2
    go_ret
    exact ⟨ret_int (if_pos h).symm, rfl⟩
  · go_enter Try.func19, Try.ntmps19
    go_wp2
    go_ret
    exact ⟨ret_int (if_neg (by omega)).symm, rfl⟩
theorem rover_any (a n b m : Int) (w : World) :
    Calls Try.prog 22 #[.int .i64 a, .int .i64 n, .int .i64 b, .int .i64 m] w fun e w' => e = .returned (.bool (overB a n b m)) ∧ w = w' := by
  have fin : ∀ x : Bool, (x = true ↔ ((0 ≤ a ∧ a ≤ 2305843009213693952 ∧ 1 ≤ n ∧ n ≤ 2305843009213693952) ∧ (0 ≤ b ∧ b ≤ 2305843009213693952 ∧ 1 ≤ m ∧ m ≤ 2305843009213693952) ∧ a < b + m ∧ b < a + n)) → x = overB a n b m := by
    intro x hx
    rw [Bool.eq_iff_iff, hx]
    unfold overB reachB
    simp only [Bool.and_eq_true, decide_eq_true_eq]
    omega
  have FIN : Hid (∀ x : Bool, (x = true ↔ ((0 ≤ a ∧ a ≤ 2305843009213693952 ∧ 1 ≤ n ∧ n ≤ 2305843009213693952) ∧ (0 ≤ b ∧ b ≤ 2305843009213693952 ∧ 1 ≤ m ∧ m ≤ 2305843009213693952) ∧ a < b + m ∧ b < a + n)) → x = overB a n b m) := fin
  clear fin
  go_enter Try.func22, Try.ntmps22
  go_wp2
  all_goals (go_ret; refine ⟨ret_bool (FIN.out _ ?_), rfl⟩)
  all_goals (clear FIN; go_light; first | (rw [decide_eq_true_eq]; omega) | (refine ⟨fun h => absurd h (by decide), fun h => ?_⟩; omega))
theorem rceil_any (n m : Int) (w : World) (h0 : -9223372036854775808 ≤ n) (h1 : n ≤ 9223372036854775807) (h2 : -9223372036854775808 ≤ m) (h3 : m ≤ 9223372036854775807) :
    Calls Try.prog 17 #[.int .i64 n, .int .i64 m] w fun e w' => e = .returned (.int .i64 (ceilI n m)) ∧ w = w' := by
  by_cases a : n < 1
  · go_enter Try.func17, Try.ntmps17
    go_wp2
    go_ret
    exact ⟨ret_int (ceilI_low n m (by omega)).symm, rfl⟩
  · by_cases b : m < 1
    · go_enter Try.func17, Try.ntmps17
      go_wp2
      go_ret
      exact ⟨ret_int (ceilI_low n m (by omega)).symm, rfl⟩
    · have q0 : 0 ≤ n / m := Int.ediv_nonneg (by omega) (by omega)
      have q1 : n / m ≤ n := Int.ediv_le_self _ (by omega)
      have e := Int.mul_ediv_add_emod n m
      have r0 := Int.emod_nonneg n (show m ≠ 0 by omega)
      have r1 := Int.emod_lt_of_pos n (show 0 < m by omega)
      rw [Int.mul_comm] at e
      have p1 : n / m * m ≤ n := by omega
      have p0 : 0 ≤ n / m * m := Int.mul_nonneg q0 (by omega)
      have D := ceilI_div n m (by omega) (by omega)
      have p2 : n < n / m * m + m := by omega
      clear e r0 r1
      by_cases c : n / m * m < n
      · rw [if_pos c] at D
        have D' := Lib.hid D
        clear D
        have p3 : n / m < n := by
          by_cases z : n / m = n
          · exfalso
            have : n / m * m = n * m := by rw [z]
            have t : n * 1 ≤ n * m := Int.mul_le_mul_of_nonneg_left (by omega) (by omega)
            omega
          · omega
        go_enter Try.func17, Try.ntmps17
        go_wp2
        go_ret
        exact ⟨ret_int D'.out.symm, rfl⟩
      · rw [if_neg c] at D
        have D' := Lib.hid D
        clear D
        go_enter Try.func17, Try.ntmps17
        go_wp2
        go_ret
        exact ⟨ret_int D'.out.symm, rfl⟩
theorem ralign_any (n m : Int) (w : World) (h0 : -9223372036854775808 ≤ n) (h1 : n ≤ 9223372036854775807) (h2 : -9223372036854775808 ≤ m) (h3 : m ≤ 9223372036854775807) :
    Calls Try.prog 11 #[.int .i64 n, .int .i64 m] w fun e w' => e = .returned (.tuple #[.int .i64 (alignI n m), .bool (alignB n m)]) ∧ w = w' := by
  by_cases a : n < 0
  · have hb := alignB_low n m (Or.inl a)
    have hi := alignI_no n m hb
    rw [hb, hi]
    clear hb hi
    go_enter Try.func11, Try.ntmps11
    go_wp2
    go_ret2
    exact ⟨rfl, rfl⟩
  · by_cases b : m < 1
    · have hb := alignB_low n m (Or.inr b)
      have hi := alignI_no n m hb
      rw [hb, hi]
      clear hb hi
      go_enter Try.func11, Try.ntmps11
      go_wp2
      go_ret2
      exact ⟨rfl, rfl⟩
    · have r0 := Int.emod_nonneg n (show m ≠ 0 by omega)
      have r1 := Int.emod_lt_of_pos n (show 0 < m by omega)
      have E := ceilI_mod n m (by omega) (by omega)
      have B := alignB_iff n m (by omega) (by omega)
      rw [E] at B
      obtain ⟨u0, _, _, _⟩ := ceilI_up n m (by omega) (by omega)
      by_cases c : 4611686018427387904 < n
      · have hb : alignB n m = false := by rw [B]; exact decide_eq_false (by split <;> omega)
        have hi := alignI_no n m hb
        rw [hb, hi]
        clear hb hi B E u0
        go_enter Try.func11, Try.ntmps11
        go_wp2
        go_ret2
        exact ⟨rfl, rfl⟩
      · by_cases z : n % m = 0
        · have hb : alignB n m = true := by rw [B, if_pos z]; exact decide_eq_true (by omega)
          have hi := alignI_yes n m hb
          rw [E, if_pos z] at hi
          rw [hb, hi]
          clear hb hi B E u0 r0 r1
          have z' : (n % m == 0) = true := by simpa using z
          clear z
          go_enter Try.func11, Try.ntmps11
          go_wp2
          go_ret2
          exact ⟨rfl, rfl⟩
        · have z' : (n % m == 0) = false := by simpa using z
          rw [if_neg z] at B E
          by_cases g : 4611686018427387904 - n < m - n % m
          · have hb : alignB n m = false := by rw [B]; exact decide_eq_false (by omega)
            have hi := alignI_no n m hb
            rw [hb, hi]
            clear hb hi B E u0 z
            go_enter Try.func11, Try.ntmps11
            go_wp2
            go_ret2
            exact ⟨rfl, rfl⟩
          · have hb : alignB n m = true := by rw [B]; exact decide_eq_true (by omega)
            have hi := alignI_yes n m hb
            rw [E] at hi
            rw [hb, hi]
            clear hb hi B E u0 z
            go_enter Try.func11, Try.ntmps11
            go_wp2
            go_ret2
            exact ⟨rfl, rfl⟩
end Go.Proofs.Ytjipfhjfochoaaa
