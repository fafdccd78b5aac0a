/-
  What the document's own answers for Pow and Log, which go through the powers of two one by one, answer: the same as package num's. Own work.
-/
import Derived.Test.YtjipfhjfochoaaaNumRef
namespace Go.Proofs.Ytjipfhjfochoaaa
open Go.ChangeShapes Go.WideShapes Go.ChangeAt Go.RowKit

/-- No power of two up to k - 1 is n. -/
def NotYet (n : Int) (k : Nat) : Prop := ∀ j : Nat, j < k → n ≠ ((2 ^ j : Nat) : Int)
theorem NotYet.succ {n : Int} {k : Nat} (h : NotYet n k) (e : n ≠ ((2 ^ k : Nat) : Int)) : NotYet n (k + 1) := by
  intro j hj
  by_cases c : j = k
  · rw [c]; exact e
  · exact h j (by omega)
/-- All powers of two up to k - 1 are below n. -/
def AllLess (n : Int) (k : Nat) : Prop := ∀ j : Nat, j < k → ((2 ^ j : Nat) : Int) < n
theorem AllLess.succ {n : Int} {k : Nat} (h : AllLess n k) (e : ((2 ^ k : Nat) : Int) < n) : AllLess n (k + 1) := by
  intro j hj
  by_cases c : j = k
  · rw [c]; exact e
  · exact h j (by omega)
theorem two_pow_le (k : Nat) (h : k ≤ 62) : (1 : Int) ≤ 2 ^ k ∧ (2 : Int) ^ k ≤ 4611686018427387904 := by
  have p0 : 0 < 2 ^ k := Nat.two_pow_pos k
  have p1 : 2 ^ k ≤ 2 ^ 62 := Nat.pow_le_pow_right (by decide) h
  have e : ((2 ^ k : Nat) : Int) = (2 : Int) ^ k := by simp
  rw [← e]
  omega
theorem log_found (n : Int) (k : Nat) (hk : k ≤ 62) (h : AllLess n k) (e : n ≤ (2 : Int) ^ k) : logI n = (k : Int) := by
  unfold logI
  have e' : ((2 ^ k : Nat) : Int) = (2 : Int) ^ k := by simp
  have b := two_pow_le k hk
  by_cases c : n < 1
  · rw [logN_low n c]
    by_cases z : k = 0
    · rw [z]
    · have := h 0 (by omega)
      simp at this
      omega
  · rw [logN_eq n k (by omega) (by omega) (by omega) (fun hk => h (k - 1) (by omega))]
theorem log_none (n : Int) (h1 : n ≤ 9223372036854775807) (h : AllLess n 63) : logI n = 63 := by
  unfold logI
  have := h 62 (by omega)
  rw [logN_high n (by omega) h1]
  rfl
set_option maxHeartbeats 1000000 in
theorem rlog_any (n : Int) (w : World) (h1 : n ≤ 9223372036854775807) :
    Calls Try.prog 15 #[.int .i64 n] w fun e w' => e = .returned (.int .i64 (logI n)) ∧ w = w' := by
  go_enter Try.func15, Try.ntmps15
  go_wp2
  go_loop [3] (fun i => ∃ k : Nat, k ≤ 63 ∧ i = .int .i64 k ∧ AllLess n k) (fun i => 63 - (intOf i).toNat)
  case atStart => exact ⟨0, Nat.zero_le _, rfl, fun j hj => absurd hj (Nat.not_lt_zero j)⟩
  case round =>
    obtain ⟨k, hk, rfl, hL⟩ := hrel
    have HL := Lib.hid hL
    clear hL
    by_cases c : k = 63
    · subst c
      go_wp2
      go_ret
      exact ⟨ret_int (log_none n h1 HL.out).symm, rfl⟩
    · have p := two_pow_le k (by omega)
      by_cases d : n ≤ (2 : Int) ^ k
      · go_wp2
        go_ret
        exact ⟨ret_int (log_found n k (by omega) HL.out d).symm, rfl⟩
      · go_wp2
        go_round
        case rel => exact ⟨k + 1, by omega, by go_num, HL.out.succ (by simp; omega)⟩
        case measure => simp [intOf]; omega
set_option maxHeartbeats 1000000 in
theorem rpow_any (n : Int) (w : World) (h1 : n ≤ 9223372036854775807) :
    Calls Try.prog 13 #[.int .i64 n] w fun e w' => e = .returned (.bool (powB n)) ∧ w = w' := by
  go_enter Try.func13, Try.ntmps13
  go_wp2
  go_loop [3] (fun i => ∃ k : Nat, k ≤ 63 ∧ i = .int .i64 k ∧ NotYet n k) (fun i => 63 - (intOf i).toNat)
  case atStart => exact ⟨0, Nat.zero_le _, rfl, fun j hj => absurd hj (Nat.not_lt_zero j)⟩
  case round =>
    obtain ⟨k, hk, rfl, hL⟩ := hrel
    have HL := Lib.hid hL
    clear hL
    by_cases c : k = 63
    · subst c
      go_wp2
      go_ret
      exact ⟨ret_bool (powB_not n h1 (fun j hj => HL.out j (by omega))).symm, rfl⟩
    · have p := two_pow_le k (by omega)
      have e' : ((2 ^ k : Nat) : Int) = (2 : Int) ^ k := by simp
      have E' := Lib.hid e'
      clear e'
      by_cases d : n = (2 : Int) ^ k
      · have d1 : (n == (2 : Int) ^ k) = true := by simpa using d
        have D := Lib.hid d
        clear d
        go_wp2
        go_ret
        exact ⟨ret_bool (powB_of n k (by omega) (D.out.trans E'.out.symm)).symm, rfl⟩
      · have d1 : (n == (2 : Int) ^ k) = false := by simpa using d
        have D := Lib.hid d
        clear d
        go_wp2
        go_round
        case rel => exact ⟨k + 1, by omega, by go_num, HL.out.succ (by rw [E'.out]; exact D.out)⟩
        case measure => simp [intOf]; omega
end Go.Proofs.Ytjipfhjfochoaaa
