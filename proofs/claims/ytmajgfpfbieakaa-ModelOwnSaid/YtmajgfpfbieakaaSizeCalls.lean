/-
  What each function of package size, and of the document's own table, answers, as a function of its number; the world stays as it was. Own work; each is proved by a walk through the landed text.
-/
import Derived.Test.YtmajgfpfbieakaaRows
import Derived.Test.YtmajgfpfbieakaaSizeMath
import Derived.OpenShut
import Derived.Outline
import Derived.Deep.Light
import Derived.Lib.Hide
namespace Go.Proofs.Ytmajgfpfbieakaa
open Go.ChangeShapes Go.WideShapes Go.ChangeAt Go.RowKit

theorem retS_int {k : IntKind} {a b : Int} (h : a = b) : Ending.returned (.int k a) = .returned (.int k b) := by rw [h]
theorem retS_bool {a b : Bool} (h : a = b) : Ending.returned (.bool a) = .returned (.bool b) := by rw [h]
theorem iscls_any (c : Int) (w : World) :
    Calls Try.prog 34 #[.int .i64 c] w fun e w' => e = .returned (.bool (clsB c)) ∧ w = w' := by
  by_cases h : c < 0
  · go_enter Try.func34, Try.ntmps34
    go_wp2
    go_ret
    exact ⟨retS_bool (clsB_out c (by omega)).symm, rfl⟩
  · go_enter Try.func34, Try.ntmps34
    go_wp2
    go_ret
    refine ⟨retS_bool ?_, rfl⟩
    unfold clsB
    exact decide_eq_decide.mpr (by omega)
theorem words_any (c : Int) (w : World) :
    Calls Try.prog 25 #[.int .i64 c] w fun e w' => e = .returned (.int .i64 (wordsI c)) ∧ w = w' := by
  rcases cls_ways c with h | h | h | h | h | h | h | h | h
  · have hc := clsB_out c h
    rw [wordsI_out c h]
    go_enter Try.func25, Try.ntmps25
    go_wp2_with ((go_at_call 34; refine (iscls_any _ _).mono ?_; rintro e w' ⟨rfl, rfl⟩))
    all_goals (go_ret; exact ⟨rfl, rfl⟩)
  all_goals
    subst h
    go_enter Try.func25, Try.ntmps25
    go_wp2_with ((go_at_call 34; refine (iscls_any _ _).mono ?_; rintro e w' ⟨rfl, rfl⟩))
    go_ret
    exact ⟨retS_int (by decide), rfl⟩
theorem rwords_any (c : Int) (w : World) :
    Calls Try.prog 18 #[.int .i64 c] w fun e w' => e = .returned (.int .i64 (wordsI c)) ∧ w = w' := by
  rcases cls_ways c with h | h | h | h | h | h | h | h | h
  · have hc := clsB_out c h
    rw [wordsI_out c h]
    go_enter Try.func18, Try.ntmps18
    go_wp2
    all_goals (go_ret; exact ⟨rfl, rfl⟩)
  all_goals
    subst h
    go_enter Try.func18, Try.ntmps18
    go_wp2
    go_ret
    exact ⟨retS_int (by decide), rfl⟩
set_option maxHeartbeats 1000000 in
theorem class_any (n : Int) (w : World) :
    Calls Try.prog 40 #[.int .i64 n] w fun e w' => e = .returned (.tuple #[.int .i64 (classI n), .bool (classB n)]) ∧ w = w' := by
  by_cases a : n < 1
  · rw [classI_out n (Or.inl a), classB_out n (Or.inl a)]
    go_enter Try.func40, Try.ntmps40
    go_wp2
    go_ret2
    exact ⟨rfl, rfl⟩
  · by_cases b : 4096 < n
    · rw [classI_out n (Or.inr b), classB_out n (Or.inr b)]
      go_enter Try.func40, Try.ntmps40
      go_wp2
      go_ret2
      exact ⟨rfl, rfl⟩
    · rw [classB_in n (by omega) (by omega)]
      go_enter Try.func40, Try.ntmps40
      go_wp2
      go_loop [4] (fun i => ∃ k : Nat, k ≤ 7 ∧ i = .int .i64 k ∧ ((k : Int) = 0 ∨ wordsI ((k : Int) - 1) < n)) (fun i => 8 - (intOf i).toNat)
      case atStart => exact ⟨0, Nat.zero_le _, rfl, Or.inl rfl⟩
      case round =>
        obtain ⟨k, hk, rfl, hL⟩ := hrel
        have HL := Lib.hid hL
        clear hL
        by_cases d : wordsI (k : Int) < n
        · have k7 : k ≠ 7 := by
            intro z
            subst z
            have : wordsI ((7 : Nat) : Int) = 4096 := by decide
            omega
          go_wp2_with (go_at_call 25; refine (words_any _ _).mono ?_; rintro e w' ⟨rfl, rfl⟩)
          go_round
          case rel =>
            refine ⟨k + 1, by omega, by go_num, Or.inr ?_⟩
            have e : ((k + 1 : Nat) : Int) - 1 = (k : Int) := by omega
            rw [e]
            exact d
          case measure => simp [intOf]; omega
        · have E := Lib.hid (class_found n k (by omega) (by omega) (by omega) (by omega) HL.out (by omega))
          go_wp2_with (go_at_call 25; refine (words_any _ _).mono ?_; rintro e w' ⟨rfl, rfl⟩)
          go_ret2
          rw [E.out]
          exact ⟨rfl, rfl⟩
set_option maxHeartbeats 1000000 in
theorem rclass_any (n : Int) (w : World) :
    Calls Try.prog 21 #[.int .i64 n] w fun e w' => e = .returned (.tuple #[.int .i64 (classI n), .bool (classB n)]) ∧ w = w' := by
  by_cases a : n < 1
  · rw [classI_out n (Or.inl a), classB_out n (Or.inl a)]
    go_enter Try.func21, Try.ntmps21
    go_wp2
    go_ret2
    exact ⟨rfl, rfl⟩
  · by_cases b : 4096 < n
    · rw [classI_out n (Or.inr b), classB_out n (Or.inr b)]
      go_enter Try.func21, Try.ntmps21
      go_wp2
      go_ret2
      exact ⟨rfl, rfl⟩
    · rw [classB_in n (by omega) (by omega)]
      go_enter Try.func21, Try.ntmps21
      go_wp2
      go_loop [4] (fun i => ∃ k : Nat, k ≤ 7 ∧ i = .int .i64 k ∧ ((k : Int) = 0 ∨ wordsI ((k : Int) - 1) < n)) (fun i => 8 - (intOf i).toNat)
      case atStart => exact ⟨0, Nat.zero_le _, rfl, Or.inl rfl⟩
      case round =>
        obtain ⟨k, hk, rfl, hL⟩ := hrel
        have HL := Lib.hid hL
        clear hL
        by_cases d : wordsI (k : Int) < n
        · have k7 : k ≠ 7 := by
            intro z
            subst z
            have : wordsI ((7 : Nat) : Int) = 4096 := by decide
            omega
          go_wp2_with (go_at_call 18; refine (rwords_any _ _).mono ?_; rintro e w' ⟨rfl, rfl⟩)
          go_round
          case rel =>
            refine ⟨k + 1, by omega, by go_num, Or.inr ?_⟩
            have e : ((k + 1 : Nat) : Int) - 1 = (k : Int) := by omega
            rw [e]
            exact d
          case measure => simp [intOf]; omega
        · have E := Lib.hid (class_found n k (by omega) (by omega) (by omega) (by omega) HL.out (by omega))
          go_wp2_with (go_at_call 18; refine (rwords_any _ _).mono ?_; rintro e w' ⟨rfl, rfl⟩)
          go_ret2
          rw [E.out]
          exact ⟨rfl, rfl⟩
end Go.Proofs.Ytmajgfpfbieakaa
