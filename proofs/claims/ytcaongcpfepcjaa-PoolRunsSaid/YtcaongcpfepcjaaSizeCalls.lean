/-
  What each function of package size, and of the document's own table, answers, as a function of its number; the world stays as it was. Own work; each is proved by a walk through the landed text.
-/
import Derived.Test.YtcaongcpfepcjaaRows
import Derived.Test.YtcaongcpfepcjaaSizeMath
import Derived.OpenShut
import Derived.Outline
import Derived.Deep.Light
import Derived.Lib.Hide
namespace Go.Proofs.Ytcaongcpfepcjaa
open Go.ChangeShapes Go.WideShapes Go.ChangeAt Go.RowKit

theorem retS_int {k : IntKind} {a b : Int} (h : a = b) : Ending.returned (.int k a) = .returned (.int k b) := by rw [h]
theorem retS_bool {a b : Bool} (h : a = b) : Ending.returned (.bool a) = .returned (.bool b) := by rw [h]
theorem iscls_any (c : Int) (w : World) :
    Calls Try.prog 45 #[.int .i64 c] w fun e w' => e = .returned (.bool (clsB c)) ∧ w = w' := by
  by_cases h : c < 0
  · go_enter Try.func45, Try.ntmps45
    go_wp2
    go_ret
    exact ⟨retS_bool (clsB_out c (by omega)).symm, rfl⟩
  · go_enter Try.func45, Try.ntmps45
    go_wp2
    go_ret
    refine ⟨retS_bool ?_, rfl⟩
    unfold clsB
    exact decide_eq_decide.mpr (by omega)
theorem words_any (c : Int) (w : World) :
    Calls Try.prog 42 #[.int .i64 c] w fun e w' => e = .returned (.int .i64 (wordsI c)) ∧ w = w' := by
  rcases cls_ways c with h | h | h | h | h | h | h | h | h
  · have hc := clsB_out c h
    rw [wordsI_out c h]
    go_enter Try.func42, Try.ntmps42
    go_wp2_with ((go_at_call 45; refine (iscls_any _ _).mono ?_; rintro e w' ⟨rfl, rfl⟩))
    all_goals (go_ret; exact ⟨rfl, rfl⟩)
  all_goals
    subst h
    go_enter Try.func42, Try.ntmps42
    go_wp2_with ((go_at_call 45; refine (iscls_any _ _).mono ?_; rintro e w' ⟨rfl, rfl⟩))
    go_ret
    exact ⟨retS_int (by decide), rfl⟩
theorem rwords_any (c : Int) (w : World) :
    Calls Try.prog 31 #[.int .i64 c] w fun e w' => e = .returned (.int .i64 (wordsI c)) ∧ w = w' := by
  rcases cls_ways c with h | h | h | h | h | h | h | h | h
  · have hc := clsB_out c h
    rw [wordsI_out c h]
    go_enter Try.func31, Try.ntmps31
    go_wp2
    all_goals (go_ret; exact ⟨rfl, rfl⟩)
  all_goals
    subst h
    go_enter Try.func31, Try.ntmps31
    go_wp2
    go_ret
    exact ⟨retS_int (by decide), rfl⟩
theorem small_any (c : Int) (w : World) :
    Calls Try.prog 23 #[.int .i64 c] w fun e w' => e = .returned (.bool (smallB c)) ∧ w = w' := by
  by_cases h : c < 0
  · go_enter Try.func23, Try.ntmps23
    go_wp2
    go_ret
    exact ⟨retS_bool (smallB_out c (by omega)).symm, rfl⟩
  · go_enter Try.func23, Try.ntmps23
    go_wp2
    go_ret
    refine ⟨retS_bool ?_, rfl⟩
    unfold smallB
    exact decide_eq_decide.mpr (by omega)
theorem rsmall_any (c : Int) (w : World) :
    Calls Try.prog 53 #[.int .i64 c] w fun e w' => e = .returned (.bool (smallB c)) ∧ w = w' := by
  by_cases h : c < 0
  · go_enter Try.func53, Try.ntmps53
    go_wp2
    go_ret
    exact ⟨retS_bool (smallB_out c (by omega)).symm, rfl⟩
  · go_enter Try.func53, Try.ntmps53
    go_wp2
    go_ret
    refine ⟨retS_bool ?_, rfl⟩
    unfold smallB
    exact decide_eq_decide.mpr (by omega)
theorem szpages_any (c : Int) (w : World) :
    Calls Try.prog 46 #[.int .i64 c] w fun e w' => e = .returned (.int .i64 (pagesI c)) ∧ w = w' := by
  rcases cls_ways c with h | h | h | h | h | h | h | h | h
  · rw [pagesI_out c h]
    have e0 := smallB_out c (by omega)
    have e1 := wordsI_out c h
    go_enter Try.func46, Try.ntmps46
    go_wp2_with (first | (go_at_call 23; refine (small_any _ _).mono ?_; rintro e w' ⟨rfl, rfl⟩) | (go_at_call 42; refine (words_any _ _).mono ?_; rintro e w' ⟨rfl, rfl⟩))
    all_goals (go_ret; exact ⟨rfl, rfl⟩)
  · subst h
    have e0 : smallB 0 = true := by decide
    have e1 : wordsI 0 = 32 := by decide
    go_enter Try.func46, Try.ntmps46
    go_wp2_with (first | (go_at_call 23; refine (small_any _ _).mono ?_; rintro e w' ⟨rfl, rfl⟩) | (go_at_call 42; refine (words_any _ _).mono ?_; rintro e w' ⟨rfl, rfl⟩))
    go_ret
    exact ⟨retS_int (by decide), rfl⟩
  · subst h
    have e0 : smallB 1 = true := by decide
    have e1 : wordsI 1 = 64 := by decide
    go_enter Try.func46, Try.ntmps46
    go_wp2_with (first | (go_at_call 23; refine (small_any _ _).mono ?_; rintro e w' ⟨rfl, rfl⟩) | (go_at_call 42; refine (words_any _ _).mono ?_; rintro e w' ⟨rfl, rfl⟩))
    go_ret
    exact ⟨retS_int (by decide), rfl⟩
  · subst h
    have e0 : smallB 2 = true := by decide
    have e1 : wordsI 2 = 128 := by decide
    go_enter Try.func46, Try.ntmps46
    go_wp2_with (first | (go_at_call 23; refine (small_any _ _).mono ?_; rintro e w' ⟨rfl, rfl⟩) | (go_at_call 42; refine (words_any _ _).mono ?_; rintro e w' ⟨rfl, rfl⟩))
    go_ret
    exact ⟨retS_int (by decide), rfl⟩
  · subst h
    have e0 : smallB 3 = true := by decide
    have e1 : wordsI 3 = 256 := by decide
    go_enter Try.func46, Try.ntmps46
    go_wp2_with (first | (go_at_call 23; refine (small_any _ _).mono ?_; rintro e w' ⟨rfl, rfl⟩) | (go_at_call 42; refine (words_any _ _).mono ?_; rintro e w' ⟨rfl, rfl⟩))
    go_ret
    exact ⟨retS_int (by decide), rfl⟩
  · subst h
    have e0 : smallB 4 = false := by decide
    have e1 : wordsI 4 = 512 := by decide
    go_enter Try.func46, Try.ntmps46
    go_wp2_with (first | (go_at_call 23; refine (small_any _ _).mono ?_; rintro e w' ⟨rfl, rfl⟩) | (go_at_call 42; refine (words_any _ _).mono ?_; rintro e w' ⟨rfl, rfl⟩))
    go_ret
    exact ⟨retS_int (by decide), rfl⟩
  · subst h
    have e0 : smallB 5 = false := by decide
    have e1 : wordsI 5 = 1024 := by decide
    go_enter Try.func46, Try.ntmps46
    go_wp2_with (first | (go_at_call 23; refine (small_any _ _).mono ?_; rintro e w' ⟨rfl, rfl⟩) | (go_at_call 42; refine (words_any _ _).mono ?_; rintro e w' ⟨rfl, rfl⟩))
    go_ret
    exact ⟨retS_int (by decide), rfl⟩
  · subst h
    have e0 : smallB 6 = false := by decide
    have e1 : wordsI 6 = 2048 := by decide
    go_enter Try.func46, Try.ntmps46
    go_wp2_with (first | (go_at_call 23; refine (small_any _ _).mono ?_; rintro e w' ⟨rfl, rfl⟩) | (go_at_call 42; refine (words_any _ _).mono ?_; rintro e w' ⟨rfl, rfl⟩))
    go_ret
    exact ⟨retS_int (by decide), rfl⟩
  · subst h
    have e0 : smallB 7 = false := by decide
    have e1 : wordsI 7 = 4096 := by decide
    go_enter Try.func46, Try.ntmps46
    go_wp2_with (first | (go_at_call 23; refine (small_any _ _).mono ?_; rintro e w' ⟨rfl, rfl⟩) | (go_at_call 42; refine (words_any _ _).mono ?_; rintro e w' ⟨rfl, rfl⟩))
    go_ret
    exact ⟨retS_int (by decide), rfl⟩
theorem rpages_any (c : Int) (w : World) :
    Calls Try.prog 47 #[.int .i64 c] w fun e w' => e = .returned (.int .i64 (pagesI c)) ∧ w = w' := by
  rcases cls_ways c with h | h | h | h | h | h | h | h | h
  · rw [pagesI_out c h]
    have e0 := smallB_out c (by omega)
    have e1 := wordsI_out c h
    go_enter Try.func47, Try.ntmps47
    go_wp2_with (first | (go_at_call 53; refine (rsmall_any _ _).mono ?_; rintro e w' ⟨rfl, rfl⟩) | (go_at_call 31; refine (rwords_any _ _).mono ?_; rintro e w' ⟨rfl, rfl⟩))
    all_goals (go_ret; exact ⟨rfl, rfl⟩)
  · subst h
    have e0 : smallB 0 = true := by decide
    have e1 : wordsI 0 = 32 := by decide
    go_enter Try.func47, Try.ntmps47
    go_wp2_with (first | (go_at_call 53; refine (rsmall_any _ _).mono ?_; rintro e w' ⟨rfl, rfl⟩) | (go_at_call 31; refine (rwords_any _ _).mono ?_; rintro e w' ⟨rfl, rfl⟩))
    go_ret
    exact ⟨retS_int (by decide), rfl⟩
  · subst h
    have e0 : smallB 1 = true := by decide
    have e1 : wordsI 1 = 64 := by decide
    go_enter Try.func47, Try.ntmps47
    go_wp2_with (first | (go_at_call 53; refine (rsmall_any _ _).mono ?_; rintro e w' ⟨rfl, rfl⟩) | (go_at_call 31; refine (rwords_any _ _).mono ?_; rintro e w' ⟨rfl, rfl⟩))
    go_ret
    exact ⟨retS_int (by decide), rfl⟩
  · subst h
    have e0 : smallB 2 = true := by decide
    have e1 : wordsI 2 = 128 := by decide
    go_enter Try.func47, Try.ntmps47
    go_wp2_with (first | (go_at_call 53; refine (rsmall_any _ _).mono ?_; rintro e w' ⟨rfl, rfl⟩) | (go_at_call 31; refine (rwords_any _ _).mono ?_; rintro e w' ⟨rfl, rfl⟩))
    go_ret
    exact ⟨retS_int (by decide), rfl⟩
  · subst h
    have e0 : smallB 3 = true := by decide
    have e1 : wordsI 3 = 256 := by decide
    go_enter Try.func47, Try.ntmps47
    go_wp2_with (first | (go_at_call 53; refine (rsmall_any _ _).mono ?_; rintro e w' ⟨rfl, rfl⟩) | (go_at_call 31; refine (rwords_any _ _).mono ?_; rintro e w' ⟨rfl, rfl⟩))
    go_ret
    exact ⟨retS_int (by decide), rfl⟩
  · subst h
    have e0 : smallB 4 = false := by decide
    have e1 : wordsI 4 = 512 := by decide
    go_enter Try.func47, Try.ntmps47
    go_wp2_with (first | (go_at_call 53; refine (rsmall_any _ _).mono ?_; rintro e w' ⟨rfl, rfl⟩) | (go_at_call 31; refine (rwords_any _ _).mono ?_; rintro e w' ⟨rfl, rfl⟩))
    go_ret
    exact ⟨retS_int (by decide), rfl⟩
  · subst h
    have e0 : smallB 5 = false := by decide
    have e1 : wordsI 5 = 1024 := by decide
    go_enter Try.func47, Try.ntmps47
    go_wp2_with (first | (go_at_call 53; refine (rsmall_any _ _).mono ?_; rintro e w' ⟨rfl, rfl⟩) | (go_at_call 31; refine (rwords_any _ _).mono ?_; rintro e w' ⟨rfl, rfl⟩))
    go_ret
    exact ⟨retS_int (by decide), rfl⟩
  · subst h
    have e0 : smallB 6 = false := by decide
    have e1 : wordsI 6 = 2048 := by decide
    go_enter Try.func47, Try.ntmps47
    go_wp2_with (first | (go_at_call 53; refine (rsmall_any _ _).mono ?_; rintro e w' ⟨rfl, rfl⟩) | (go_at_call 31; refine (rwords_any _ _).mono ?_; rintro e w' ⟨rfl, rfl⟩))
    go_ret
    exact ⟨retS_int (by decide), rfl⟩
  · subst h
    have e0 : smallB 7 = false := by decide
    have e1 : wordsI 7 = 4096 := by decide
    go_enter Try.func47, Try.ntmps47
    go_wp2_with (first | (go_at_call 53; refine (rsmall_any _ _).mono ?_; rintro e w' ⟨rfl, rfl⟩) | (go_at_call 31; refine (rwords_any _ _).mono ?_; rintro e w' ⟨rfl, rfl⟩))
    go_ret
    exact ⟨retS_int (by decide), rfl⟩
theorem per_any (c : Int) (w : World) :
    Calls Try.prog 28 #[.int .i64 c] w fun e w' => e = .returned (.int .i64 (perI c)) ∧ w = w' := by
  rcases cls_ways c with h | h | h | h | h | h | h | h | h
  · rw [perI_out c h]
    have e0 := clsB_out c h
    have e1 := wordsI_out c h
    go_enter Try.func28, Try.ntmps28
    go_wp2_with (first | (go_at_call 46; refine (szpages_any _ _).mono ?_; rintro e w' ⟨rfl, rfl⟩) | (go_at_call 42; refine (words_any _ _).mono ?_; rintro e w' ⟨rfl, rfl⟩) | (go_at_call 45; refine (iscls_any _ _).mono ?_; rintro e w' ⟨rfl, rfl⟩))
    all_goals (go_ret; exact ⟨rfl, rfl⟩)
  · subst h
    have e0 : pagesI 0 = 8 := by decide
    have e1 : wordsI 0 = 32 := by decide
    have e2 : clsB 0 = true := by decide
    go_enter Try.func28, Try.ntmps28
    go_wp2_with (first | (go_at_call 46; refine (szpages_any _ _).mono ?_; rintro e w' ⟨rfl, rfl⟩) | (go_at_call 42; refine (words_any _ _).mono ?_; rintro e w' ⟨rfl, rfl⟩) | (go_at_call 45; refine (iscls_any _ _).mono ?_; rintro e w' ⟨rfl, rfl⟩))
    go_ret
    exact ⟨retS_int (by decide), rfl⟩
  · subst h
    have e0 : pagesI 1 = 8 := by decide
    have e1 : wordsI 1 = 64 := by decide
    have e2 : clsB 1 = true := by decide
    go_enter Try.func28, Try.ntmps28
    go_wp2_with (first | (go_at_call 46; refine (szpages_any _ _).mono ?_; rintro e w' ⟨rfl, rfl⟩) | (go_at_call 42; refine (words_any _ _).mono ?_; rintro e w' ⟨rfl, rfl⟩) | (go_at_call 45; refine (iscls_any _ _).mono ?_; rintro e w' ⟨rfl, rfl⟩))
    go_ret
    exact ⟨retS_int (by decide), rfl⟩
  · subst h
    have e0 : pagesI 2 = 8 := by decide
    have e1 : wordsI 2 = 128 := by decide
    have e2 : clsB 2 = true := by decide
    go_enter Try.func28, Try.ntmps28
    go_wp2_with (first | (go_at_call 46; refine (szpages_any _ _).mono ?_; rintro e w' ⟨rfl, rfl⟩) | (go_at_call 42; refine (words_any _ _).mono ?_; rintro e w' ⟨rfl, rfl⟩) | (go_at_call 45; refine (iscls_any _ _).mono ?_; rintro e w' ⟨rfl, rfl⟩))
    go_ret
    exact ⟨retS_int (by decide), rfl⟩
  · subst h
    have e0 : pagesI 3 = 8 := by decide
    have e1 : wordsI 3 = 256 := by decide
    have e2 : clsB 3 = true := by decide
    go_enter Try.func28, Try.ntmps28
    go_wp2_with (first | (go_at_call 46; refine (szpages_any _ _).mono ?_; rintro e w' ⟨rfl, rfl⟩) | (go_at_call 42; refine (words_any _ _).mono ?_; rintro e w' ⟨rfl, rfl⟩) | (go_at_call 45; refine (iscls_any _ _).mono ?_; rintro e w' ⟨rfl, rfl⟩))
    go_ret
    exact ⟨retS_int (by decide), rfl⟩
  · subst h
    have e0 : pagesI 4 = 8 := by decide
    have e1 : wordsI 4 = 512 := by decide
    have e2 : clsB 4 = true := by decide
    go_enter Try.func28, Try.ntmps28
    go_wp2_with (first | (go_at_call 46; refine (szpages_any _ _).mono ?_; rintro e w' ⟨rfl, rfl⟩) | (go_at_call 42; refine (words_any _ _).mono ?_; rintro e w' ⟨rfl, rfl⟩) | (go_at_call 45; refine (iscls_any _ _).mono ?_; rintro e w' ⟨rfl, rfl⟩))
    go_ret
    exact ⟨retS_int (by decide), rfl⟩
  · subst h
    have e0 : pagesI 5 = 16 := by decide
    have e1 : wordsI 5 = 1024 := by decide
    have e2 : clsB 5 = true := by decide
    go_enter Try.func28, Try.ntmps28
    go_wp2_with (first | (go_at_call 46; refine (szpages_any _ _).mono ?_; rintro e w' ⟨rfl, rfl⟩) | (go_at_call 42; refine (words_any _ _).mono ?_; rintro e w' ⟨rfl, rfl⟩) | (go_at_call 45; refine (iscls_any _ _).mono ?_; rintro e w' ⟨rfl, rfl⟩))
    go_ret
    exact ⟨retS_int (by decide), rfl⟩
  · subst h
    have e0 : pagesI 6 = 32 := by decide
    have e1 : wordsI 6 = 2048 := by decide
    have e2 : clsB 6 = true := by decide
    go_enter Try.func28, Try.ntmps28
    go_wp2_with (first | (go_at_call 46; refine (szpages_any _ _).mono ?_; rintro e w' ⟨rfl, rfl⟩) | (go_at_call 42; refine (words_any _ _).mono ?_; rintro e w' ⟨rfl, rfl⟩) | (go_at_call 45; refine (iscls_any _ _).mono ?_; rintro e w' ⟨rfl, rfl⟩))
    go_ret
    exact ⟨retS_int (by decide), rfl⟩
  · subst h
    have e0 : pagesI 7 = 64 := by decide
    have e1 : wordsI 7 = 4096 := by decide
    have e2 : clsB 7 = true := by decide
    go_enter Try.func28, Try.ntmps28
    go_wp2_with (first | (go_at_call 46; refine (szpages_any _ _).mono ?_; rintro e w' ⟨rfl, rfl⟩) | (go_at_call 42; refine (words_any _ _).mono ?_; rintro e w' ⟨rfl, rfl⟩) | (go_at_call 45; refine (iscls_any _ _).mono ?_; rintro e w' ⟨rfl, rfl⟩))
    go_ret
    exact ⟨retS_int (by decide), rfl⟩
theorem rper_any (c : Int) (w : World) :
    Calls Try.prog 30 #[.int .i64 c] w fun e w' => e = .returned (.int .i64 (perI c)) ∧ w = w' := by
  rcases cls_ways c with h | h | h | h | h | h | h | h | h
  · rw [perI_out c h]
    have e0 := clsB_out c h
    have e1 := wordsI_out c h
    go_enter Try.func30, Try.ntmps30
    go_wp2_with (first | (go_at_call 47; refine (rpages_any _ _).mono ?_; rintro e w' ⟨rfl, rfl⟩) | (go_at_call 31; refine (rwords_any _ _).mono ?_; rintro e w' ⟨rfl, rfl⟩))
    all_goals (go_ret; exact ⟨rfl, rfl⟩)
  · subst h
    have e0 : pagesI 0 = 8 := by decide
    have e1 : wordsI 0 = 32 := by decide
    have e2 : clsB 0 = true := by decide
    go_enter Try.func30, Try.ntmps30
    go_wp2_with (first | (go_at_call 47; refine (rpages_any _ _).mono ?_; rintro e w' ⟨rfl, rfl⟩) | (go_at_call 31; refine (rwords_any _ _).mono ?_; rintro e w' ⟨rfl, rfl⟩))
    go_ret
    exact ⟨retS_int (by decide), rfl⟩
  · subst h
    have e0 : pagesI 1 = 8 := by decide
    have e1 : wordsI 1 = 64 := by decide
    have e2 : clsB 1 = true := by decide
    go_enter Try.func30, Try.ntmps30
    go_wp2_with (first | (go_at_call 47; refine (rpages_any _ _).mono ?_; rintro e w' ⟨rfl, rfl⟩) | (go_at_call 31; refine (rwords_any _ _).mono ?_; rintro e w' ⟨rfl, rfl⟩))
    go_ret
    exact ⟨retS_int (by decide), rfl⟩
  · subst h
    have e0 : pagesI 2 = 8 := by decide
    have e1 : wordsI 2 = 128 := by decide
    have e2 : clsB 2 = true := by decide
    go_enter Try.func30, Try.ntmps30
    go_wp2_with (first | (go_at_call 47; refine (rpages_any _ _).mono ?_; rintro e w' ⟨rfl, rfl⟩) | (go_at_call 31; refine (rwords_any _ _).mono ?_; rintro e w' ⟨rfl, rfl⟩))
    go_ret
    exact ⟨retS_int (by decide), rfl⟩
  · subst h
    have e0 : pagesI 3 = 8 := by decide
    have e1 : wordsI 3 = 256 := by decide
    have e2 : clsB 3 = true := by decide
    go_enter Try.func30, Try.ntmps30
    go_wp2_with (first | (go_at_call 47; refine (rpages_any _ _).mono ?_; rintro e w' ⟨rfl, rfl⟩) | (go_at_call 31; refine (rwords_any _ _).mono ?_; rintro e w' ⟨rfl, rfl⟩))
    go_ret
    exact ⟨retS_int (by decide), rfl⟩
  · subst h
    have e0 : pagesI 4 = 8 := by decide
    have e1 : wordsI 4 = 512 := by decide
    have e2 : clsB 4 = true := by decide
    go_enter Try.func30, Try.ntmps30
    go_wp2_with (first | (go_at_call 47; refine (rpages_any _ _).mono ?_; rintro e w' ⟨rfl, rfl⟩) | (go_at_call 31; refine (rwords_any _ _).mono ?_; rintro e w' ⟨rfl, rfl⟩))
    go_ret
    exact ⟨retS_int (by decide), rfl⟩
  · subst h
    have e0 : pagesI 5 = 16 := by decide
    have e1 : wordsI 5 = 1024 := by decide
    have e2 : clsB 5 = true := by decide
    go_enter Try.func30, Try.ntmps30
    go_wp2_with (first | (go_at_call 47; refine (rpages_any _ _).mono ?_; rintro e w' ⟨rfl, rfl⟩) | (go_at_call 31; refine (rwords_any _ _).mono ?_; rintro e w' ⟨rfl, rfl⟩))
    go_ret
    exact ⟨retS_int (by decide), rfl⟩
  · subst h
    have e0 : pagesI 6 = 32 := by decide
    have e1 : wordsI 6 = 2048 := by decide
    have e2 : clsB 6 = true := by decide
    go_enter Try.func30, Try.ntmps30
    go_wp2_with (first | (go_at_call 47; refine (rpages_any _ _).mono ?_; rintro e w' ⟨rfl, rfl⟩) | (go_at_call 31; refine (rwords_any _ _).mono ?_; rintro e w' ⟨rfl, rfl⟩))
    go_ret
    exact ⟨retS_int (by decide), rfl⟩
  · subst h
    have e0 : pagesI 7 = 64 := by decide
    have e1 : wordsI 7 = 4096 := by decide
    have e2 : clsB 7 = true := by decide
    go_enter Try.func30, Try.ntmps30
    go_wp2_with (first | (go_at_call 47; refine (rpages_any _ _).mono ?_; rintro e w' ⟨rfl, rfl⟩) | (go_at_call 31; refine (rwords_any _ _).mono ?_; rintro e w' ⟨rfl, rfl⟩))
    go_ret
    exact ⟨retS_int (by decide), rfl⟩
end Go.Proofs.Ytcaongcpfepcjaa
