/-
  What each function of package size, and of the document's own table, answers, as a function of its number; the world stays as it was. Own work; each is proved by a walk through the landed text.
-/
import Derived.Test.YtgcbdmakhkomjaaRows
import Derived.Test.YtgcbdmakhkomjaaSizeMath
import Derived.OpenShut
import Derived.Outline
import Derived.Deep.Light
import Derived.Lib.Hide
namespace Go.Proofs.Ytgcbdmakhkomjaa
open Go.ChangeShapes Go.WideShapes Go.ChangeAt Go.RowKit

theorem retS_int {k : IntKind} {a b : Int} (h : a = b) : Ending.returned (.int k a) = .returned (.int k b) := by rw [h]
theorem retS_bool {a b : Bool} (h : a = b) : Ending.returned (.bool a) = .returned (.bool b) := by rw [h]
theorem iscls_any (c : Int) (w : World) :
    Calls Try.prog 22 #[.int .i64 c] w fun e w' => e = .returned (.bool (clsB c)) ∧ w = w' := by
  by_cases h : c < 0
  · go_enter Try.func22, Try.ntmps22
    go_wp2
    go_ret
    exact ⟨retS_bool (clsB_out c (by omega)).symm, rfl⟩
  · go_enter Try.func22, Try.ntmps22
    go_wp2
    go_ret
    refine ⟨retS_bool ?_, rfl⟩
    unfold clsB
    exact decide_eq_decide.mpr (by omega)
theorem words_any (c : Int) (w : World) :
    Calls Try.prog 9 #[.int .i64 c] w fun e w' => e = .returned (.int .i64 (wordsI c)) ∧ w = w' := by
  rcases cls_ways c with h | h | h | h | h | h | h | h | h
  · have hc := clsB_out c h
    rw [wordsI_out c h]
    go_enter Try.func9, Try.ntmps9
    go_wp2_with ((go_at_call 22; refine (iscls_any _ _).mono ?_; rintro e w' ⟨rfl, rfl⟩))
    all_goals (go_ret; exact ⟨rfl, rfl⟩)
  all_goals
    subst h
    go_enter Try.func9, Try.ntmps9
    go_wp2_with ((go_at_call 22; refine (iscls_any _ _).mono ?_; rintro e w' ⟨rfl, rfl⟩))
    go_ret
    exact ⟨retS_int (by decide), rfl⟩
theorem rwords_any (c : Int) (w : World) :
    Calls Try.prog 10 #[.int .i64 c] w fun e w' => e = .returned (.int .i64 (wordsI c)) ∧ w = w' := by
  rcases cls_ways c with h | h | h | h | h | h | h | h | h
  · have hc := clsB_out c h
    rw [wordsI_out c h]
    go_enter Try.func10, Try.ntmps10
    go_wp2
    all_goals (go_ret; exact ⟨rfl, rfl⟩)
  all_goals
    subst h
    go_enter Try.func10, Try.ntmps10
    go_wp2
    go_ret
    exact ⟨retS_int (by decide), rfl⟩
theorem small_any (c : Int) (w : World) :
    Calls Try.prog 11 #[.int .i64 c] w fun e w' => e = .returned (.bool (smallB c)) ∧ w = w' := by
  by_cases h : c < 0
  · go_enter Try.func11, Try.ntmps11
    go_wp2
    go_ret
    exact ⟨retS_bool (smallB_out c (by omega)).symm, rfl⟩
  · go_enter Try.func11, Try.ntmps11
    go_wp2
    go_ret
    refine ⟨retS_bool ?_, rfl⟩
    unfold smallB
    exact decide_eq_decide.mpr (by omega)
theorem rsmall_any (c : Int) (w : World) :
    Calls Try.prog 12 #[.int .i64 c] w fun e w' => e = .returned (.bool (smallB c)) ∧ w = w' := by
  by_cases h : c < 0
  · go_enter Try.func12, Try.ntmps12
    go_wp2
    go_ret
    exact ⟨retS_bool (smallB_out c (by omega)).symm, rfl⟩
  · go_enter Try.func12, Try.ntmps12
    go_wp2
    go_ret
    refine ⟨retS_bool ?_, rfl⟩
    unfold smallB
    exact decide_eq_decide.mpr (by omega)
theorem pages_any (c : Int) (w : World) :
    Calls Try.prog 13 #[.int .i64 c] w fun e w' => e = .returned (.int .i64 (pagesI c)) ∧ w = w' := by
  rcases cls_ways c with h | h | h | h | h | h | h | h | h
  · rw [pagesI_out c h]
    have e0 := smallB_out c (by omega)
    have e1 := wordsI_out c h
    go_enter Try.func13, Try.ntmps13
    go_wp2_with (first | (go_at_call 11; refine (small_any _ _).mono ?_; rintro e w' ⟨rfl, rfl⟩) | (go_at_call 9; refine (words_any _ _).mono ?_; rintro e w' ⟨rfl, rfl⟩))
    all_goals (go_ret; exact ⟨rfl, rfl⟩)
  · subst h
    have e0 : smallB 0 = true := by decide
    have e1 : wordsI 0 = 32 := by decide
    go_enter Try.func13, Try.ntmps13
    go_wp2_with (first | (go_at_call 11; refine (small_any _ _).mono ?_; rintro e w' ⟨rfl, rfl⟩) | (go_at_call 9; refine (words_any _ _).mono ?_; rintro e w' ⟨rfl, rfl⟩))
    go_ret
    exact ⟨retS_int (by decide), rfl⟩
  · subst h
    have e0 : smallB 1 = true := by decide
    have e1 : wordsI 1 = 64 := by decide
    go_enter Try.func13, Try.ntmps13
    go_wp2_with (first | (go_at_call 11; refine (small_any _ _).mono ?_; rintro e w' ⟨rfl, rfl⟩) | (go_at_call 9; refine (words_any _ _).mono ?_; rintro e w' ⟨rfl, rfl⟩))
    go_ret
    exact ⟨retS_int (by decide), rfl⟩
  · subst h
    have e0 : smallB 2 = true := by decide
    have e1 : wordsI 2 = 128 := by decide
    go_enter Try.func13, Try.ntmps13
    go_wp2_with (first | (go_at_call 11; refine (small_any _ _).mono ?_; rintro e w' ⟨rfl, rfl⟩) | (go_at_call 9; refine (words_any _ _).mono ?_; rintro e w' ⟨rfl, rfl⟩))
    go_ret
    exact ⟨retS_int (by decide), rfl⟩
  · subst h
    have e0 : smallB 3 = true := by decide
    have e1 : wordsI 3 = 256 := by decide
    go_enter Try.func13, Try.ntmps13
    go_wp2_with (first | (go_at_call 11; refine (small_any _ _).mono ?_; rintro e w' ⟨rfl, rfl⟩) | (go_at_call 9; refine (words_any _ _).mono ?_; rintro e w' ⟨rfl, rfl⟩))
    go_ret
    exact ⟨retS_int (by decide), rfl⟩
  · subst h
    have e0 : smallB 4 = false := by decide
    have e1 : wordsI 4 = 512 := by decide
    go_enter Try.func13, Try.ntmps13
    go_wp2_with (first | (go_at_call 11; refine (small_any _ _).mono ?_; rintro e w' ⟨rfl, rfl⟩) | (go_at_call 9; refine (words_any _ _).mono ?_; rintro e w' ⟨rfl, rfl⟩))
    go_ret
    exact ⟨retS_int (by decide), rfl⟩
  · subst h
    have e0 : smallB 5 = false := by decide
    have e1 : wordsI 5 = 1024 := by decide
    go_enter Try.func13, Try.ntmps13
    go_wp2_with (first | (go_at_call 11; refine (small_any _ _).mono ?_; rintro e w' ⟨rfl, rfl⟩) | (go_at_call 9; refine (words_any _ _).mono ?_; rintro e w' ⟨rfl, rfl⟩))
    go_ret
    exact ⟨retS_int (by decide), rfl⟩
  · subst h
    have e0 : smallB 6 = false := by decide
    have e1 : wordsI 6 = 2048 := by decide
    go_enter Try.func13, Try.ntmps13
    go_wp2_with (first | (go_at_call 11; refine (small_any _ _).mono ?_; rintro e w' ⟨rfl, rfl⟩) | (go_at_call 9; refine (words_any _ _).mono ?_; rintro e w' ⟨rfl, rfl⟩))
    go_ret
    exact ⟨retS_int (by decide), rfl⟩
  · subst h
    have e0 : smallB 7 = false := by decide
    have e1 : wordsI 7 = 4096 := by decide
    go_enter Try.func13, Try.ntmps13
    go_wp2_with (first | (go_at_call 11; refine (small_any _ _).mono ?_; rintro e w' ⟨rfl, rfl⟩) | (go_at_call 9; refine (words_any _ _).mono ?_; rintro e w' ⟨rfl, rfl⟩))
    go_ret
    exact ⟨retS_int (by decide), rfl⟩
theorem rpages_any (c : Int) (w : World) :
    Calls Try.prog 14 #[.int .i64 c] w fun e w' => e = .returned (.int .i64 (pagesI c)) ∧ w = w' := by
  rcases cls_ways c with h | h | h | h | h | h | h | h | h
  · rw [pagesI_out c h]
    have e0 := smallB_out c (by omega)
    have e1 := wordsI_out c h
    go_enter Try.func14, Try.ntmps14
    go_wp2_with (first | (go_at_call 12; refine (rsmall_any _ _).mono ?_; rintro e w' ⟨rfl, rfl⟩) | (go_at_call 10; refine (rwords_any _ _).mono ?_; rintro e w' ⟨rfl, rfl⟩))
    all_goals (go_ret; exact ⟨rfl, rfl⟩)
  · subst h
    have e0 : smallB 0 = true := by decide
    have e1 : wordsI 0 = 32 := by decide
    go_enter Try.func14, Try.ntmps14
    go_wp2_with (first | (go_at_call 12; refine (rsmall_any _ _).mono ?_; rintro e w' ⟨rfl, rfl⟩) | (go_at_call 10; refine (rwords_any _ _).mono ?_; rintro e w' ⟨rfl, rfl⟩))
    go_ret
    exact ⟨retS_int (by decide), rfl⟩
  · subst h
    have e0 : smallB 1 = true := by decide
    have e1 : wordsI 1 = 64 := by decide
    go_enter Try.func14, Try.ntmps14
    go_wp2_with (first | (go_at_call 12; refine (rsmall_any _ _).mono ?_; rintro e w' ⟨rfl, rfl⟩) | (go_at_call 10; refine (rwords_any _ _).mono ?_; rintro e w' ⟨rfl, rfl⟩))
    go_ret
    exact ⟨retS_int (by decide), rfl⟩
  · subst h
    have e0 : smallB 2 = true := by decide
    have e1 : wordsI 2 = 128 := by decide
    go_enter Try.func14, Try.ntmps14
    go_wp2_with (first | (go_at_call 12; refine (rsmall_any _ _).mono ?_; rintro e w' ⟨rfl, rfl⟩) | (go_at_call 10; refine (rwords_any _ _).mono ?_; rintro e w' ⟨rfl, rfl⟩))
    go_ret
    exact ⟨retS_int (by decide), rfl⟩
  · subst h
    have e0 : smallB 3 = true := by decide
    have e1 : wordsI 3 = 256 := by decide
    go_enter Try.func14, Try.ntmps14
    go_wp2_with (first | (go_at_call 12; refine (rsmall_any _ _).mono ?_; rintro e w' ⟨rfl, rfl⟩) | (go_at_call 10; refine (rwords_any _ _).mono ?_; rintro e w' ⟨rfl, rfl⟩))
    go_ret
    exact ⟨retS_int (by decide), rfl⟩
  · subst h
    have e0 : smallB 4 = false := by decide
    have e1 : wordsI 4 = 512 := by decide
    go_enter Try.func14, Try.ntmps14
    go_wp2_with (first | (go_at_call 12; refine (rsmall_any _ _).mono ?_; rintro e w' ⟨rfl, rfl⟩) | (go_at_call 10; refine (rwords_any _ _).mono ?_; rintro e w' ⟨rfl, rfl⟩))
    go_ret
    exact ⟨retS_int (by decide), rfl⟩
  · subst h
    have e0 : smallB 5 = false := by decide
    have e1 : wordsI 5 = 1024 := by decide
    go_enter Try.func14, Try.ntmps14
    go_wp2_with (first | (go_at_call 12; refine (rsmall_any _ _).mono ?_; rintro e w' ⟨rfl, rfl⟩) | (go_at_call 10; refine (rwords_any _ _).mono ?_; rintro e w' ⟨rfl, rfl⟩))
    go_ret
    exact ⟨retS_int (by decide), rfl⟩
  · subst h
    have e0 : smallB 6 = false := by decide
    have e1 : wordsI 6 = 2048 := by decide
    go_enter Try.func14, Try.ntmps14
    go_wp2_with (first | (go_at_call 12; refine (rsmall_any _ _).mono ?_; rintro e w' ⟨rfl, rfl⟩) | (go_at_call 10; refine (rwords_any _ _).mono ?_; rintro e w' ⟨rfl, rfl⟩))
    go_ret
    exact ⟨retS_int (by decide), rfl⟩
  · subst h
    have e0 : smallB 7 = false := by decide
    have e1 : wordsI 7 = 4096 := by decide
    go_enter Try.func14, Try.ntmps14
    go_wp2_with (first | (go_at_call 12; refine (rsmall_any _ _).mono ?_; rintro e w' ⟨rfl, rfl⟩) | (go_at_call 10; refine (rwords_any _ _).mono ?_; rintro e w' ⟨rfl, rfl⟩))
    go_ret
    exact ⟨retS_int (by decide), rfl⟩
theorem per_any (c : Int) (w : World) :
    Calls Try.prog 15 #[.int .i64 c] w fun e w' => e = .returned (.int .i64 (perI c)) ∧ w = w' := by
  rcases cls_ways c with h | h | h | h | h | h | h | h | h
  · rw [perI_out c h]
    have e0 := clsB_out c h
    have e1 := wordsI_out c h
    go_enter Try.func15, Try.ntmps15
    go_wp2_with (first | (go_at_call 13; refine (pages_any _ _).mono ?_; rintro e w' ⟨rfl, rfl⟩) | (go_at_call 9; refine (words_any _ _).mono ?_; rintro e w' ⟨rfl, rfl⟩) | (go_at_call 22; refine (iscls_any _ _).mono ?_; rintro e w' ⟨rfl, rfl⟩))
    all_goals (go_ret; exact ⟨rfl, rfl⟩)
  · subst h
    have e0 : pagesI 0 = 8 := by decide
    have e1 : wordsI 0 = 32 := by decide
    have e2 : clsB 0 = true := by decide
    go_enter Try.func15, Try.ntmps15
    go_wp2_with (first | (go_at_call 13; refine (pages_any _ _).mono ?_; rintro e w' ⟨rfl, rfl⟩) | (go_at_call 9; refine (words_any _ _).mono ?_; rintro e w' ⟨rfl, rfl⟩) | (go_at_call 22; refine (iscls_any _ _).mono ?_; rintro e w' ⟨rfl, rfl⟩))
    go_ret
    exact ⟨retS_int (by decide), rfl⟩
  · subst h
    have e0 : pagesI 1 = 8 := by decide
    have e1 : wordsI 1 = 64 := by decide
    have e2 : clsB 1 = true := by decide
    go_enter Try.func15, Try.ntmps15
    go_wp2_with (first | (go_at_call 13; refine (pages_any _ _).mono ?_; rintro e w' ⟨rfl, rfl⟩) | (go_at_call 9; refine (words_any _ _).mono ?_; rintro e w' ⟨rfl, rfl⟩) | (go_at_call 22; refine (iscls_any _ _).mono ?_; rintro e w' ⟨rfl, rfl⟩))
    go_ret
    exact ⟨retS_int (by decide), rfl⟩
  · subst h
    have e0 : pagesI 2 = 8 := by decide
    have e1 : wordsI 2 = 128 := by decide
    have e2 : clsB 2 = true := by decide
    go_enter Try.func15, Try.ntmps15
    go_wp2_with (first | (go_at_call 13; refine (pages_any _ _).mono ?_; rintro e w' ⟨rfl, rfl⟩) | (go_at_call 9; refine (words_any _ _).mono ?_; rintro e w' ⟨rfl, rfl⟩) | (go_at_call 22; refine (iscls_any _ _).mono ?_; rintro e w' ⟨rfl, rfl⟩))
    go_ret
    exact ⟨retS_int (by decide), rfl⟩
  · subst h
    have e0 : pagesI 3 = 8 := by decide
    have e1 : wordsI 3 = 256 := by decide
    have e2 : clsB 3 = true := by decide
    go_enter Try.func15, Try.ntmps15
    go_wp2_with (first | (go_at_call 13; refine (pages_any _ _).mono ?_; rintro e w' ⟨rfl, rfl⟩) | (go_at_call 9; refine (words_any _ _).mono ?_; rintro e w' ⟨rfl, rfl⟩) | (go_at_call 22; refine (iscls_any _ _).mono ?_; rintro e w' ⟨rfl, rfl⟩))
    go_ret
    exact ⟨retS_int (by decide), rfl⟩
  · subst h
    have e0 : pagesI 4 = 8 := by decide
    have e1 : wordsI 4 = 512 := by decide
    have e2 : clsB 4 = true := by decide
    go_enter Try.func15, Try.ntmps15
    go_wp2_with (first | (go_at_call 13; refine (pages_any _ _).mono ?_; rintro e w' ⟨rfl, rfl⟩) | (go_at_call 9; refine (words_any _ _).mono ?_; rintro e w' ⟨rfl, rfl⟩) | (go_at_call 22; refine (iscls_any _ _).mono ?_; rintro e w' ⟨rfl, rfl⟩))
    go_ret
    exact ⟨retS_int (by decide), rfl⟩
  · subst h
    have e0 : pagesI 5 = 16 := by decide
    have e1 : wordsI 5 = 1024 := by decide
    have e2 : clsB 5 = true := by decide
    go_enter Try.func15, Try.ntmps15
    go_wp2_with (first | (go_at_call 13; refine (pages_any _ _).mono ?_; rintro e w' ⟨rfl, rfl⟩) | (go_at_call 9; refine (words_any _ _).mono ?_; rintro e w' ⟨rfl, rfl⟩) | (go_at_call 22; refine (iscls_any _ _).mono ?_; rintro e w' ⟨rfl, rfl⟩))
    go_ret
    exact ⟨retS_int (by decide), rfl⟩
  · subst h
    have e0 : pagesI 6 = 32 := by decide
    have e1 : wordsI 6 = 2048 := by decide
    have e2 : clsB 6 = true := by decide
    go_enter Try.func15, Try.ntmps15
    go_wp2_with (first | (go_at_call 13; refine (pages_any _ _).mono ?_; rintro e w' ⟨rfl, rfl⟩) | (go_at_call 9; refine (words_any _ _).mono ?_; rintro e w' ⟨rfl, rfl⟩) | (go_at_call 22; refine (iscls_any _ _).mono ?_; rintro e w' ⟨rfl, rfl⟩))
    go_ret
    exact ⟨retS_int (by decide), rfl⟩
  · subst h
    have e0 : pagesI 7 = 64 := by decide
    have e1 : wordsI 7 = 4096 := by decide
    have e2 : clsB 7 = true := by decide
    go_enter Try.func15, Try.ntmps15
    go_wp2_with (first | (go_at_call 13; refine (pages_any _ _).mono ?_; rintro e w' ⟨rfl, rfl⟩) | (go_at_call 9; refine (words_any _ _).mono ?_; rintro e w' ⟨rfl, rfl⟩) | (go_at_call 22; refine (iscls_any _ _).mono ?_; rintro e w' ⟨rfl, rfl⟩))
    go_ret
    exact ⟨retS_int (by decide), rfl⟩
theorem rper_any (c : Int) (w : World) :
    Calls Try.prog 16 #[.int .i64 c] w fun e w' => e = .returned (.int .i64 (perI c)) ∧ w = w' := by
  rcases cls_ways c with h | h | h | h | h | h | h | h | h
  · rw [perI_out c h]
    have e0 := clsB_out c h
    have e1 := wordsI_out c h
    go_enter Try.func16, Try.ntmps16
    go_wp2_with (first | (go_at_call 14; refine (rpages_any _ _).mono ?_; rintro e w' ⟨rfl, rfl⟩) | (go_at_call 10; refine (rwords_any _ _).mono ?_; rintro e w' ⟨rfl, rfl⟩))
    all_goals (go_ret; exact ⟨rfl, rfl⟩)
  · subst h
    have e0 : pagesI 0 = 8 := by decide
    have e1 : wordsI 0 = 32 := by decide
    have e2 : clsB 0 = true := by decide
    go_enter Try.func16, Try.ntmps16
    go_wp2_with (first | (go_at_call 14; refine (rpages_any _ _).mono ?_; rintro e w' ⟨rfl, rfl⟩) | (go_at_call 10; refine (rwords_any _ _).mono ?_; rintro e w' ⟨rfl, rfl⟩))
    go_ret
    exact ⟨retS_int (by decide), rfl⟩
  · subst h
    have e0 : pagesI 1 = 8 := by decide
    have e1 : wordsI 1 = 64 := by decide
    have e2 : clsB 1 = true := by decide
    go_enter Try.func16, Try.ntmps16
    go_wp2_with (first | (go_at_call 14; refine (rpages_any _ _).mono ?_; rintro e w' ⟨rfl, rfl⟩) | (go_at_call 10; refine (rwords_any _ _).mono ?_; rintro e w' ⟨rfl, rfl⟩))
    go_ret
    exact ⟨retS_int (by decide), rfl⟩
  · subst h
    have e0 : pagesI 2 = 8 := by decide
    have e1 : wordsI 2 = 128 := by decide
    have e2 : clsB 2 = true := by decide
    go_enter Try.func16, Try.ntmps16
    go_wp2_with (first | (go_at_call 14; refine (rpages_any _ _).mono ?_; rintro e w' ⟨rfl, rfl⟩) | (go_at_call 10; refine (rwords_any _ _).mono ?_; rintro e w' ⟨rfl, rfl⟩))
    go_ret
    exact ⟨retS_int (by decide), rfl⟩
  · subst h
    have e0 : pagesI 3 = 8 := by decide
    have e1 : wordsI 3 = 256 := by decide
    have e2 : clsB 3 = true := by decide
    go_enter Try.func16, Try.ntmps16
    go_wp2_with (first | (go_at_call 14; refine (rpages_any _ _).mono ?_; rintro e w' ⟨rfl, rfl⟩) | (go_at_call 10; refine (rwords_any _ _).mono ?_; rintro e w' ⟨rfl, rfl⟩))
    go_ret
    exact ⟨retS_int (by decide), rfl⟩
  · subst h
    have e0 : pagesI 4 = 8 := by decide
    have e1 : wordsI 4 = 512 := by decide
    have e2 : clsB 4 = true := by decide
    go_enter Try.func16, Try.ntmps16
    go_wp2_with (first | (go_at_call 14; refine (rpages_any _ _).mono ?_; rintro e w' ⟨rfl, rfl⟩) | (go_at_call 10; refine (rwords_any _ _).mono ?_; rintro e w' ⟨rfl, rfl⟩))
    go_ret
    exact ⟨retS_int (by decide), rfl⟩
  · subst h
    have e0 : pagesI 5 = 16 := by decide
    have e1 : wordsI 5 = 1024 := by decide
    have e2 : clsB 5 = true := by decide
    go_enter Try.func16, Try.ntmps16
    go_wp2_with (first | (go_at_call 14; refine (rpages_any _ _).mono ?_; rintro e w' ⟨rfl, rfl⟩) | (go_at_call 10; refine (rwords_any _ _).mono ?_; rintro e w' ⟨rfl, rfl⟩))
    go_ret
    exact ⟨retS_int (by decide), rfl⟩
  · subst h
    have e0 : pagesI 6 = 32 := by decide
    have e1 : wordsI 6 = 2048 := by decide
    have e2 : clsB 6 = true := by decide
    go_enter Try.func16, Try.ntmps16
    go_wp2_with (first | (go_at_call 14; refine (rpages_any _ _).mono ?_; rintro e w' ⟨rfl, rfl⟩) | (go_at_call 10; refine (rwords_any _ _).mono ?_; rintro e w' ⟨rfl, rfl⟩))
    go_ret
    exact ⟨retS_int (by decide), rfl⟩
  · subst h
    have e0 : pagesI 7 = 64 := by decide
    have e1 : wordsI 7 = 4096 := by decide
    have e2 : clsB 7 = true := by decide
    go_enter Try.func16, Try.ntmps16
    go_wp2_with (first | (go_at_call 14; refine (rpages_any _ _).mono ?_; rintro e w' ⟨rfl, rfl⟩) | (go_at_call 10; refine (rwords_any _ _).mono ?_; rintro e w' ⟨rfl, rfl⟩))
    go_ret
    exact ⟨retS_int (by decide), rfl⟩
theorem batch_any (c : Int) (w : World) :
    Calls Try.prog 17 #[.int .i64 c] w fun e w' => e = .returned (.int .i64 (batchI c)) ∧ w = w' := by
  rcases cls_ways c with h | h | h | h | h | h | h | h | h
  · rw [batchI_out c (by omega)]
    have e0 := smallB_out c (by omega)
    go_enter Try.func17, Try.ntmps17
    go_wp2_with ((go_at_call 11; refine (small_any _ _).mono ?_; rintro e w' ⟨rfl, rfl⟩))
    all_goals (go_ret; exact ⟨rfl, rfl⟩)
  · subst h
    have e0 : smallB 0 = true := by decide
    go_enter Try.func17, Try.ntmps17
    go_wp2_with ((go_at_call 11; refine (small_any _ _).mono ?_; rintro e w' ⟨rfl, rfl⟩))
    go_ret
    exact ⟨retS_int (by decide), rfl⟩
  · subst h
    have e0 : smallB 1 = true := by decide
    go_enter Try.func17, Try.ntmps17
    go_wp2_with ((go_at_call 11; refine (small_any _ _).mono ?_; rintro e w' ⟨rfl, rfl⟩))
    go_ret
    exact ⟨retS_int (by decide), rfl⟩
  · subst h
    have e0 : smallB 2 = true := by decide
    go_enter Try.func17, Try.ntmps17
    go_wp2_with ((go_at_call 11; refine (small_any _ _).mono ?_; rintro e w' ⟨rfl, rfl⟩))
    go_ret
    exact ⟨retS_int (by decide), rfl⟩
  · subst h
    have e0 : smallB 3 = true := by decide
    go_enter Try.func17, Try.ntmps17
    go_wp2_with ((go_at_call 11; refine (small_any _ _).mono ?_; rintro e w' ⟨rfl, rfl⟩))
    go_ret
    exact ⟨retS_int (by decide), rfl⟩
  · subst h
    have e0 : smallB 4 = false := by decide
    go_enter Try.func17, Try.ntmps17
    go_wp2_with ((go_at_call 11; refine (small_any _ _).mono ?_; rintro e w' ⟨rfl, rfl⟩))
    go_ret
    exact ⟨retS_int (by decide), rfl⟩
  · subst h
    have e0 : smallB 5 = false := by decide
    go_enter Try.func17, Try.ntmps17
    go_wp2_with ((go_at_call 11; refine (small_any _ _).mono ?_; rintro e w' ⟨rfl, rfl⟩))
    go_ret
    exact ⟨retS_int (by decide), rfl⟩
  · subst h
    have e0 : smallB 6 = false := by decide
    go_enter Try.func17, Try.ntmps17
    go_wp2_with ((go_at_call 11; refine (small_any _ _).mono ?_; rintro e w' ⟨rfl, rfl⟩))
    go_ret
    exact ⟨retS_int (by decide), rfl⟩
  · subst h
    have e0 : smallB 7 = false := by decide
    go_enter Try.func17, Try.ntmps17
    go_wp2_with ((go_at_call 11; refine (small_any _ _).mono ?_; rintro e w' ⟨rfl, rfl⟩))
    go_ret
    exact ⟨retS_int (by decide), rfl⟩
theorem cap_any (c : Int) (w : World) :
    Calls Try.prog 19 #[.int .i64 c] w fun e w' => e = .returned (.int .i64 (capI c)) ∧ w = w' := by
  rcases cls_ways c with h | h | h | h | h | h | h | h | h
  · rw [capI_out c (by omega)]
    have e0 := batchI_out c (by omega)
    go_enter Try.func19, Try.ntmps19
    go_wp2_with ((go_at_call 17; refine (batch_any _ _).mono ?_; rintro e w' ⟨rfl, rfl⟩))
    all_goals (go_ret; exact ⟨rfl, rfl⟩)
  · subst h
    have e0 : batchI 0 = 4 := by decide
    go_enter Try.func19, Try.ntmps19
    go_wp2_with ((go_at_call 17; refine (batch_any _ _).mono ?_; rintro e w' ⟨rfl, rfl⟩))
    go_ret
    exact ⟨retS_int (by decide), rfl⟩
  · subst h
    have e0 : batchI 1 = 3 := by decide
    go_enter Try.func19, Try.ntmps19
    go_wp2_with ((go_at_call 17; refine (batch_any _ _).mono ?_; rintro e w' ⟨rfl, rfl⟩))
    go_ret
    exact ⟨retS_int (by decide), rfl⟩
  · subst h
    have e0 : batchI 2 = 2 := by decide
    go_enter Try.func19, Try.ntmps19
    go_wp2_with ((go_at_call 17; refine (batch_any _ _).mono ?_; rintro e w' ⟨rfl, rfl⟩))
    go_ret
    exact ⟨retS_int (by decide), rfl⟩
  · subst h
    have e0 : batchI 3 = 1 := by decide
    go_enter Try.func19, Try.ntmps19
    go_wp2_with ((go_at_call 17; refine (batch_any _ _).mono ?_; rintro e w' ⟨rfl, rfl⟩))
    go_ret
    exact ⟨retS_int (by decide), rfl⟩
  · subst h
    have e0 : batchI 4 = 0 := by decide
    go_enter Try.func19, Try.ntmps19
    go_wp2_with ((go_at_call 17; refine (batch_any _ _).mono ?_; rintro e w' ⟨rfl, rfl⟩))
    go_ret
    exact ⟨retS_int (by decide), rfl⟩
  · subst h
    have e0 : batchI 5 = 0 := by decide
    go_enter Try.func19, Try.ntmps19
    go_wp2_with ((go_at_call 17; refine (batch_any _ _).mono ?_; rintro e w' ⟨rfl, rfl⟩))
    go_ret
    exact ⟨retS_int (by decide), rfl⟩
  · subst h
    have e0 : batchI 6 = 0 := by decide
    go_enter Try.func19, Try.ntmps19
    go_wp2_with ((go_at_call 17; refine (batch_any _ _).mono ?_; rintro e w' ⟨rfl, rfl⟩))
    go_ret
    exact ⟨retS_int (by decide), rfl⟩
  · subst h
    have e0 : batchI 7 = 0 := by decide
    go_enter Try.func19, Try.ntmps19
    go_wp2_with ((go_at_call 17; refine (batch_any _ _).mono ?_; rintro e w' ⟨rfl, rfl⟩))
    go_ret
    exact ⟨retS_int (by decide), rfl⟩
theorem rbatch_any (c : Int) (w : World) :
    Calls Try.prog 18 #[.int .i64 c] w fun e w' => e = .returned (.int .i64 (batchI c)) ∧ w = w' := by
  rcases cls_ways c with h | h | h | h | h | h | h | h | h
  · rw [batchI_out c (by omega)]
    have e0 := smallB_out c (by omega)
    go_enter Try.func18, Try.ntmps18
    go_wp2_with ((go_at_call 12; refine (rsmall_any _ _).mono ?_; rintro e w' ⟨rfl, rfl⟩))
    all_goals (go_ret; exact ⟨rfl, rfl⟩)
  · subst h
    have e0 : smallB 0 = true := by decide
    go_enter Try.func18, Try.ntmps18
    go_wp2_with ((go_at_call 12; refine (rsmall_any _ _).mono ?_; rintro e w' ⟨rfl, rfl⟩))
    go_ret
    exact ⟨retS_int (by decide), rfl⟩
  · subst h
    have e0 : smallB 1 = true := by decide
    go_enter Try.func18, Try.ntmps18
    go_wp2_with ((go_at_call 12; refine (rsmall_any _ _).mono ?_; rintro e w' ⟨rfl, rfl⟩))
    go_ret
    exact ⟨retS_int (by decide), rfl⟩
  · subst h
    have e0 : smallB 2 = true := by decide
    go_enter Try.func18, Try.ntmps18
    go_wp2_with ((go_at_call 12; refine (rsmall_any _ _).mono ?_; rintro e w' ⟨rfl, rfl⟩))
    go_ret
    exact ⟨retS_int (by decide), rfl⟩
  · subst h
    have e0 : smallB 3 = true := by decide
    go_enter Try.func18, Try.ntmps18
    go_wp2_with ((go_at_call 12; refine (rsmall_any _ _).mono ?_; rintro e w' ⟨rfl, rfl⟩))
    go_ret
    exact ⟨retS_int (by decide), rfl⟩
  · subst h
    have e0 : smallB 4 = false := by decide
    go_enter Try.func18, Try.ntmps18
    go_wp2_with ((go_at_call 12; refine (rsmall_any _ _).mono ?_; rintro e w' ⟨rfl, rfl⟩))
    go_ret
    exact ⟨retS_int (by decide), rfl⟩
  · subst h
    have e0 : smallB 5 = false := by decide
    go_enter Try.func18, Try.ntmps18
    go_wp2_with ((go_at_call 12; refine (rsmall_any _ _).mono ?_; rintro e w' ⟨rfl, rfl⟩))
    go_ret
    exact ⟨retS_int (by decide), rfl⟩
  · subst h
    have e0 : smallB 6 = false := by decide
    go_enter Try.func18, Try.ntmps18
    go_wp2_with ((go_at_call 12; refine (rsmall_any _ _).mono ?_; rintro e w' ⟨rfl, rfl⟩))
    go_ret
    exact ⟨retS_int (by decide), rfl⟩
  · subst h
    have e0 : smallB 7 = false := by decide
    go_enter Try.func18, Try.ntmps18
    go_wp2_with ((go_at_call 12; refine (rsmall_any _ _).mono ?_; rintro e w' ⟨rfl, rfl⟩))
    go_ret
    exact ⟨retS_int (by decide), rfl⟩
theorem rcap_any (c : Int) (w : World) :
    Calls Try.prog 20 #[.int .i64 c] w fun e w' => e = .returned (.int .i64 (capI c)) ∧ w = w' := by
  rcases cls_ways c with h | h | h | h | h | h | h | h | h
  · rw [capI_out c (by omega)]
    have e0 := batchI_out c (by omega)
    go_enter Try.func20, Try.ntmps20
    go_wp2_with ((go_at_call 18; refine (rbatch_any _ _).mono ?_; rintro e w' ⟨rfl, rfl⟩))
    all_goals (go_ret; exact ⟨rfl, rfl⟩)
  · subst h
    have e0 : batchI 0 = 4 := by decide
    go_enter Try.func20, Try.ntmps20
    go_wp2_with ((go_at_call 18; refine (rbatch_any _ _).mono ?_; rintro e w' ⟨rfl, rfl⟩))
    go_ret
    exact ⟨retS_int (by decide), rfl⟩
  · subst h
    have e0 : batchI 1 = 3 := by decide
    go_enter Try.func20, Try.ntmps20
    go_wp2_with ((go_at_call 18; refine (rbatch_any _ _).mono ?_; rintro e w' ⟨rfl, rfl⟩))
    go_ret
    exact ⟨retS_int (by decide), rfl⟩
  · subst h
    have e0 : batchI 2 = 2 := by decide
    go_enter Try.func20, Try.ntmps20
    go_wp2_with ((go_at_call 18; refine (rbatch_any _ _).mono ?_; rintro e w' ⟨rfl, rfl⟩))
    go_ret
    exact ⟨retS_int (by decide), rfl⟩
  · subst h
    have e0 : batchI 3 = 1 := by decide
    go_enter Try.func20, Try.ntmps20
    go_wp2_with ((go_at_call 18; refine (rbatch_any _ _).mono ?_; rintro e w' ⟨rfl, rfl⟩))
    go_ret
    exact ⟨retS_int (by decide), rfl⟩
  · subst h
    have e0 : batchI 4 = 0 := by decide
    go_enter Try.func20, Try.ntmps20
    go_wp2_with ((go_at_call 18; refine (rbatch_any _ _).mono ?_; rintro e w' ⟨rfl, rfl⟩))
    go_ret
    exact ⟨retS_int (by decide), rfl⟩
  · subst h
    have e0 : batchI 5 = 0 := by decide
    go_enter Try.func20, Try.ntmps20
    go_wp2_with ((go_at_call 18; refine (rbatch_any _ _).mono ?_; rintro e w' ⟨rfl, rfl⟩))
    go_ret
    exact ⟨retS_int (by decide), rfl⟩
  · subst h
    have e0 : batchI 6 = 0 := by decide
    go_enter Try.func20, Try.ntmps20
    go_wp2_with ((go_at_call 18; refine (rbatch_any _ _).mono ?_; rintro e w' ⟨rfl, rfl⟩))
    go_ret
    exact ⟨retS_int (by decide), rfl⟩
  · subst h
    have e0 : batchI 7 = 0 := by decide
    go_enter Try.func20, Try.ntmps20
    go_wp2_with ((go_at_call 18; refine (rbatch_any _ _).mono ?_; rintro e w' ⟨rfl, rfl⟩))
    go_ret
    exact ⟨retS_int (by decide), rfl⟩
set_option maxHeartbeats 1000000 in
theorem class_any (n : Int) (w : World) :
    Calls Try.prog 7 #[.int .i64 n] w fun e w' => e = .returned (.tuple #[.int .i64 (classI n), .bool (classB n)]) ∧ w = w' := by
  by_cases a : n < 1
  · rw [classI_out n (Or.inl a), classB_out n (Or.inl a)]
    go_enter Try.func7, Try.ntmps7
    go_wp2
    go_ret2
    exact ⟨rfl, rfl⟩
  · by_cases b : 4096 < n
    · rw [classI_out n (Or.inr b), classB_out n (Or.inr b)]
      go_enter Try.func7, Try.ntmps7
      go_wp2
      go_ret2
      exact ⟨rfl, rfl⟩
    · rw [classB_in n (by omega) (by omega)]
      go_enter Try.func7, Try.ntmps7
      go_wp2
      go_loop [4] (fun i => ∃ k : Nat, k ≤ 7 ∧ i = .int .i64 k ∧ ((k : Int) = 0 ∨ wordsI ((k : Int) - 1) < n)) (fun i => 8 - (intOf i).toNat)
      case atStart => exact ⟨0, Nat.zero_le _, rfl, Or.inl rfl⟩
      case round =>
        obtain ⟨k, hk, rfl, hL⟩ := hrel
        have HL := Lib.hid hL
        clear hL
        by_cases d : wordsI (k : Int) < n
        · have k7 : k ≠ 7 := by
            intro z
            subst z
            have : wordsI ((7 : Nat) : Int) = 4096 := by decide
            omega
          go_wp2_with (go_at_call 9; refine (words_any _ _).mono ?_; rintro e w' ⟨rfl, rfl⟩)
          go_round
          case rel =>
            refine ⟨k + 1, by omega, by go_num, Or.inr ?_⟩
            have e : ((k + 1 : Nat) : Int) - 1 = (k : Int) := by omega
            rw [e]
            exact d
          case measure => simp [intOf]; omega
        · have E := Lib.hid (class_found n k (by omega) (by omega) (by omega) (by omega) HL.out (by omega))
          go_wp2_with (go_at_call 9; refine (words_any _ _).mono ?_; rintro e w' ⟨rfl, rfl⟩)
          go_ret2
          rw [E.out]
          exact ⟨rfl, rfl⟩
set_option maxHeartbeats 1000000 in
theorem rclass_any (n : Int) (w : World) :
    Calls Try.prog 8 #[.int .i64 n] w fun e w' => e = .returned (.tuple #[.int .i64 (classI n), .bool (classB n)]) ∧ w = w' := by
  by_cases a : n < 1
  · rw [classI_out n (Or.inl a), classB_out n (Or.inl a)]
    go_enter Try.func8, Try.ntmps8
    go_wp2
    go_ret2
    exact ⟨rfl, rfl⟩
  · by_cases b : 4096 < n
    · rw [classI_out n (Or.inr b), classB_out n (Or.inr b)]
      go_enter Try.func8, Try.ntmps8
      go_wp2
      go_ret2
      exact ⟨rfl, rfl⟩
    · rw [classB_in n (by omega) (by omega)]
      go_enter Try.func8, Try.ntmps8
      go_wp2
      go_loop [4] (fun i => ∃ k : Nat, k ≤ 7 ∧ i = .int .i64 k ∧ ((k : Int) = 0 ∨ wordsI ((k : Int) - 1) < n)) (fun i => 8 - (intOf i).toNat)
      case atStart => exact ⟨0, Nat.zero_le _, rfl, Or.inl rfl⟩
      case round =>
        obtain ⟨k, hk, rfl, hL⟩ := hrel
        have HL := Lib.hid hL
        clear hL
        by_cases d : wordsI (k : Int) < n
        · have k7 : k ≠ 7 := by
            intro z
            subst z
            have : wordsI ((7 : Nat) : Int) = 4096 := by decide
            omega
          go_wp2_with (go_at_call 10; refine (rwords_any _ _).mono ?_; rintro e w' ⟨rfl, rfl⟩)
          go_round
          case rel =>
            refine ⟨k + 1, by omega, by go_num, Or.inr ?_⟩
            have e : ((k + 1 : Nat) : Int) - 1 = (k : Int) := by omega
            rw [e]
            exact d
          case measure => simp [intOf]; omega
        · have E := Lib.hid (class_found n k (by omega) (by omega) (by omega) (by omega) HL.out (by omega))
          go_wp2_with (go_at_call 10; refine (rwords_any _ _).mono ?_; rintro e w' ⟨rfl, rfl⟩)
          go_ret2
          rw [E.out]
          exact ⟨rfl, rfl⟩
end Go.Proofs.Ytgcbdmakhkomjaa
