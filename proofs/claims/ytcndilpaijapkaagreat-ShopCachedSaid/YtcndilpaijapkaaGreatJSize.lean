/-
  Joined texts of Size; own work.
-/
import Derived.WalkKit
import Derived.ProofKit
import Derived.WalkSpells
import Derived.WalkLawsBesides
import Derived.Test.YtcndilpaijapkaaGreatRows
import Derived.OpenShut
import Derived.Outline
import Derived.Deep.Light
import Derived.Lib.Hide
/- The table of the classes of stacks as plain functions of a number, with no program in sight: words, smallness, pages, stacks of a span, batch, cap, the class of some words. Own work; nothing is assumed. -/
namespace Go.Proofs.YtcndilpaijapkaaGreat
open Go.RowKit

def clsB (c : Int) : Bool := decide (0 ≤ c ∧ c < 8)
def smallB (c : Int) : Bool := decide (0 ≤ c ∧ c < 4)
def wordsI (c : Int) : Int := if c = 0 then 32 else if c = 1 then 64 else if c = 2 then 128 else if c = 3 then 256 else if c = 4 then 512 else if c = 5 then 1024 else if c = 6 then 2048 else if c = 7 then 4096 else 0
def pagesI (c : Int) : Int := if smallB c then 8 else wordsI c / 64
def perI (c : Int) : Int := if clsB c then pagesI c * 64 / wordsI c else 0
def batchI (c : Int) : Int := if smallB c then 4 - c else 0
def capI (c : Int) : Int := 2 * batchI c
def classB (n : Int) : Bool := decide (1 ≤ n ∧ n ≤ 4096)
def classI (n : Int) : Int := if classB n then (if n ≤ 32 then 0 else if n ≤ 64 then 1 else if n ≤ 128 then 2 else if n ≤ 256 then 3 else if n ≤ 512 then 4 else if n ≤ 1024 then 5 else if n ≤ 2048 then 6 else 7) else 0

/-- A number is no class, or one of the eight. -/
theorem cls_ways (c : Int) : (c < 0 ∨ 7 < c) ∨ c = 0 ∨ c = 1 ∨ c = 2 ∨ c = 3 ∨ c = 4 ∨ c = 5 ∨ c = 6 ∨ c = 7 := by omega
theorem clsB_out (c : Int) (h : c < 0 ∨ 7 < c) : clsB c = false := decide_eq_false (by omega)
theorem smallB_out (c : Int) (h : c < 0 ∨ 3 < c) : smallB c = false := decide_eq_false (by omega)
theorem smallB_in (c : Int) (h : 0 ≤ c) (h1 : c < 4) : smallB c = true := decide_eq_true ⟨h, h1⟩
theorem wordsI_out (c : Int) (h : c < 0 ∨ 7 < c) : wordsI c = 0 := by
  unfold wordsI
  rw [if_neg (by omega), if_neg (by omega), if_neg (by omega), if_neg (by omega), if_neg (by omega), if_neg (by omega), if_neg (by omega), if_neg (by omega)]
theorem pagesI_out (c : Int) (h : c < 0 ∨ 7 < c) : pagesI c = 0 := by
  unfold pagesI
  rw [smallB_out c (by omega), wordsI_out c h]
  rfl
theorem perI_out (c : Int) (h : c < 0 ∨ 7 < c) : perI c = 0 := by
  unfold perI
  rw [clsB_out c h]
  rfl
theorem batchI_out (c : Int) (h : c < 0 ∨ 3 < c) : batchI c = 0 := by
  unfold batchI
  rw [smallB_out c h]
  rfl
theorem capI_out (c : Int) (h : c < 0 ∨ 3 < c) : capI c = 0 := by
  unfold capI
  rw [batchI_out c h]
  rfl
theorem wordsI_lim (c : Int) : 0 ≤ wordsI c ∧ wordsI c ≤ 4096 := by
  unfold wordsI
  repeat' split
  all_goals omega
theorem classB_out (n : Int) (h : n < 1 ∨ 4096 < n) : classB n = false := decide_eq_false (by omega)
theorem classB_in (n : Int) (h : 1 ≤ n) (h1 : n ≤ 4096) : classB n = true := decide_eq_true ⟨h, h1⟩
theorem classI_out (n : Int) (h : n < 1 ∨ 4096 < n) : classI n = 0 := by
  unfold classI
  rw [classB_out n h]
  rfl
/-- Of words that there is a class of: the class has them, the one below has not. -/
theorem class_up (n : Int) (h : 1 ≤ n) (h1 : n ≤ 4096) : 0 ≤ classI n ∧ classI n ≤ 7 ∧ n ≤ wordsI (classI n) ∧ (classI n = 0 ∨ wordsI (classI n - 1) < n) := by
  unfold classI
  rw [if_pos (classB_in n h h1)]
  repeat' split
  all_goals (simp [wordsI]; try omega)
theorem wordsI_mono (a b : Int) (h : 0 ≤ a) (h1 : a ≤ b) (h2 : b ≤ 7) : wordsI a ≤ wordsI b := by
  rcases cls_ways a with x | x | x | x | x | x | x | x | x <;> rcases cls_ways b with y | y | y | y | y | y | y | y | y <;> first | omega | (subst x; subst y; decide)
/-- A class that has the words, while the one below has not, is the class of the words. -/
theorem class_found (n k : Int) (h : 1 ≤ n) (h1 : n ≤ 4096) (k0 : 0 ≤ k) (k1 : k ≤ 7) (lo : k = 0 ∨ wordsI (k - 1) < n) (hi : n ≤ wordsI k) : classI n = k := by
  obtain ⟨c0, c1, c2, c3⟩ := class_up n h h1
  generalize classI n = c at c0 c1 c2 c3
  by_cases e : c < k
  · have := wordsI_mono c (k - 1) c0 (by omega) (by omega)
    omega
  · by_cases e' : k < c
    · have := wordsI_mono k (c - 1) k0 (by omega) (by omega)
      omega
    · omega
end Go.Proofs.YtcndilpaijapkaaGreat
/- What each function of package size, and of the document's own table, answers, as a function of its number; the world stays as it was. Own work; each is proved by a walk through the landed text. -/
namespace Go.Proofs.YtcndilpaijapkaaGreat
open Go.ChangeShapes Go.WideShapes Go.ChangeAt Go.RowKit

theorem retS_int {k : IntKind} {a b : Int} (h : a = b) : Ending.returned (.int k a) = .returned (.int k b) := by rw [h]
theorem retS_bool {a b : Bool} (h : a = b) : Ending.returned (.bool a) = .returned (.bool b) := by rw [h]
theorem iscls_any (c : Int) (w : World) :
    Calls Tryz.prog 127 #[.int .i64 c] w fun e w' => e = .returned (.bool (clsB c)) ∧ w = w' := by
  by_cases h : c < 0
  · go_enter Tryz.func127, Tryz.ntmps127
    go_wp2
    go_ret
    exact ⟨retS_bool (clsB_out c (by omega)).symm, rfl⟩
  · go_enter Tryz.func127, Tryz.ntmps127
    go_wp2
    go_ret
    refine ⟨retS_bool ?_, rfl⟩
    unfold clsB
    exact decide_eq_decide.mpr (by omega)
theorem words_any (c : Int) (w : World) :
    Calls Tryz.prog 91 #[.int .i64 c] w fun e w' => e = .returned (.int .i64 (wordsI c)) ∧ w = w' := by
  rcases cls_ways c with h | h | h | h | h | h | h | h | h
  · have hc := clsB_out c h
    rw [wordsI_out c h]
    go_enter Tryz.func91, Tryz.ntmps91
    go_wp2_with ((go_at_call 127; refine (iscls_any _ _).mono ?_; rintro e w' ⟨rfl, rfl⟩))
    all_goals (go_ret; exact ⟨rfl, rfl⟩)
  all_goals
    subst h
    go_enter Tryz.func91, Tryz.ntmps91
    go_wp2_with ((go_at_call 127; refine (iscls_any _ _).mono ?_; rintro e w' ⟨rfl, rfl⟩))
    go_ret
    exact ⟨retS_int (by decide), rfl⟩
theorem rwords_any (c : Int) (w : World) :
    Calls Tryz.prog 40 #[.int .i64 c] w fun e w' => e = .returned (.int .i64 (wordsI c)) ∧ w = w' := by
  rcases cls_ways c with h | h | h | h | h | h | h | h | h
  · have hc := clsB_out c h
    rw [wordsI_out c h]
    go_enter Tryz.func40, Tryz.ntmps40
    go_wp2
    all_goals (go_ret; exact ⟨rfl, rfl⟩)
  all_goals
    subst h
    go_enter Tryz.func40, Tryz.ntmps40
    go_wp2
    go_ret
    exact ⟨retS_int (by decide), rfl⟩
theorem small_any (c : Int) (w : World) :
    Calls Tryz.prog 68 #[.int .i64 c] w fun e w' => e = .returned (.bool (smallB c)) ∧ w = w' := by
  by_cases h : c < 0
  · go_enter Tryz.func68, Tryz.ntmps68
    go_wp2
    go_ret
    exact ⟨retS_bool (smallB_out c (by omega)).symm, rfl⟩
  · go_enter Tryz.func68, Tryz.ntmps68
    go_wp2
    go_ret
    refine ⟨retS_bool ?_, rfl⟩
    unfold smallB
    exact decide_eq_decide.mpr (by omega)
theorem rsmall_any (c : Int) (w : World) :
    Calls Tryz.prog 39 #[.int .i64 c] w fun e w' => e = .returned (.bool (smallB c)) ∧ w = w' := by
  by_cases h : c < 0
  · go_enter Tryz.func39, Tryz.ntmps39
    go_wp2
    go_ret
    exact ⟨retS_bool (smallB_out c (by omega)).symm, rfl⟩
  · go_enter Tryz.func39, Tryz.ntmps39
    go_wp2
    go_ret
    refine ⟨retS_bool ?_, rfl⟩
    unfold smallB
    exact decide_eq_decide.mpr (by omega)
theorem szpages_any (c : Int) (w : World) :
    Calls Tryz.prog 154 #[.int .i64 c] w fun e w' => e = .returned (.int .i64 (pagesI c)) ∧ w = w' := by
  rcases cls_ways c with h | h | h | h | h | h | h | h | h
  · rw [pagesI_out c h]
    have e0 := smallB_out c (by omega)
    have e1 := wordsI_out c h
    go_enter Tryz.func154, Tryz.ntmps154
    go_wp2_with (first | (go_at_call 68; refine (small_any _ _).mono ?_; rintro e w' ⟨rfl, rfl⟩) | (go_at_call 91; refine (words_any _ _).mono ?_; rintro e w' ⟨rfl, rfl⟩))
    all_goals (go_ret; exact ⟨rfl, rfl⟩)
  · subst h
    have e0 : smallB 0 = true := by decide
    have e1 : wordsI 0 = 32 := by decide
    go_enter Tryz.func154, Tryz.ntmps154
    go_wp2_with (first | (go_at_call 68; refine (small_any _ _).mono ?_; rintro e w' ⟨rfl, rfl⟩) | (go_at_call 91; refine (words_any _ _).mono ?_; rintro e w' ⟨rfl, rfl⟩))
    go_ret
    exact ⟨retS_int (by decide), rfl⟩
  · subst h
    have e0 : smallB 1 = true := by decide
    have e1 : wordsI 1 = 64 := by decide
    go_enter Tryz.func154, Tryz.ntmps154
    go_wp2_with (first | (go_at_call 68; refine (small_any _ _).mono ?_; rintro e w' ⟨rfl, rfl⟩) | (go_at_call 91; refine (words_any _ _).mono ?_; rintro e w' ⟨rfl, rfl⟩))
    go_ret
    exact ⟨retS_int (by decide), rfl⟩
  · subst h
    have e0 : smallB 2 = true := by decide
    have e1 : wordsI 2 = 128 := by decide
    go_enter Tryz.func154, Tryz.ntmps154
    go_wp2_with (first | (go_at_call 68; refine (small_any _ _).mono ?_; rintro e w' ⟨rfl, rfl⟩) | (go_at_call 91; refine (words_any _ _).mono ?_; rintro e w' ⟨rfl, rfl⟩))
    go_ret
    exact ⟨retS_int (by decide), rfl⟩
  · subst h
    have e0 : smallB 3 = true := by decide
    have e1 : wordsI 3 = 256 := by decide
    go_enter Tryz.func154, Tryz.ntmps154
    go_wp2_with (first | (go_at_call 68; refine (small_any _ _).mono ?_; rintro e w' ⟨rfl, rfl⟩) | (go_at_call 91; refine (words_any _ _).mono ?_; rintro e w' ⟨rfl, rfl⟩))
    go_ret
    exact ⟨retS_int (by decide), rfl⟩
  · subst h
    have e0 : smallB 4 = false := by decide
    have e1 : wordsI 4 = 512 := by decide
    go_enter Tryz.func154, Tryz.ntmps154
    go_wp2_with (first | (go_at_call 68; refine (small_any _ _).mono ?_; rintro e w' ⟨rfl, rfl⟩) | (go_at_call 91; refine (words_any _ _).mono ?_; rintro e w' ⟨rfl, rfl⟩))
    go_ret
    exact ⟨retS_int (by decide), rfl⟩
  · subst h
    have e0 : smallB 5 = false := by decide
    have e1 : wordsI 5 = 1024 := by decide
    go_enter Tryz.func154, Tryz.ntmps154
    go_wp2_with (first | (go_at_call 68; refine (small_any _ _).mono ?_; rintro e w' ⟨rfl, rfl⟩) | (go_at_call 91; refine (words_any _ _).mono ?_; rintro e w' ⟨rfl, rfl⟩))
    go_ret
    exact ⟨retS_int (by decide), rfl⟩
  · subst h
    have e0 : smallB 6 = false := by decide
    have e1 : wordsI 6 = 2048 := by decide
    go_enter Tryz.func154, Tryz.ntmps154
    go_wp2_with (first | (go_at_call 68; refine (small_any _ _).mono ?_; rintro e w' ⟨rfl, rfl⟩) | (go_at_call 91; refine (words_any _ _).mono ?_; rintro e w' ⟨rfl, rfl⟩))
    go_ret
    exact ⟨retS_int (by decide), rfl⟩
  · subst h
    have e0 : smallB 7 = false := by decide
    have e1 : wordsI 7 = 4096 := by decide
    go_enter Tryz.func154, Tryz.ntmps154
    go_wp2_with (first | (go_at_call 68; refine (small_any _ _).mono ?_; rintro e w' ⟨rfl, rfl⟩) | (go_at_call 91; refine (words_any _ _).mono ?_; rintro e w' ⟨rfl, rfl⟩))
    go_ret
    exact ⟨retS_int (by decide), rfl⟩
theorem rpages_any (c : Int) (w : World) :
    Calls Tryz.prog 38 #[.int .i64 c] w fun e w' => e = .returned (.int .i64 (pagesI c)) ∧ w = w' := by
  rcases cls_ways c with h | h | h | h | h | h | h | h | h
  · rw [pagesI_out c h]
    have e0 := smallB_out c (by omega)
    have e1 := wordsI_out c h
    go_enter Tryz.func38, Tryz.ntmps38
    go_wp2_with (first | (go_at_call 39; refine (rsmall_any _ _).mono ?_; rintro e w' ⟨rfl, rfl⟩) | (go_at_call 40; refine (rwords_any _ _).mono ?_; rintro e w' ⟨rfl, rfl⟩))
    all_goals (go_ret; exact ⟨rfl, rfl⟩)
  · subst h
    have e0 : smallB 0 = true := by decide
    have e1 : wordsI 0 = 32 := by decide
    go_enter Tryz.func38, Tryz.ntmps38
    go_wp2_with (first | (go_at_call 39; refine (rsmall_any _ _).mono ?_; rintro e w' ⟨rfl, rfl⟩) | (go_at_call 40; refine (rwords_any _ _).mono ?_; rintro e w' ⟨rfl, rfl⟩))
    go_ret
    exact ⟨retS_int (by decide), rfl⟩
  · subst h
    have e0 : smallB 1 = true := by decide
    have e1 : wordsI 1 = 64 := by decide
    go_enter Tryz.func38, Tryz.ntmps38
    go_wp2_with (first | (go_at_call 39; refine (rsmall_any _ _).mono ?_; rintro e w' ⟨rfl, rfl⟩) | (go_at_call 40; refine (rwords_any _ _).mono ?_; rintro e w' ⟨rfl, rfl⟩))
    go_ret
    exact ⟨retS_int (by decide), rfl⟩
  · subst h
    have e0 : smallB 2 = true := by decide
    have e1 : wordsI 2 = 128 := by decide
    go_enter Tryz.func38, Tryz.ntmps38
    go_wp2_with (first | (go_at_call 39; refine (rsmall_any _ _).mono ?_; rintro e w' ⟨rfl, rfl⟩) | (go_at_call 40; refine (rwords_any _ _).mono ?_; rintro e w' ⟨rfl, rfl⟩))
    go_ret
    exact ⟨retS_int (by decide), rfl⟩
  · subst h
    have e0 : smallB 3 = true := by decide
    have e1 : wordsI 3 = 256 := by decide
    go_enter Tryz.func38, Tryz.ntmps38
    go_wp2_with (first | (go_at_call 39; refine (rsmall_any _ _).mono ?_; rintro e w' ⟨rfl, rfl⟩) | (go_at_call 40; refine (rwords_any _ _).mono ?_; rintro e w' ⟨rfl, rfl⟩))
    go_ret
    exact ⟨retS_int (by decide), rfl⟩
  · subst h
    have e0 : smallB 4 = false := by decide
    have e1 : wordsI 4 = 512 := by decide
    go_enter Tryz.func38, Tryz.ntmps38
    go_wp2_with (first | (go_at_call 39; refine (rsmall_any _ _).mono ?_; rintro e w' ⟨rfl, rfl⟩) | (go_at_call 40; refine (rwords_any _ _).mono ?_; rintro e w' ⟨rfl, rfl⟩))
    go_ret
    exact ⟨retS_int (by decide), rfl⟩
  · subst h
    have e0 : smallB 5 = false := by decide
    have e1 : wordsI 5 = 1024 := by decide
    go_enter Tryz.func38, Tryz.ntmps38
    go_wp2_with (first | (go_at_call 39; refine (rsmall_any _ _).mono ?_; rintro e w' ⟨rfl, rfl⟩) | (go_at_call 40; refine (rwords_any _ _).mono ?_; rintro e w' ⟨rfl, rfl⟩))
    go_ret
    exact ⟨retS_int (by decide), rfl⟩
  · subst h
    have e0 : smallB 6 = false := by decide
    have e1 : wordsI 6 = 2048 := by decide
    go_enter Tryz.func38, Tryz.ntmps38
    go_wp2_with (first | (go_at_call 39; refine (rsmall_any _ _).mono ?_; rintro e w' ⟨rfl, rfl⟩) | (go_at_call 40; refine (rwords_any _ _).mono ?_; rintro e w' ⟨rfl, rfl⟩))
    go_ret
    exact ⟨retS_int (by decide), rfl⟩
  · subst h
    have e0 : smallB 7 = false := by decide
    have e1 : wordsI 7 = 4096 := by decide
    go_enter Tryz.func38, Tryz.ntmps38
    go_wp2_with (first | (go_at_call 39; refine (rsmall_any _ _).mono ?_; rintro e w' ⟨rfl, rfl⟩) | (go_at_call 40; refine (rwords_any _ _).mono ?_; rintro e w' ⟨rfl, rfl⟩))
    go_ret
    exact ⟨retS_int (by decide), rfl⟩
theorem per_any (c : Int) (w : World) :
    Calls Tryz.prog 163 #[.int .i64 c] w fun e w' => e = .returned (.int .i64 (perI c)) ∧ w = w' := by
  rcases cls_ways c with h | h | h | h | h | h | h | h | h
  · rw [perI_out c h]
    have e0 := clsB_out c h
    have e1 := wordsI_out c h
    go_enter Tryz.func163, Tryz.ntmps163
    go_wp2_with (first | (go_at_call 154; refine (szpages_any _ _).mono ?_; rintro e w' ⟨rfl, rfl⟩) | (go_at_call 91; refine (words_any _ _).mono ?_; rintro e w' ⟨rfl, rfl⟩) | (go_at_call 127; refine (iscls_any _ _).mono ?_; rintro e w' ⟨rfl, rfl⟩))
    all_goals (go_ret; exact ⟨rfl, rfl⟩)
  · subst h
    have e0 : pagesI 0 = 8 := by decide
    have e1 : wordsI 0 = 32 := by decide
    have e2 : clsB 0 = true := by decide
    go_enter Tryz.func163, Tryz.ntmps163
    go_wp2_with (first | (go_at_call 154; refine (szpages_any _ _).mono ?_; rintro e w' ⟨rfl, rfl⟩) | (go_at_call 91; refine (words_any _ _).mono ?_; rintro e w' ⟨rfl, rfl⟩) | (go_at_call 127; refine (iscls_any _ _).mono ?_; rintro e w' ⟨rfl, rfl⟩))
    go_ret
    exact ⟨retS_int (by decide), rfl⟩
  · subst h
    have e0 : pagesI 1 = 8 := by decide
    have e1 : wordsI 1 = 64 := by decide
    have e2 : clsB 1 = true := by decide
    go_enter Tryz.func163, Tryz.ntmps163
    go_wp2_with (first | (go_at_call 154; refine (szpages_any _ _).mono ?_; rintro e w' ⟨rfl, rfl⟩) | (go_at_call 91; refine (words_any _ _).mono ?_; rintro e w' ⟨rfl, rfl⟩) | (go_at_call 127; refine (iscls_any _ _).mono ?_; rintro e w' ⟨rfl, rfl⟩))
    go_ret
    exact ⟨retS_int (by decide), rfl⟩
  · subst h
    have e0 : pagesI 2 = 8 := by decide
    have e1 : wordsI 2 = 128 := by decide
    have e2 : clsB 2 = true := by decide
    go_enter Tryz.func163, Tryz.ntmps163
    go_wp2_with (first | (go_at_call 154; refine (szpages_any _ _).mono ?_; rintro e w' ⟨rfl, rfl⟩) | (go_at_call 91; refine (words_any _ _).mono ?_; rintro e w' ⟨rfl, rfl⟩) | (go_at_call 127; refine (iscls_any _ _).mono ?_; rintro e w' ⟨rfl, rfl⟩))
    go_ret
    exact ⟨retS_int (by decide), rfl⟩
  · subst h
    have e0 : pagesI 3 = 8 := by decide
    have e1 : wordsI 3 = 256 := by decide
    have e2 : clsB 3 = true := by decide
    go_enter Tryz.func163, Tryz.ntmps163
    go_wp2_with (first | (go_at_call 154; refine (szpages_any _ _).mono ?_; rintro e w' ⟨rfl, rfl⟩) | (go_at_call 91; refine (words_any _ _).mono ?_; rintro e w' ⟨rfl, rfl⟩) | (go_at_call 127; refine (iscls_any _ _).mono ?_; rintro e w' ⟨rfl, rfl⟩))
    go_ret
    exact ⟨retS_int (by decide), rfl⟩
  · subst h
    have e0 : pagesI 4 = 8 := by decide
    have e1 : wordsI 4 = 512 := by decide
    have e2 : clsB 4 = true := by decide
    go_enter Tryz.func163, Tryz.ntmps163
    go_wp2_with (first | (go_at_call 154; refine (szpages_any _ _).mono ?_; rintro e w' ⟨rfl, rfl⟩) | (go_at_call 91; refine (words_any _ _).mono ?_; rintro e w' ⟨rfl, rfl⟩) | (go_at_call 127; refine (iscls_any _ _).mono ?_; rintro e w' ⟨rfl, rfl⟩))
    go_ret
    exact ⟨retS_int (by decide), rfl⟩
  · subst h
    have e0 : pagesI 5 = 16 := by decide
    have e1 : wordsI 5 = 1024 := by decide
    have e2 : clsB 5 = true := by decide
    go_enter Tryz.func163, Tryz.ntmps163
    go_wp2_with (first | (go_at_call 154; refine (szpages_any _ _).mono ?_; rintro e w' ⟨rfl, rfl⟩) | (go_at_call 91; refine (words_any _ _).mono ?_; rintro e w' ⟨rfl, rfl⟩) | (go_at_call 127; refine (iscls_any _ _).mono ?_; rintro e w' ⟨rfl, rfl⟩))
    go_ret
    exact ⟨retS_int (by decide), rfl⟩
  · subst h
    have e0 : pagesI 6 = 32 := by decide
    have e1 : wordsI 6 = 2048 := by decide
    have e2 : clsB 6 = true := by decide
    go_enter Tryz.func163, Tryz.ntmps163
    go_wp2_with (first | (go_at_call 154; refine (szpages_any _ _).mono ?_; rintro e w' ⟨rfl, rfl⟩) | (go_at_call 91; refine (words_any _ _).mono ?_; rintro e w' ⟨rfl, rfl⟩) | (go_at_call 127; refine (iscls_any _ _).mono ?_; rintro e w' ⟨rfl, rfl⟩))
    go_ret
    exact ⟨retS_int (by decide), rfl⟩
  · subst h
    have e0 : pagesI 7 = 64 := by decide
    have e1 : wordsI 7 = 4096 := by decide
    have e2 : clsB 7 = true := by decide
    go_enter Tryz.func163, Tryz.ntmps163
    go_wp2_with (first | (go_at_call 154; refine (szpages_any _ _).mono ?_; rintro e w' ⟨rfl, rfl⟩) | (go_at_call 91; refine (words_any _ _).mono ?_; rintro e w' ⟨rfl, rfl⟩) | (go_at_call 127; refine (iscls_any _ _).mono ?_; rintro e w' ⟨rfl, rfl⟩))
    go_ret
    exact ⟨retS_int (by decide), rfl⟩
theorem rper_any (c : Int) (w : World) :
    Calls Tryz.prog 126 #[.int .i64 c] w fun e w' => e = .returned (.int .i64 (perI c)) ∧ w = w' := by
  rcases cls_ways c with h | h | h | h | h | h | h | h | h
  · rw [perI_out c h]
    have e0 := clsB_out c h
    have e1 := wordsI_out c h
    go_enter Tryz.func126, Tryz.ntmps126
    go_wp2_with (first | (go_at_call 38; refine (rpages_any _ _).mono ?_; rintro e w' ⟨rfl, rfl⟩) | (go_at_call 40; refine (rwords_any _ _).mono ?_; rintro e w' ⟨rfl, rfl⟩))
    all_goals (go_ret; exact ⟨rfl, rfl⟩)
  · subst h
    have e0 : pagesI 0 = 8 := by decide
    have e1 : wordsI 0 = 32 := by decide
    have e2 : clsB 0 = true := by decide
    go_enter Tryz.func126, Tryz.ntmps126
    go_wp2_with (first | (go_at_call 38; refine (rpages_any _ _).mono ?_; rintro e w' ⟨rfl, rfl⟩) | (go_at_call 40; refine (rwords_any _ _).mono ?_; rintro e w' ⟨rfl, rfl⟩))
    go_ret
    exact ⟨retS_int (by decide), rfl⟩
  · subst h
    have e0 : pagesI 1 = 8 := by decide
    have e1 : wordsI 1 = 64 := by decide
    have e2 : clsB 1 = true := by decide
    go_enter Tryz.func126, Tryz.ntmps126
    go_wp2_with (first | (go_at_call 38; refine (rpages_any _ _).mono ?_; rintro e w' ⟨rfl, rfl⟩) | (go_at_call 40; refine (rwords_any _ _).mono ?_; rintro e w' ⟨rfl, rfl⟩))
    go_ret
    exact ⟨retS_int (by decide), rfl⟩
  · subst h
    have e0 : pagesI 2 = 8 := by decide
    have e1 : wordsI 2 = 128 := by decide
    have e2 : clsB 2 = true := by decide
    go_enter Tryz.func126, Tryz.ntmps126
    go_wp2_with (first | (go_at_call 38; refine (rpages_any _ _).mono ?_; rintro e w' ⟨rfl, rfl⟩) | (go_at_call 40; refine (rwords_any _ _).mono ?_; rintro e w' ⟨rfl, rfl⟩))
    go_ret
    exact ⟨retS_int (by decide), rfl⟩
  · subst h
    have e0 : pagesI 3 = 8 := by decide
    have e1 : wordsI 3 = 256 := by decide
    have e2 : clsB 3 = true := by decide
    go_enter Tryz.func126, Tryz.ntmps126
    go_wp2_with (first | (go_at_call 38; refine (rpages_any _ _).mono ?_; rintro e w' ⟨rfl, rfl⟩) | (go_at_call 40; refine (rwords_any _ _).mono ?_; rintro e w' ⟨rfl, rfl⟩))
    go_ret
    exact ⟨retS_int (by decide), rfl⟩
  · subst h
    have e0 : pagesI 4 = 8 := by decide
    have e1 : wordsI 4 = 512 := by decide
    have e2 : clsB 4 = true := by decide
    go_enter Tryz.func126, Tryz.ntmps126
    go_wp2_with (first | (go_at_call 38; refine (rpages_any _ _).mono ?_; rintro e w' ⟨rfl, rfl⟩) | (go_at_call 40; refine (rwords_any _ _).mono ?_; rintro e w' ⟨rfl, rfl⟩))
    go_ret
    exact ⟨retS_int (by decide), rfl⟩
  · subst h
    have e0 : pagesI 5 = 16 := by decide
    have e1 : wordsI 5 = 1024 := by decide
    have e2 : clsB 5 = true := by decide
    go_enter Tryz.func126, Tryz.ntmps126
    go_wp2_with (first | (go_at_call 38; refine (rpages_any _ _).mono ?_; rintro e w' ⟨rfl, rfl⟩) | (go_at_call 40; refine (rwords_any _ _).mono ?_; rintro e w' ⟨rfl, rfl⟩))
    go_ret
    exact ⟨retS_int (by decide), rfl⟩
  · subst h
    have e0 : pagesI 6 = 32 := by decide
    have e1 : wordsI 6 = 2048 := by decide
    have e2 : clsB 6 = true := by decide
    go_enter Tryz.func126, Tryz.ntmps126
    go_wp2_with (first | (go_at_call 38; refine (rpages_any _ _).mono ?_; rintro e w' ⟨rfl, rfl⟩) | (go_at_call 40; refine (rwords_any _ _).mono ?_; rintro e w' ⟨rfl, rfl⟩))
    go_ret
    exact ⟨retS_int (by decide), rfl⟩
  · subst h
    have e0 : pagesI 7 = 64 := by decide
    have e1 : wordsI 7 = 4096 := by decide
    have e2 : clsB 7 = true := by decide
    go_enter Tryz.func126, Tryz.ntmps126
    go_wp2_with (first | (go_at_call 38; refine (rpages_any _ _).mono ?_; rintro e w' ⟨rfl, rfl⟩) | (go_at_call 40; refine (rwords_any _ _).mono ?_; rintro e w' ⟨rfl, rfl⟩))
    go_ret
    exact ⟨retS_int (by decide), rfl⟩
theorem batch_any (c : Int) (w : World) :
    Calls Tryz.prog 110 #[.int .i64 c] w fun e w' => e = .returned (.int .i64 (batchI c)) ∧ w = w' := by
  rcases cls_ways c with h | h | h | h | h | h | h | h | h
  · rw [batchI_out c (by omega)]
    have e0 := smallB_out c (by omega)
    go_enter Tryz.func110, Tryz.ntmps110
    go_wp2_with ((go_at_call 68; refine (small_any _ _).mono ?_; rintro e w' ⟨rfl, rfl⟩))
    all_goals (go_ret; exact ⟨rfl, rfl⟩)
  · subst h
    have e0 : smallB 0 = true := by decide
    go_enter Tryz.func110, Tryz.ntmps110
    go_wp2_with ((go_at_call 68; refine (small_any _ _).mono ?_; rintro e w' ⟨rfl, rfl⟩))
    go_ret
    exact ⟨retS_int (by decide), rfl⟩
  · subst h
    have e0 : smallB 1 = true := by decide
    go_enter Tryz.func110, Tryz.ntmps110
    go_wp2_with ((go_at_call 68; refine (small_any _ _).mono ?_; rintro e w' ⟨rfl, rfl⟩))
    go_ret
    exact ⟨retS_int (by decide), rfl⟩
  · subst h
    have e0 : smallB 2 = true := by decide
    go_enter Tryz.func110, Tryz.ntmps110
    go_wp2_with ((go_at_call 68; refine (small_any _ _).mono ?_; rintro e w' ⟨rfl, rfl⟩))
    go_ret
    exact ⟨retS_int (by decide), rfl⟩
  · subst h
    have e0 : smallB 3 = true := by decide
    go_enter Tryz.func110, Tryz.ntmps110
    go_wp2_with ((go_at_call 68; refine (small_any _ _).mono ?_; rintro e w' ⟨rfl, rfl⟩))
    go_ret
    exact ⟨retS_int (by decide), rfl⟩
  · subst h
    have e0 : smallB 4 = false := by decide
    go_enter Tryz.func110, Tryz.ntmps110
    go_wp2_with ((go_at_call 68; refine (small_any _ _).mono ?_; rintro e w' ⟨rfl, rfl⟩))
    go_ret
    exact ⟨retS_int (by decide), rfl⟩
  · subst h
    have e0 : smallB 5 = false := by decide
    go_enter Tryz.func110, Tryz.ntmps110
    go_wp2_with ((go_at_call 68; refine (small_any _ _).mono ?_; rintro e w' ⟨rfl, rfl⟩))
    go_ret
    exact ⟨retS_int (by decide), rfl⟩
  · subst h
    have e0 : smallB 6 = false := by decide
    go_enter Tryz.func110, Tryz.ntmps110
    go_wp2_with ((go_at_call 68; refine (small_any _ _).mono ?_; rintro e w' ⟨rfl, rfl⟩))
    go_ret
    exact ⟨retS_int (by decide), rfl⟩
  · subst h
    have e0 : smallB 7 = false := by decide
    go_enter Tryz.func110, Tryz.ntmps110
    go_wp2_with ((go_at_call 68; refine (small_any _ _).mono ?_; rintro e w' ⟨rfl, rfl⟩))
    go_ret
    exact ⟨retS_int (by decide), rfl⟩
theorem cap_any (c : Int) (w : World) :
    Calls Tryz.prog 109 #[.int .i64 c] w fun e w' => e = .returned (.int .i64 (capI c)) ∧ w = w' := by
  rcases cls_ways c with h | h | h | h | h | h | h | h | h
  · rw [capI_out c (by omega)]
    have e0 := batchI_out c (by omega)
    go_enter Tryz.func109, Tryz.ntmps109
    go_wp2_with ((go_at_call 110; refine (batch_any _ _).mono ?_; rintro e w' ⟨rfl, rfl⟩))
    all_goals (go_ret; exact ⟨rfl, rfl⟩)
  · subst h
    have e0 : batchI 0 = 4 := by decide
    go_enter Tryz.func109, Tryz.ntmps109
    go_wp2_with ((go_at_call 110; refine (batch_any _ _).mono ?_; rintro e w' ⟨rfl, rfl⟩))
    go_ret
    exact ⟨retS_int (by decide), rfl⟩
  · subst h
    have e0 : batchI 1 = 3 := by decide
    go_enter Tryz.func109, Tryz.ntmps109
    go_wp2_with ((go_at_call 110; refine (batch_any _ _).mono ?_; rintro e w' ⟨rfl, rfl⟩))
    go_ret
    exact ⟨retS_int (by decide), rfl⟩
  · subst h
    have e0 : batchI 2 = 2 := by decide
    go_enter Tryz.func109, Tryz.ntmps109
    go_wp2_with ((go_at_call 110; refine (batch_any _ _).mono ?_; rintro e w' ⟨rfl, rfl⟩))
    go_ret
    exact ⟨retS_int (by decide), rfl⟩
  · subst h
    have e0 : batchI 3 = 1 := by decide
    go_enter Tryz.func109, Tryz.ntmps109
    go_wp2_with ((go_at_call 110; refine (batch_any _ _).mono ?_; rintro e w' ⟨rfl, rfl⟩))
    go_ret
    exact ⟨retS_int (by decide), rfl⟩
  · subst h
    have e0 : batchI 4 = 0 := by decide
    go_enter Tryz.func109, Tryz.ntmps109
    go_wp2_with ((go_at_call 110; refine (batch_any _ _).mono ?_; rintro e w' ⟨rfl, rfl⟩))
    go_ret
    exact ⟨retS_int (by decide), rfl⟩
  · subst h
    have e0 : batchI 5 = 0 := by decide
    go_enter Tryz.func109, Tryz.ntmps109
    go_wp2_with ((go_at_call 110; refine (batch_any _ _).mono ?_; rintro e w' ⟨rfl, rfl⟩))
    go_ret
    exact ⟨retS_int (by decide), rfl⟩
  · subst h
    have e0 : batchI 6 = 0 := by decide
    go_enter Tryz.func109, Tryz.ntmps109
    go_wp2_with ((go_at_call 110; refine (batch_any _ _).mono ?_; rintro e w' ⟨rfl, rfl⟩))
    go_ret
    exact ⟨retS_int (by decide), rfl⟩
  · subst h
    have e0 : batchI 7 = 0 := by decide
    go_enter Tryz.func109, Tryz.ntmps109
    go_wp2_with ((go_at_call 110; refine (batch_any _ _).mono ?_; rintro e w' ⟨rfl, rfl⟩))
    go_ret
    exact ⟨retS_int (by decide), rfl⟩
theorem rbatch_any (c : Int) (w : World) :
    Calls Tryz.prog 64 #[.int .i64 c] w fun e w' => e = .returned (.int .i64 (batchI c)) ∧ w = w' := by
  rcases cls_ways c with h | h | h | h | h | h | h | h | h
  · rw [batchI_out c (by omega)]
    have e0 := smallB_out c (by omega)
    go_enter Tryz.func64, Tryz.ntmps64
    go_wp2_with ((go_at_call 39; refine (rsmall_any _ _).mono ?_; rintro e w' ⟨rfl, rfl⟩))
    all_goals (go_ret; exact ⟨rfl, rfl⟩)
  · subst h
    have e0 : smallB 0 = true := by decide
    go_enter Tryz.func64, Tryz.ntmps64
    go_wp2_with ((go_at_call 39; refine (rsmall_any _ _).mono ?_; rintro e w' ⟨rfl, rfl⟩))
    go_ret
    exact ⟨retS_int (by decide), rfl⟩
  · subst h
    have e0 : smallB 1 = true := by decide
    go_enter Tryz.func64, Tryz.ntmps64
    go_wp2_with ((go_at_call 39; refine (rsmall_any _ _).mono ?_; rintro e w' ⟨rfl, rfl⟩))
    go_ret
    exact ⟨retS_int (by decide), rfl⟩
  · subst h
    have e0 : smallB 2 = true := by decide
    go_enter Tryz.func64, Tryz.ntmps64
    go_wp2_with ((go_at_call 39; refine (rsmall_any _ _).mono ?_; rintro e w' ⟨rfl, rfl⟩))
    go_ret
    exact ⟨retS_int (by decide), rfl⟩
  · subst h
    have e0 : smallB 3 = true := by decide
    go_enter Tryz.func64, Tryz.ntmps64
    go_wp2_with ((go_at_call 39; refine (rsmall_any _ _).mono ?_; rintro e w' ⟨rfl, rfl⟩))
    go_ret
    exact ⟨retS_int (by decide), rfl⟩
  · subst h
    have e0 : smallB 4 = false := by decide
    go_enter Tryz.func64, Tryz.ntmps64
    go_wp2_with ((go_at_call 39; refine (rsmall_any _ _).mono ?_; rintro e w' ⟨rfl, rfl⟩))
    go_ret
    exact ⟨retS_int (by decide), rfl⟩
  · subst h
    have e0 : smallB 5 = false := by decide
    go_enter Tryz.func64, Tryz.ntmps64
    go_wp2_with ((go_at_call 39; refine (rsmall_any _ _).mono ?_; rintro e w' ⟨rfl, rfl⟩))
    go_ret
    exact ⟨retS_int (by decide), rfl⟩
  · subst h
    have e0 : smallB 6 = false := by decide
    go_enter Tryz.func64, Tryz.ntmps64
    go_wp2_with ((go_at_call 39; refine (rsmall_any _ _).mono ?_; rintro e w' ⟨rfl, rfl⟩))
    go_ret
    exact ⟨retS_int (by decide), rfl⟩
  · subst h
    have e0 : smallB 7 = false := by decide
    go_enter Tryz.func64, Tryz.ntmps64
    go_wp2_with ((go_at_call 39; refine (rsmall_any _ _).mono ?_; rintro e w' ⟨rfl, rfl⟩))
    go_ret
    exact ⟨retS_int (by decide), rfl⟩
theorem rcap_any (c : Int) (w : World) :
    Calls Tryz.prog 31 #[.int .i64 c] w fun e w' => e = .returned (.int .i64 (capI c)) ∧ w = w' := by
  rcases cls_ways c with h | h | h | h | h | h | h | h | h
  · rw [capI_out c (by omega)]
    have e0 := batchI_out c (by omega)
    go_enter Tryz.func31, Tryz.ntmps31
    go_wp2_with ((go_at_call 64; refine (rbatch_any _ _).mono ?_; rintro e w' ⟨rfl, rfl⟩))
    all_goals (go_ret; exact ⟨rfl, rfl⟩)
  · subst h
    have e0 : batchI 0 = 4 := by decide
    go_enter Tryz.func31, Tryz.ntmps31
    go_wp2_with ((go_at_call 64; refine (rbatch_any _ _).mono ?_; rintro e w' ⟨rfl, rfl⟩))
    go_ret
    exact ⟨retS_int (by decide), rfl⟩
  · subst h
    have e0 : batchI 1 = 3 := by decide
    go_enter Tryz.func31, Tryz.ntmps31
    go_wp2_with ((go_at_call 64; refine (rbatch_any _ _).mono ?_; rintro e w' ⟨rfl, rfl⟩))
    go_ret
    exact ⟨retS_int (by decide), rfl⟩
  · subst h
    have e0 : batchI 2 = 2 := by decide
    go_enter Tryz.func31, Tryz.ntmps31
    go_wp2_with ((go_at_call 64; refine (rbatch_any _ _).mono ?_; rintro e w' ⟨rfl, rfl⟩))
    go_ret
    exact ⟨retS_int (by decide), rfl⟩
  · subst h
    have e0 : batchI 3 = 1 := by decide
    go_enter Tryz.func31, Tryz.ntmps31
    go_wp2_with ((go_at_call 64; refine (rbatch_any _ _).mono ?_; rintro e w' ⟨rfl, rfl⟩))
    go_ret
    exact ⟨retS_int (by decide), rfl⟩
  · subst h
    have e0 : batchI 4 = 0 := by decide
    go_enter Tryz.func31, Tryz.ntmps31
    go_wp2_with ((go_at_call 64; refine (rbatch_any _ _).mono ?_; rintro e w' ⟨rfl, rfl⟩))
    go_ret
    exact ⟨retS_int (by decide), rfl⟩
  · subst h
    have e0 : batchI 5 = 0 := by decide
    go_enter Tryz.func31, Tryz.ntmps31
    go_wp2_with ((go_at_call 64; refine (rbatch_any _ _).mono ?_; rintro e w' ⟨rfl, rfl⟩))
    go_ret
    exact ⟨retS_int (by decide), rfl⟩
  · subst h
    have e0 : batchI 6 = 0 := by decide
    go_enter Tryz.func31, Tryz.ntmps31
    go_wp2_with ((go_at_call 64; refine (rbatch_any _ _).mono ?_; rintro e w' ⟨rfl, rfl⟩))
    go_ret
    exact ⟨retS_int (by decide), rfl⟩
  · subst h
    have e0 : batchI 7 = 0 := by decide
    go_enter Tryz.func31, Tryz.ntmps31
    go_wp2_with ((go_at_call 64; refine (rbatch_any _ _).mono ?_; rintro e w' ⟨rfl, rfl⟩))
    go_ret
    exact ⟨retS_int (by decide), rfl⟩
set_option maxHeartbeats 1000000 in
theorem class_any (n : Int) (w : World) :
    Calls Tryz.prog 54 #[.int .i64 n] w fun e w' => e = .returned (.tuple #[.int .i64 (classI n), .bool (classB n)]) ∧ w = w' := by
  by_cases a : n < 1
  · rw [classI_out n (Or.inl a), classB_out n (Or.inl a)]
    go_enter Tryz.func54, Tryz.ntmps54
    go_wp2
    go_ret2
    exact ⟨rfl, rfl⟩
  · by_cases b : 4096 < n
    · rw [classI_out n (Or.inr b), classB_out n (Or.inr b)]
      go_enter Tryz.func54, Tryz.ntmps54
      go_wp2
      go_ret2
      exact ⟨rfl, rfl⟩
    · rw [classB_in n (by omega) (by omega)]
      go_enter Tryz.func54, Tryz.ntmps54
      go_wp2
      go_loop [4] (fun i => ∃ k : Nat, k ≤ 7 ∧ i = .int .i64 k ∧ ((k : Int) = 0 ∨ wordsI ((k : Int) - 1) < n)) (fun i => 8 - (intOf i).toNat)
      case atStart => exact ⟨0, Nat.zero_le _, rfl, Or.inl rfl⟩
      case round =>
        obtain ⟨k, hk, rfl, hL⟩ := hrel
        have HL := Lib.hid hL
        clear hL
        by_cases d : wordsI (k : Int) < n
        · have k7 : k ≠ 7 := by
            intro z
            subst z
            have : wordsI ((7 : Nat) : Int) = 4096 := by decide
            omega
          go_wp2_with (go_at_call 91; refine (words_any _ _).mono ?_; rintro e w' ⟨rfl, rfl⟩)
          go_round
          case rel =>
            refine ⟨k + 1, by omega, by go_num, Or.inr ?_⟩
            have e : ((k + 1 : Nat) : Int) - 1 = (k : Int) := by omega
            rw [e]
            exact d
          case measure => simp [intOf]; omega
        · have E := Lib.hid (class_found n k (by omega) (by omega) (by omega) (by omega) HL.out (by omega))
          go_wp2_with (go_at_call 91; refine (words_any _ _).mono ?_; rintro e w' ⟨rfl, rfl⟩)
          go_ret2
          rw [E.out]
          exact ⟨rfl, rfl⟩
set_option maxHeartbeats 1000000 in
theorem rclass_any (n : Int) (w : World) :
    Calls Tryz.prog 36 #[.int .i64 n] w fun e w' => e = .returned (.tuple #[.int .i64 (classI n), .bool (classB n)]) ∧ w = w' := by
  by_cases a : n < 1
  · rw [classI_out n (Or.inl a), classB_out n (Or.inl a)]
    go_enter Tryz.func36, Tryz.ntmps36
    go_wp2
    go_ret2
    exact ⟨rfl, rfl⟩
  · by_cases b : 4096 < n
    · rw [classI_out n (Or.inr b), classB_out n (Or.inr b)]
      go_enter Tryz.func36, Tryz.ntmps36
      go_wp2
      go_ret2
      exact ⟨rfl, rfl⟩
    · rw [classB_in n (by omega) (by omega)]
      go_enter Tryz.func36, Tryz.ntmps36
      go_wp2
      go_loop [4] (fun i => ∃ k : Nat, k ≤ 7 ∧ i = .int .i64 k ∧ ((k : Int) = 0 ∨ wordsI ((k : Int) - 1) < n)) (fun i => 8 - (intOf i).toNat)
      case atStart => exact ⟨0, Nat.zero_le _, rfl, Or.inl rfl⟩
      case round =>
        obtain ⟨k, hk, rfl, hL⟩ := hrel
        have HL := Lib.hid hL
        clear hL
        by_cases d : wordsI (k : Int) < n
        · have k7 : k ≠ 7 := by
            intro z
            subst z
            have : wordsI ((7 : Nat) : Int) = 4096 := by decide
            omega
          go_wp2_with (go_at_call 40; refine (rwords_any _ _).mono ?_; rintro e w' ⟨rfl, rfl⟩)
          go_round
          case rel =>
            refine ⟨k + 1, by omega, by go_num, Or.inr ?_⟩
            have e : ((k + 1 : Nat) : Int) - 1 = (k : Int) := by omega
            rw [e]
            exact d
          case measure => simp [intOf]; omega
        · have E := Lib.hid (class_found n k (by omega) (by omega) (by omega) (by omega) HL.out (by omega))
          go_wp2_with (go_at_call 40; refine (rwords_any _ _).mono ?_; rintro e w' ⟨rfl, rfl⟩)
          go_ret2
          rw [E.out]
          exact ⟨rfl, rfl⟩
end Go.Proofs.YtcndilpaijapkaaGreat
