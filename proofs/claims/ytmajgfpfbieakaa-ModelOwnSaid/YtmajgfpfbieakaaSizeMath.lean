/-
  The table of the classes of stacks as plain functions of a number, with no program in sight: words, smallness, pages, stacks of a span, batch, cap, the class of some words. Own work; nothing is assumed.
-/
import Derived.WalkKit
import Derived.ProofKit
import Derived.WalkSpells
import Derived.WalkLawsBesides
namespace Go.Proofs.Ytmajgfpfbieakaa
open Go.RowKit

def clsB (c : Int) : Bool := decide (0 ≤ c ∧ c < 8)
def smallB (c : Int) : Bool := decide (0 ≤ c ∧ c < 4)
def wordsI (c : Int) : Int := if c = 0 then 32 else if c = 1 then 64 else if c = 2 then 128 else if c = 3 then 256 else if c = 4 then 512 else if c = 5 then 1024 else if c = 6 then 2048 else if c = 7 then 4096 else 0
def pagesI (c : Int) : Int := if smallB c then 8 else wordsI c / 64
def perI (c : Int) : Int := if clsB c then pagesI c * 64 / wordsI c else 0
def batchI (c : Int) : Int := if smallB c then 4 - c else 0
def capI (c : Int) : Int := 2 * batchI c
def classB (n : Int) : Bool := decide (1 ≤ n ∧ n ≤ 4096)
def classI (n : Int) : Int := if classB n then (if n ≤ 32 then 0 else if n ≤ 64 then 1 else if n ≤ 128 then 2 else if n ≤ 256 then 3 else if n ≤ 512 then 4 else if n ≤ 1024 then 5 else if n ≤ 2048 then 6 else 7) else 0

/-- A number is no class, or one of the eight. -/
theorem cls_ways (c : Int) : (c < 0 ∨ 7 < c) ∨ c = 0 ∨ c = 1 ∨ c = 2 ∨ c = 3 ∨ c = 4 ∨ c = 5 ∨ c = 6 ∨ c = 7 := by omega
theorem clsB_out (c : Int) (h : c < 0 ∨ 7 < c) : clsB c = false := decide_eq_false (by omega)
theorem smallB_out (c : Int) (h : c < 0 ∨ 3 < c) : smallB c = false := decide_eq_false (by omega)
theorem smallB_in (c : Int) (h : 0 ≤ c) (h1 : c < 4) : smallB c = true := decide_eq_true ⟨h, h1⟩
theorem wordsI_out (c : Int) (h : c < 0 ∨ 7 < c) : wordsI c = 0 := by
  unfold wordsI
  rw [if_neg (by omega), if_neg (by omega), if_neg (by omega), if_neg (by omega), if_neg (by omega), if_neg (by omega), if_neg (by omega), if_neg (by omega)]
theorem pagesI_out (c : Int) (h : c < 0 ∨ 7 < c) : pagesI c = 0 := by
  unfold pagesI
  rw [smallB_out c (by omega), wordsI_out c h]
  rfl
theorem perI_out (c : Int) (h : c < 0 ∨ 7 < c) : perI c = 0 := by
  unfold perI
  rw [clsB_out c h]
  rfl
theorem batchI_out (c : Int) (h : c < 0 ∨ 3 < c) : batchI c = 0 := by
  unfold batchI
  rw [smallB_out c h]
  rfl
theorem capI_out (c : Int) (h : c < 0 ∨ 3 < c) : capI c = 0 := by
  unfold capI
  rw [batchI_out c h]
  rfl
theorem wordsI_lim (c : Int) : 0 ≤ wordsI c ∧ wordsI c ≤ 4096 := by
  unfold wordsI
  repeat' split
  all_goals omega
theorem classB_out (n : Int) (h : n < 1 ∨ 4096 < n) : classB n = false := decide_eq_false (by omega)
theorem classB_in (n : Int) (h : 1 ≤ n) (h1 : n ≤ 4096) : classB n = true := decide_eq_true ⟨h, h1⟩
theorem classI_out (n : Int) (h : n < 1 ∨ 4096 < n) : classI n = 0 := by
  unfold classI
  rw [classB_out n h]
  rfl
/-- Of words that there is a class of: the class has them, the one below has not. -/
theorem class_up (n : Int) (h : 1 ≤ n) (h1 : n ≤ 4096) : 0 ≤ classI n ∧ classI n ≤ 7 ∧ n ≤ wordsI (classI n) ∧ (classI n = 0 ∨ wordsI (classI n - 1) < n) := by
  unfold classI
  rw [if_pos (classB_in n h h1)]
  repeat' split
  all_goals (simp [wordsI]; try omega)
theorem wordsI_mono (a b : Int) (h : 0 ≤ a) (h1 : a ≤ b) (h2 : b ≤ 7) : wordsI a ≤ wordsI b := by
  rcases cls_ways a with x | x | x | x | x | x | x | x | x <;> rcases cls_ways b with y | y | y | y | y | y | y | y | y <;> first | omega | (subst x; subst y; decide)
/-- A class that has the words, while the one below has not, is the class of the words. -/
theorem class_found (n k : Int) (h : 1 ≤ n) (h1 : n ≤ 4096) (k0 : 0 ≤ k) (k1 : k ≤ 7) (lo : k = 0 ∨ wordsI (k - 1) < n) (hi : n ≤ wordsI k) : classI n = k := by
  obtain ⟨c0, c1, c2, c3⟩ := class_up n h h1
  generalize classI n = c at c0 c1 c2 c3
  by_cases e : c < k
  · have := wordsI_mono c (k - 1) c0 (by omega) (by omega)
    omega
  · by_cases e' : k < c
    · have := wordsI_mono k (c - 1) k0 (by omega) (by omega)
      omega
    · omega
end Go.Proofs.Ytmajgfpfbieakaa
