/-
  The examples of chapter 8 come out as the chapter says. Own work.
-/
import Derived.Test.YtgcbdmakhkomjaaSizeCalls
namespace Go.Proofs.Ytgcbdmakhkomjaa
open Go.ChangeShapes Go.WideShapes Go.ChangeAt Go.RowKit

theorem awake_any (w : World) :
    Calls Try.prog 21 #[] w fun e w' => e = .returned (.bool true) ∧ w = w' := by
  have x1 : classI 33 = 1 := by decide
  have x2 : classB 33 = true := by decide
  have x3 : capI 0 = 8 := by decide
  have x4 : wordsI 7 = 4096 := by decide
  have x5 : batchI 2 = 2 := by decide
  go_enter Try.func21, Try.ntmps21
  go_wp2_with (first
    | (go_at_call 7; refine (class_any _ _).mono ?_; rintro e w' ⟨rfl, rfl⟩)
    | (go_at_call 19; refine (cap_any _ _).mono ?_; rintro e w' ⟨rfl, rfl⟩)
    | (go_at_call 9; refine (words_any _ _).mono ?_; rintro e w' ⟨rfl, rfl⟩)
    | (go_at_call 17; refine (batch_any _ _).mono ?_; rintro e w' ⟨rfl, rfl⟩))
  go_ret
  exact ⟨rfl, rfl⟩
end Go.Proofs.Ytgcbdmakhkomjaa
