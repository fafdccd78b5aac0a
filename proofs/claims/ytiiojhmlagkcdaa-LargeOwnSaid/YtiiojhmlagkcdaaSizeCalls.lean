/-
  What each function of package size, and of the document's own table, answers, as a function of its number; the world stays as it was. Own work; each is proved by a walk through the landed text.
-/
import Derived.Test.YtiiojhmlagkcdaaRows
import Derived.Test.YtiiojhmlagkcdaaSizeMath
import Derived.OpenShut
import Derived.Outline
import Derived.Deep.Light
import Derived.Lib.Hide
namespace Go.Proofs.Ytiiojhmlagkcdaa
open Go.ChangeShapes Go.WideShapes Go.ChangeAt Go.RowKit

theorem retS_int {k : IntKind} {a b : Int} (h : a = b) : Ending.returned (.int k a) = .returned (.int k b) := by rw [h]
theorem retS_bool {a b : Bool} (h : a = b) : Ending.returned (.bool a) = .returned (.bool b) := by rw [h]
theorem iscls_any (c : Int) (w : World) :
    Calls Try.prog 33 #[.int .i64 c] w fun e w' => e = .returned (.bool (clsB c)) ∧ w = w' := by
  by_cases h : c < 0
  · go_enter Try.func33, Try.ntmps33
    go_wp2
    go_ret
    exact ⟨retS_bool (clsB_out c (by omega)).symm, rfl⟩
  · go_enter Try.func33, Try.ntmps33
    go_wp2
    go_ret
    refine ⟨retS_bool ?_, rfl⟩
    unfold clsB
    exact decide_eq_decide.mpr (by omega)
theorem words_any (c : Int) (w : World) :
    Calls Try.prog 29 #[.int .i64 c] w fun e w' => e = .returned (.int .i64 (wordsI c)) ∧ w = w' := by
  rcases cls_ways c with h | h | h | h | h | h | h | h | h
  · have hc := clsB_out c h
    rw [wordsI_out c h]
    go_enter Try.func29, Try.ntmps29
    go_wp2_with ((go_at_call 33; refine (iscls_any _ _).mono ?_; rintro e w' ⟨rfl, rfl⟩))
    all_goals (go_ret; exact ⟨rfl, rfl⟩)
  all_goals
    subst h
    go_enter Try.func29, Try.ntmps29
    go_wp2_with ((go_at_call 33; refine (iscls_any _ _).mono ?_; rintro e w' ⟨rfl, rfl⟩))
    go_ret
    exact ⟨retS_int (by decide), rfl⟩
theorem rwords_any (c : Int) (w : World) :
    Calls Try.prog 13 #[.int .i64 c] w fun e w' => e = .returned (.int .i64 (wordsI c)) ∧ w = w' := by
  rcases cls_ways c with h | h | h | h | h | h | h | h | h
  · have hc := clsB_out c h
    rw [wordsI_out c h]
    go_enter Try.func13, Try.ntmps13
    go_wp2
    all_goals (go_ret; exact ⟨rfl, rfl⟩)
  all_goals
    subst h
    go_enter Try.func13, Try.ntmps13
    go_wp2
    go_ret
    exact ⟨retS_int (by decide), rfl⟩
theorem small_any (c : Int) (w : World) :
    Calls Try.prog 30 #[.int .i64 c] w fun e w' => e = .returned (.bool (smallB c)) ∧ w = w' := by
  by_cases h : c < 0
  · go_enter Try.func30, Try.ntmps30
    go_wp2
    go_ret
    exact ⟨retS_bool (smallB_out c (by omega)).symm, rfl⟩
  · go_enter Try.func30, Try.ntmps30
    go_wp2
    go_ret
    refine ⟨retS_bool ?_, rfl⟩
    unfold smallB
    exact decide_eq_decide.mpr (by omega)
end Go.Proofs.Ytiiojhmlagkcdaa
