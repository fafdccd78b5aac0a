/-
  What the small functions of package large, and the document's own of large stacks, answer: which stack is valid, which stands ahead, whether two have a word in common, how many words a list has, whether two lists are alike. Own work; each is proved by a walk through the landed text.
-/
import Derived.Test.YtiiojhmlagkcdaaRows
import Derived.Test.YtiiojhmlagkcdaaBigApp
import Derived.Test.YtiiojhmlagkcdaaSizeCalls
import Derived.WalkKit
import Derived.ProofKit
import Derived.OpenShut
import Derived.Outline
import Derived.Deep.Light
import Derived.Deep.QuietTactic
import Derived.BigQuiet
import Derived.IntWalk
import Derived.StillTailTactics
import Derived.RegionTactic
import Derived.Deep.RegionLaw
import Derived.ChangeAlike
import Derived.Deep.RegionHeld3
import Derived.Deep.CutRange
namespace Go.Proofs.Ytiiojhmlagkcdaa.Bg
open Go.ChangeShapes Go.WideShapes Go.ChangeAt Go.RowKit
set_option maxRecDepth 100000

theorem ahead_ways (a b : R) : (a.2 < b.2 ∧ aheadB a b = true) ∨ (¬ a.2 < b.2 ∧ (a.2 == b.2) = true ∧ aheadB a b = decide (a.1 < b.1)) ∨ (¬ a.2 < b.2 ∧ (a.2 == b.2) = false ∧ aheadB a b = false) := by
  unfold aheadB
  by_cases h : a.2 < b.2
  · exact .inl ⟨h, decide_eq_true (.inl h)⟩
  · by_cases e : a.2 = b.2
    · exact .inr (.inl ⟨h, by simp [e], decide_eq_decide.2 (by omega)⟩)
    · exact .inr (.inr ⟨h, beq_eq_false_iff_ne.2 e, decide_eq_false (by omega)⟩)
theorem before_any (a b : R) (w : World) : Calls Try.prog 19 #[run a, run b] w fun e w' => e = .returned (.bool (aheadB a b)) ∧ Kept Old w w' := by
  rcases ahead_ways a b with ⟨h, e⟩ | ⟨h, h1, e⟩ | ⟨h, h1, e⟩
  all_goals
    rw [e]
    clear e
    go_enter Try.func19, Try.ntmps19
    go_wp2
    go_ret
    exact ⟨rfl, ((Kept.refl Old w).alloc _).alloc _⟩
theorem rahead_any (a b : R) (w : World) : Calls Try.prog 22 #[run a, run b] w fun e w' => e = .returned (.bool (aheadB a b)) ∧ Kept Old w w' := by
  have ne : (a.2 != b.2) = !(a.2 == b.2) := rfl
  rcases ahead_ways a b with ⟨h, e⟩ | ⟨h, h1, e⟩ | ⟨h, h1, e⟩
  · have h1 : (a.2 == b.2) = false := beq_eq_false_iff_ne.2 (by omega)
    rw [h1] at ne
    rw [e]
    clear e
    go_enter Try.func22, Try.ntmps22
    go_wp2
    go_ret
    exact ⟨rfl, ((Kept.refl Old w).alloc _).alloc _⟩
  · rw [h1] at ne
    rw [e]
    clear e
    go_enter Try.func22, Try.ntmps22
    go_wp2
    go_ret
    exact ⟨rfl, ((Kept.refl Old w).alloc _).alloc _⟩
  · rw [h1] at ne
    rw [e]
    clear e
    go_enter Try.func22, Try.ntmps22
    go_wp2
    go_ret
    exact ⟨rfl, ((Kept.refl Old w).alloc _).alloc _⟩
/-- Whether a stack is valid, by its class and then its address. -/
theorem may_ways (b : R) : ((b.2 < 4 ∨ 7 < b.2) ∧ mayB b = false) ∨ (4 ≤ b.2 ∧ b.2 ≤ 7 ∧ b.1 < 0 ∧ mayB b = false) ∨ (4 ≤ b.2 ∧ b.2 ≤ 7 ∧ 0 ≤ b.1 ∧ ¬ b.1 % 64 = 0 ∧ mayB b = false) ∨ (4 ≤ b.2 ∧ b.2 ≤ 7 ∧ 0 ≤ b.1 ∧ b.1 % 64 = 0 ∧ mayB b = decide (b.1 ≤ 16384 - wordsI b.2)) := by
  unfold mayB
  by_cases h : b.2 < 4 ∨ 7 < b.2
  · exact .inl ⟨h, decide_eq_false (by omega)⟩
  · by_cases h1 : b.1 < 0
    · exact .inr (.inl ⟨by omega, by omega, h1, decide_eq_false (by omega)⟩)
    · by_cases h2 : b.1 % 64 = 0
      · exact .inr (.inr (.inr ⟨by omega, by omega, by omega, h2, decide_eq_decide.2 (by omega)⟩))
      · exact .inr (.inr (.inl ⟨by omega, by omega, by omega, h2, decide_eq_false (by omega)⟩))
theorem wordsI_eq0 (c : Int) (h : 4 ≤ c) (h1 : c ≤ 7) : (wordsI c == 0) = false := beq_eq_false_iff_ne.2 (by have := words_large h h1; omega)
theorem lies_any (b : R) (w : World) (hb : in64 b.1 ∧ in64 b.2) : Calls Try.prog 18 #[run b] w fun e w' => e = .returned (.bool (mayB b)) ∧ Kept Old w w' := by
  obtain ⟨⟨i1, i2⟩, i3, i4⟩ := hb
  rcases may_ways b with ⟨h, e⟩ | ⟨h, h1, h2, e⟩ | ⟨h, h1, h2, h3, e⟩ | ⟨h, h1, h2, h3, e⟩
  · rw [e]
    clear e
    by_cases d : b.2 < 0 ∨ 7 < b.2
    · have z := wordsI_out b.2 d
      have z1 : (wordsI b.2 == 0) = true := by rw [z]; rfl
      have z := Lib.hid z
      go_enter Try.func18, Try.ntmps18
      go_wp2_with (go_at_call 29; refine (words_any _ _).mono ?_; rintro e w' ⟨rfl, rfl⟩)
      go_ret
      exact ⟨rfl, (Kept.refl Old w).alloc _⟩
    · have d1 : smallB b.2 = true := smallB_in _ (by omega) (by omega)
      have z1 : (wordsI b.2 == 0) = false := by
        rcases cls_ways b.2 with q | q | q | q | q | q | q | q | q
        · omega
        all_goals (rw [q]; decide)
      go_enter Try.func18, Try.ntmps18
      go_wp2_with (first | (go_at_call 29; refine (words_any _ _).mono ?_; rintro e w' ⟨rfl, rfl⟩) | (go_at_call 30; refine (small_any _ _).mono ?_; rintro e w' ⟨rfl, rfl⟩))
      go_ret
      exact ⟨rfl, (Kept.refl Old w).alloc _⟩
  all_goals
    have z1 := wordsI_eq0 b.2 h h1
    have d1 : smallB b.2 = false := smallB_out _ (by omega)
    have wl := words_large h h1
    rw [e]
    clear e
  · have h2' : decide (0 ≤ b.1) = false := decide_eq_false (by omega)
    go_enter Try.func18, Try.ntmps18
    go_wp2_with (first | (go_at_call 29; refine (words_any _ _).mono ?_; rintro e w' ⟨rfl, rfl⟩) | (go_at_call 30; refine (small_any _ _).mono ?_; rintro e w' ⟨rfl, rfl⟩))
    go_ret
    exact ⟨rfl, (Kept.refl Old w).alloc _⟩
  · have h4 : (b.1 % 64 == 0) = false := beq_eq_false_iff_ne.2 h3
    go_enter Try.func18, Try.ntmps18
    go_wp2_with (first | (go_at_call 29; refine (words_any _ _).mono ?_; rintro e w' ⟨rfl, rfl⟩) | (go_at_call 30; refine (small_any _ _).mono ?_; rintro e w' ⟨rfl, rfl⟩))
    go_ret
    exact ⟨rfl, (Kept.refl Old w).alloc _⟩
  · have h4 : (b.1 % 64 == 0) = true := by rw [h3]; rfl
    go_enter Try.func18, Try.ntmps18
    go_wp2_with (first | (go_at_call 29; refine (words_any _ _).mono ?_; rintro e w' ⟨rfl, rfl⟩) | (go_at_call 30; refine (small_any _ _).mono ?_; rintro e w' ⟨rfl, rfl⟩))
    go_ret
    exact ⟨rfl, (Kept.refl Old w).alloc _⟩
end Go.Proofs.Ytiiojhmlagkcdaa.Bg
