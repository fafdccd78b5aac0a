/-
  Whether two large stacks have a word in common, by the program and by the document; which is valid by the document. Own work; each is proved by a walk through the landed text.
-/
import Derived.Test.YtiiojhmlagkcdaaRows
import Derived.Test.YtiiojhmlagkcdaaBigApp
import Derived.Test.YtiiojhmlagkcdaaSizeCalls
import Derived.Test.YtiiojhmlagkcdaaBigCalls
import Derived.WalkKit
import Derived.ProofKit
import Derived.OpenShut
import Derived.Outline
import Derived.Deep.Light
import Derived.Deep.QuietTactic
import Derived.BigQuiet
import Derived.IntWalk
import Derived.StillTailTactics
import Derived.RegionTactic
import Derived.Deep.RegionLaw
import Derived.ChangeAlike
import Derived.Deep.RegionHeld3
import Derived.Deep.CutRange
namespace Go.Proofs.Ytiiojhmlagkcdaa.Bg
open Go.ChangeShapes Go.WideShapes Go.ChangeAt Go.RowKit
set_option maxRecDepth 100000

theorem in_reach (a n : Int) (w : World) (h0 : 0 ≤ a) (h1 : a ≤ 16384) (h2 : 1 ≤ n) (h3 : n ≤ 4096) : Calls Try.prog 34 #[.int .i64 a, .int .i64 n] w fun e w' => e = .returned (.bool true) ∧ w = w' := by
  go_enter Try.func34, Try.ntmps34
  go_wp2
  go_ret
  refine ⟨retS_bool ?_, rfl⟩
  exact decide_eq_true (by omega)
theorem hit_ways (a n b m : Int) : (a < b + m ∧ decide (a < b + m ∧ b < a + n) = decide (b < a + n)) ∨ (¬ a < b + m ∧ decide (a < b + m ∧ b < a + n) = false) := by
  by_cases h : a < b + m
  · exact .inl ⟨h, decide_eq_decide.2 (by omega)⟩
  · exact .inr ⟨h, decide_eq_false (by omega)⟩
/-- num.Over of places in the arena. -/
theorem nover_any (a n b m : Int) (w : World) (h0 : 0 ≤ a) (h1 : a ≤ 16384) (h2 : 1 ≤ n) (h3 : n ≤ 4096) (g0 : 0 ≤ b) (g1 : b ≤ 16384) (g2 : 1 ≤ m) (g3 : m ≤ 4096) :
    Calls Try.prog 31 #[.int .i64 a, .int .i64 n, .int .i64 b, .int .i64 m] w fun e w' => e = .returned (.bool (decide (a < b + m ∧ b < a + n))) ∧ w = w' := by
  rcases hit_ways a n b m with ⟨h, e⟩ | ⟨h, e⟩
  all_goals
    rw [e]
    clear e
    go_enter Try.func31, Try.ntmps31
    go_wp2_with (go_at_call 34; refine (in_reach _ _ _ (by omega) (by omega) (by omega) (by omega)).mono ?_; rintro e w' ⟨rfl, rfl⟩)
    go_ret
    exact ⟨rfl, rfl⟩
theorem rover_any (a n b m : Int) (w : World) (h0 : 0 ≤ a) (h1 : a ≤ 16384) (h2 : 1 ≤ n) (h3 : n ≤ 4096) (g0 : 0 ≤ b) (g1 : b ≤ 16384) (g2 : 1 ≤ m) (g3 : m ≤ 4096) :
    Calls Try.prog 32 #[.int .i64 a, .int .i64 n, .int .i64 b, .int .i64 m] w fun e w' => e = .returned (.bool (decide (a < b + m ∧ b < a + n))) ∧ w = w' := by
  rcases hit_ways a n b m with ⟨h, e⟩ | ⟨h, e⟩
  all_goals
    rw [e]
    clear e
    go_enter Try.func32, Try.ntmps32
    go_wp2
    go_ret
    exact ⟨rfl, rfl⟩
theorem rmay_any (b : R) (w : World) (hb : in64 b.1 ∧ in64 b.2) : Calls Try.prog 21 #[run b] w fun e w' => e = .returned (.bool (mayB b)) ∧ Kept Old w w' := by
  obtain ⟨⟨i1, i2⟩, i3, i4⟩ := hb
  rcases may_ways b with ⟨h, e⟩ | ⟨h, h1, h2, e⟩ | ⟨h, h1, h2, h3, e⟩ | ⟨h, h1, h2, h3, e⟩
  · rw [e]
    clear e
    rcases h with h | h
    · go_enter Try.func21, Try.ntmps21
      go_wp2
      go_ret
      exact ⟨rfl, (Kept.refl Old w).alloc _⟩
    · have h' : ¬ b.2 < 4 := by omega
      go_enter Try.func21, Try.ntmps21
      go_wp2
      go_ret
      exact ⟨rfl, (Kept.refl Old w).alloc _⟩
  all_goals
    have wl := words_large h h1
  · rw [e]
    clear e
    go_enter Try.func21, Try.ntmps21
    go_wp2
    go_ret
    exact ⟨rfl, (Kept.refl Old w).alloc _⟩
  · rw [e]
    clear e
    have h4 : (b.1 % 64 != 0) = true := by simpa using h3
    go_enter Try.func21, Try.ntmps21
    go_wp2
    go_ret
    exact ⟨rfl, (Kept.refl Old w).alloc _⟩
  · have h4 : (b.1 % 64 != 0) = false := by simp [h3]
    by_cases d : b.1 ≤ 16384
    · have d1 : decide (b.1 ≤ 16384) = true := decide_eq_true d
      rw [e, show decide (b.1 ≤ 16384 - wordsI b.2) = decide (wordsI b.2 ≤ 16384 - b.1) from decide_eq_decide.2 (by omega)]
      clear e
      go_enter Try.func21, Try.ntmps21
      go_wp2
      go_quiet (first | (go_at_call 13; exact Calls.quiet_of_same ((rwords_any _ _).mono fun e w' h => ⟨h.1, h.2.symm⟩)))
      go_wp2
      go_ret
      exact ⟨rfl, ((Kept.refl Old w).alloc _).drewN _⟩
    · have d1 : decide (b.1 ≤ 16384) = false := decide_eq_false d
      rw [e, decide_eq_false (by omega)]
      clear e
      go_enter Try.func21, Try.ntmps21
      go_wp2
      go_quiet (fail)
      go_wp2
      go_ret
      exact ⟨rfl, ((Kept.refl Old w).alloc _).drewN _⟩
theorem rover_big (a b : R) (w : World) (ha : mayB a = true) (hb : mayB b = true) : Calls Try.prog 23 #[run a, run b] w fun e w' => e = .returned (.bool (hitB a b)) ∧ Kept Old w w' := by
  have ma := may_of ha
  have mb := may_of hb
  have o := Lib.hid (fun W => rover_any a.1 (wordsI a.2) b.1 (wordsI b.2) W ma.a0 (by have := ma.fit; have := ma.w0; omega) (by have := ma.w0; omega) ma.w1 mb.a0 (by have := mb.fit; have := mb.w0; omega) (by have := mb.w0; omega) mb.w1)
  clear ha hb ma mb
  go_enter Try.func23, Try.ntmps23
  go_wp2
  go_quiet (first | (go_at_call 13; exact Calls.quiet_of_same ((rwords_any _ _).mono fun e w' h => ⟨h.1, h.2.symm⟩)) | (go_at_call 32; exact Calls.quiet_of_same ((o.out _).mono fun e w' h => ⟨h.1, h.2.symm⟩)))
  go_wp2
  go_ret
  exact ⟨rfl, (((Kept.refl Old w).alloc _).alloc _).drewN _⟩
end Go.Proofs.Ytiiojhmlagkcdaa.Bg
