/-
  Whether two runs of words have one in common, by the program and by the document, within an arena; whether a stack lies in a model; whether two stacks have a word in common. Own work; each is proved by a walk through the landed text.
-/
import Derived.Test.YtcndilpaijapkaaGreatRows
import Derived.WalkKit
import Derived.ProofKit
import Derived.OpenShut
import Derived.Outline
import Derived.Deep.Light
import Derived.Deep.QuietTactic
import Derived.BigQuiet
import Derived.IntWalk
import Derived.StillTailTactics
import Derived.RegionTactic
import Derived.Deep.RegionLaw
import Derived.Test.YtcndilpaijapkaaGreatJDeed
import Derived.Test.YtcndilpaijapkaaGreatJSize
namespace Go.Proofs.YtcndilpaijapkaaGreat.Lm
open Go.ChangeShapes Go.WideShapes Go.ChangeAt Go.RowKit
set_option maxRecDepth 100000

theorem in_reach (a n : Int) (w : World) (h0 : 0 ≤ a) (h1 : a ≤ 16384) (h2 : 1 ≤ n) (h3 : n ≤ 4096) : Calls Tryz.prog 199 #[.int .i64 a, .int .i64 n] w fun e w' => e = .returned (.bool true) ∧ w = w' := by
  go_enter Tryz.func199, Tryz.ntmps199
  go_wp2
  go_ret
  refine ⟨retS_bool ?_, rfl⟩
  exact decide_eq_true (by omega)
theorem hit_ways (a n b m : Int) : (a < b + m ∧ decide (a < b + m ∧ b < a + n) = decide (b < a + n)) ∨ (¬ a < b + m ∧ decide (a < b + m ∧ b < a + n) = false) := by
  by_cases h : a < b + m
  · exact .inl ⟨h, decide_eq_decide.2 (by omega)⟩
  · exact .inr ⟨h, decide_eq_false (by omega)⟩
/-- num.Over of places in the arena. -/
theorem nover_any (a n b m : Int) (w : World) (h0 : 0 ≤ a) (h1 : a ≤ 16384) (h2 : 1 ≤ n) (h3 : n ≤ 4096) (g0 : 0 ≤ b) (g1 : b ≤ 16384) (g2 : 1 ≤ m) (g3 : m ≤ 4096) :
    Calls Tryz.prog 187 #[.int .i64 a, .int .i64 n, .int .i64 b, .int .i64 m] w fun e w' => e = .returned (.bool (decide (a < b + m ∧ b < a + n))) ∧ w = w' := by
  rcases hit_ways a n b m with ⟨h, e⟩ | ⟨h, e⟩
  all_goals
    rw [e]
    clear e
    go_enter Tryz.func187, Tryz.ntmps187
    go_wp2_with (go_at_call 199; refine (in_reach _ _ _ (by omega) (by omega) (by omega) (by omega)).mono ?_; rintro e w' ⟨rfl, rfl⟩)
    go_ret
    exact ⟨rfl, rfl⟩
theorem rover_any (a n b m : Int) (w : World) (h0 : 0 ≤ a) (h1 : a ≤ 16384) (h2 : 1 ≤ n) (h3 : n ≤ 4096) (g0 : 0 ≤ b) (g1 : b ≤ 16384) (g2 : 1 ≤ m) (g3 : m ≤ 4096) :
    Calls Tryz.prog 41 #[.int .i64 a, .int .i64 n, .int .i64 b, .int .i64 m] w fun e w' => e = .returned (.bool (decide (a < b + m ∧ b < a + n))) ∧ w = w' := by
  rcases hit_ways a n b m with ⟨h, e⟩ | ⟨h, e⟩
  all_goals
    rw [e]
    clear e
    go_enter Tryz.func41, Tryz.ntmps41
    go_wp2
    go_ret
    exact ⟨rfl, rfl⟩
theorem lies_ways (W a c : Int) : (wordsI c = 0 ∧ liesB W a c = false) ∨ (32 ≤ wordsI c ∧ wordsI c ≤ 4096 ∧ a < 0 ∧ liesB W a c = false) ∨ (32 ≤ wordsI c ∧ wordsI c ≤ 4096 ∧ 0 ≤ a ∧ a % 32 ≠ 0 ∧ liesB W a c = false) ∨ (32 ≤ wordsI c ∧ wordsI c ≤ 4096 ∧ 0 ≤ a ∧ a % 32 = 0 ∧ liesB W a c = decide (a ≤ W - wordsI c)) := by
  unfold liesB
  rcases words_ways c with ⟨_, q⟩ | ⟨_, _, q1, q2, _⟩
  · exact .inl ⟨q, decide_eq_false (by omega)⟩
  · by_cases h : a < 0
    · exact .inr (.inl ⟨q1, q2, h, decide_eq_false (by omega)⟩)
    · by_cases h1 : a % 32 = 0
      · exact .inr (.inr (.inr ⟨q1, q2, by omega, h1, decide_eq_decide.2 (by omega)⟩))
      · exact .inr (.inr (.inl ⟨q1, q2, by omega, h1, decide_eq_false (by omega)⟩))
/-- Whether a stack of a class at an address lies in the words. -/
theorem mlies_any (W a c : Int) (A : Option Addr) (n cp : Nat) (w : World) (h0 : 0 ≤ W) (h1 : W ≤ 16384) :
    Calls Tryz.prog 178 #[md W A n cp, .int .i64 a, .int .i64 c] w fun e w' => e = .returned (.bool (liesB W a c)) ∧ Kept Old w w' := by
  have K := Lib.hid ((Kept.refl Old w).alloc (.cells #[.int .i64 W, .slice A n cp] 63))
  have C := Lib.hid (fun V => words_any c V)
  rcases lies_ways W a c with ⟨q, e⟩ | ⟨q, q1, h, e⟩ | ⟨q, q1, h, h2, e⟩ | ⟨q, q1, h, h2, e⟩
  · rw [e]
    clear e
    rw [q] at C
    go_enter Tryz.func178, Tryz.ntmps178
    go_wp2_with (go_at_call 91; refine (C.out _).mono ?_; rintro e w' ⟨rfl, rfl⟩)
    go_ret
    exact ⟨rfl, K.out⟩
  all_goals
    rw [e]
    clear e
    generalize wordsI c = m at *
  · have nz : (m == 0) = false := beq_eq_false_iff_ne.2 (by omega)
    go_enter Tryz.func178, Tryz.ntmps178
    go_wp2_with (go_at_call 91; refine (C.out _).mono ?_; rintro e w' ⟨rfl, rfl⟩)
    go_ret
    exact ⟨rfl, K.out⟩
  · have nz : (m == 0) = false := beq_eq_false_iff_ne.2 (by omega)
    have h4 : (a % 32 != 0) = true := by simpa using h2
    have h5 : ¬ a < 0 := by omega
    go_enter Tryz.func178, Tryz.ntmps178
    go_wp2_with (go_at_call 91; refine (C.out _).mono ?_; rintro e w' ⟨rfl, rfl⟩)
    go_ret
    exact ⟨rfl, K.out⟩
  · have nz : (m == 0) = false := beq_eq_false_iff_ne.2 (by omega)
    have h4 : (a % 32 != 0) = false := by simp [h2]
    have h5 : ¬ a < 0 := by omega
    have h6 : IntKind.i64.wrap (W - m) = W - m := IntWalk.i64_in _ (by omega)
    go_enter Tryz.func178, Tryz.ntmps178
    go_wp2_with (go_at_call 91; refine (C.out _).mono ?_; rintro e w' ⟨rfl, rfl⟩)
    go_ret
    exact ⟨rfl, K.out⟩
/-- Whether two stacks that lie in the words have a word in common. -/
theorem mover_any (W : Int) (x y : S) (w : World) (h1 : W ≤ 16384) (hx : Lies W x.a x.n) (hy : Lies W y.a y.n) :
    Calls Tryz.prog 179 #[spn x, spn y] w fun e w' => e = .returned (.bool (hitB x y.a (wordsI y.n))) ∧ Kept Old w w' := by
  have o := Lib.hid (fun V => nover_any x.a (wordsI x.n) y.a (wordsI y.n) V hx.a0 (by have := hx.fit; have := hx.w0; omega) (by have := hx.w0; omega) hx.w1 hy.a0 (by have := hy.fit; have := hy.w0; omega) (by have := hy.w0; omega) hy.w1)
  clear hx hy
  go_enter Tryz.func179, Tryz.ntmps179
  go_wp2
  go_quiet (first | (go_at_call 91; exact Calls.quiet_of_same ((words_any _ _).mono fun e w' h => ⟨h.1, h.2.symm⟩)) | (go_at_call 187; exact Calls.quiet_of_same ((o.out _).mono fun e w' h => ⟨h.1, h.2.symm⟩)))
  go_wp2
  go_ret
  exact ⟨rfl, (((Kept.refl Old w).alloc _).alloc _).drewN _⟩
end Go.Proofs.YtcndilpaijapkaaGreat.Lm
