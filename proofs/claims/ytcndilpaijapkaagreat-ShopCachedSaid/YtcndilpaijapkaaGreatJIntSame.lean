/-
  What the document's SameInts answers of two slices of integers that read alike. Own work; proved by a walk through the text.
-/
import Derived.Test.YtcndilpaijapkaaGreatRows
import Derived.WalkKit
import Derived.ProofKit
import Derived.OpenShut
import Derived.Outline
import Derived.Deep.Light
import Derived.Deep.QuietTactic
import Derived.BigQuiet
import Derived.IntWalk
import Derived.Test.YtcndilpaijapkaaGreatJInts
namespace Go.Proofs.YtcndilpaijapkaaGreat
open Go.ChangeShapes Go.WideShapes Go.ChangeAt Go.RowKit
set_option maxRecDepth 100000
theorem sameInts_any (A B : Option Addr) (n c d : Nat) (xs : List Int) (w : World) (ha : RsI w A n xs) (hb : RsI w B n xs) (hn : n ≤ 100000) :
    Calls Tryz.prog 32 #[.slice A n c, .slice B n d] w fun e w' => e = .returned (.bool true) ∧ Kept Old w w' := by
  go_enter Tryz.func32, Tryz.ntmps32
  go_wp2
  go_loopw [5] (fun i wr => ∃ k : Nat, k ≤ n ∧ i = .int .i64 (k : Int) ∧ Hid (∃ d, wr = w.drewN d)) (fun i _ => n - (intOf i).toNat)
  case atStart => exact ⟨0, by omega, rfl, Lib.hid ⟨0, rfl⟩⟩
  case round =>
    obtain ⟨k, hk, rfl, HD⟩ := hrel
    rename World => W
    by_cases c : k < n
    · have ra : RsI W A n xs := by obtain ⟨d, rfl⟩ := HD.out; exact ha.drewN d
      have rb : RsI W B n xs := by obtain ⟨d, rfl⟩ := HD.out; exact hb.drewN d
      obtain ⟨g, o, x, rfl, _, hx, _, c1⟩ := ra.get c
      obtain ⟨g', o', x', rfl, _, hx', _, c2⟩ := rb.get c
      obtain rfl : x = x' := by rw [hx] at hx'; injection hx'
      clear hx hx' ra rb ha hb
      go_wp2
      go_quiet (fail)
      go_wp2
      refine ⟨⟨k + 1, by omega, by go_num, Lib.hid ?_⟩, ?_⟩
      · obtain ⟨d, rfl⟩ := HD.out; exact ⟨_, World.drewN_drewN _ _ _⟩
      · simp [intOf]; omega
    · have P : Kept Old w W := by obtain ⟨d, rfl⟩ := HD.out; exact (Kept.refl _ _).drewN d
      go_wp2
      go_ret
      exact ⟨rfl, P⟩
end Go.Proofs.YtcndilpaijapkaaGreat
