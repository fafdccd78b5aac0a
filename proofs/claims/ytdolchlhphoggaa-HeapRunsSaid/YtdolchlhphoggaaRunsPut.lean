/-
  What Put answers of right runs. Own work; each is proved by a walk through the landed text.
-/
import Derived.Test.YtdolchlhphoggaaRows
import Derived.Test.YtdolchlhphoggaaRunsMem
import Derived.Test.YtdolchlhphoggaaRunsCalls
import Derived.Test.YtdolchlhphoggaaRunsPlace
import Derived.WalkKit
import Derived.ProofKit
import Derived.OpenShut
import Derived.Outline
import Derived.Deep.Light
import Derived.Deep.QuietTactic
import Derived.BigQuiet
import Derived.IntWalk
import Derived.StillTailTactics
import Derived.RegionTactic
import Derived.Deep.RegionLaw
import Derived.ChangeAlike
import Derived.Deep.RegionHeld3
namespace Go.Proofs.Ytdolchlhphoggaa
open Go.ChangeShapes Go.WideShapes Go.ChangeAt Go.RowKit
set_option maxRecDepth 100000

/-- What Put answers where the run may be put. -/
def PutPost (L : List R) (w : World) (e : Ending) (w' : World) : Prop := ∃ v, e = .returned (.tuple #[v, .int .i64 0]) ∧ Made1 L w v w'
theorem lies_yes (r : R) (w : World) (h0 : 0 ≤ r.1) (h1 : 1 ≤ r.2) (h2 : r.1 + r.2 ≤ 256) : Calls Try.prog 39 #[run r, .int .i64 256] w fun e w' => e = .returned (.bool true) ∧ Kept Old w w' := by
  have := lies_any r 256 w ⟨by omega, by omega⟩ ⟨by omega, by omega⟩
  rwa [show liesB r 256 = true from decide_eq_true ⟨h0, h1, h2⟩] at this
theorem put_bad (A : Option Addr) (n c : Nat) (r : R) (w : World) (h : in64 r.2) (hb : liesB r 256 = false) : Calls Try.prog 35 #[.slice A n c, run r] w fun e w' => e = .returned (.tuple #[.slice none 0 0, .int .i64 1]) ∧ Kept Old w w' := by
  have hl := lies_any r 256 (w.alloc (.cells #[.int .i64 r.1, .int .i64 r.2] 63)) h ⟨by omega, by omega⟩
  rw [hb] at hl
  have hl := Lib.hid hl
  clear hb h
  go_enter Try.func35, Try.ntmps35
  go_wp2_with fail
  refine hl.out.mono ?_
  rintro e w1 ⟨rfl, k1⟩
  go_wp2
  go_ret2
  exact ⟨rfl, ((Kept.refl _ _).alloc _).trans k1⟩
theorem put_twice (A : Option Addr) (n c : Nat) (l : List R) (r : R) (w : World) (h : Rs w A n l) (hr : Right 256 0 l) (hn : n ≤ 1000) (h0 : 0 ≤ r.1) (h1 : 1 ≤ r.2) (h2 : r.1 + r.2 ≤ 256) (hp : freeB l r.1 r.2 = false) : Calls Try.prog 35 #[.slice A n c, run r] w fun e w' => e = .returned (.tuple #[.slice none 0 0, .int .i64 4]) ∧ Kept Old w w' := by
  have HR := Lib.hid h
  have HT := Lib.hid hr
  have hp := Lib.hid hp
  clear h hr
  go_enter Try.func35, Try.ntmps35
  go_wp2_with fail
  refine (lies_yes r _ h0 h1 h2).mono ?_
  rintro e w1 ⟨rfl, k1⟩
  have b := (Bx.new w r).old k1
  have x0 := b.c0
  have x1 := b.c1
  have K := Lib.hid (((Kept.refl Old w).alloc _).trans k1)
  clear k1 b
  go_wp2_with fail
  refine (place_no A n c l r _ (HR.out.old K.out) HT.out hn h0 h1 h2 hp.out).mono ?_
  rintro e w2 ⟨rfl, k2⟩
  go_wp2
  go_ret2
  exact ⟨rfl, K.out.trans k2⟩
end Go.Proofs.Ytdolchlhphoggaa
