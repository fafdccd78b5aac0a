/-
  A new model; two models that are alike; the document's example (awake). Own work; each is proved by a walk through the landed text.
-/
import Derived.Test.YtcndilpaijapkaaGreatRows
import Derived.WalkKit
import Derived.ProofKit
import Derived.OpenShut
import Derived.Outline
import Derived.Deep.Light
import Derived.Deep.QuietTactic
import Derived.BigQuiet
import Derived.IntWalk
import Derived.StillTailTactics
import Derived.RegionTactic
import Derived.Deep.RegionLaw
import Derived.Test.YtcndilpaijapkaaGreatJDeed
namespace Go.Proofs.YtcndilpaijapkaaGreat.Lm
open Go.ChangeShapes Go.WideShapes Go.ChangeAt Go.RowKit
set_option maxRecDepth 100000
theorem new_any (W : Int) (w : World) : Calls Tryz.prog 34 #[.int .i64 W] w fun e w' => e = .returned (md W none 0 0) ∧ Kept Old w w' := by
  have B := Lib.hid (Bm.new w W (.slice none 0 0))
  go_enter Tryz.func34, Tryz.ntmps34
  go_wp2
  have r0 := B.out.c0
  have r1 := B.out.c1
  exact bodyPost_ret (v := .agg #[.int .i64 W, .slice none 0 0]) (by simp [results, Tryz.results34, go_sem, r0, r1]) rfl ⟨rfl, (Kept.refl Old w).alloc _⟩
theorem samel_yes (A B : Option Addr) (n c d : Nat) (l : List S) (w : World) (ha : RsS w A n l) (hb : RsS w B n l) (hn : n ≤ 1000) :
    Calls Tryz.prog 35 #[.slice A n c, .slice B n d] w fun e w' => e = .returned (.bool true) ∧ Kept Old w w' := by
  have HA := Lib.hid ha
  have HB := Lib.hid hb
  clear ha hb
  go_enter Tryz.func35, Tryz.ntmps35
  go_wp2
  go_loopw [5] (fun i wr => ∃ k : Nat, k ≤ n ∧ i = .int .i64 (k : Int) ∧ Hid (Kept Old w wr)) (fun i _ => n - (intOf i).toNat)
  case atStart => exact ⟨0, by omega, rfl, Lib.hid (Kept.refl _ _)⟩
  case round =>
    obtain ⟨k, hk, rfl, K⟩ := hrel
    rename World => W
    by_cases c : k < n
    · obtain ⟨g, o, x, rfl, _, hx, _, c0, c1, c2⟩ := (HA.out.old K.out).get c
      obtain ⟨g', o', y, rfl, _, hy, _, e0, e1, e2⟩ := (HB.out.old K.out).get c
      obtain rfl : x = y := by rw [hx] at hy; injection hy
      clear hx hy
      go_wp2_with fail
      go_quiet (fail)
      go_wp2
      refine ⟨⟨k + 1, by omega, by go_num, Lib.hid (K.out.drewN _)⟩, ?_⟩
      simp [intOf]; omega
    · go_wp2
      go_ret
      exact ⟨rfl, K.out⟩
end Go.Proofs.YtcndilpaijapkaaGreat.Lm
