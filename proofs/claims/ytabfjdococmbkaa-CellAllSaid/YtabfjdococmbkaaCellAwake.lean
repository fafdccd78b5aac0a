/-
  The example that each law of layer 4 asks for. Own work.
-/
import Derived.Test.YtabfjdococmbkaaCellCalls
namespace Go.Proofs.Ytabfjdococmbkaa
open Go.ChangeShapes Go.WideShapes Go.ChangeAt Go.RowKit
set_option maxRecDepth 100000
set_option maxHeartbeats 4000000 in
theorem awake_any (w : World) : Calls Try.prog 20 #[] w fun e w' => e = .returned (.bool true) ∧ Kept Old w w' := by
  have q1 := Lib.hid (take_ok 0 0 w may00 (by decide))
  go_enter Try.func20, Try.ntmps20
  go_wp2_with fail
  refine q1.out.mono ?_
  rintro e w1 ⟨rfl, k1⟩
  have K1 := Lib.hid k1
  clear k1 q1
  go_wp2_with fail
  refine (leave_ok 1 0 _ held10).mono ?_
  rintro e w2 ⟨rfl, k2⟩
  have b2 := (Box.new w1 1 0).old k2
  have l2 := Blk.lt b2
  have h0 := b2.c0
  have h1 := b2.c1
  have K2 := Lib.hid ((K1.out.alloc (.cells #[.int .i64 1, .int .i64 0] 23)).trans k2)
  clear K1 k2 b2
  go_wp2_with fail
  refine (mine_yes _ held10).mono ?_
  rintro e w3 ⟨rfl, k3⟩
  have b3 := (Box.new w2 1 1).old k3
  have l3 := Blk.lt b3
  have h2 := b3.c0
  have h3 := b3.c1
  have K3 := Lib.hid ((K2.out.alloc (.cells #[.int .i64 1, .int .i64 1] 23)).trans k3)
  clear K2 k3 b3
  go_wp2_with fail
  refine (mine_no (n := 1) (t := 1) (k := 0) _ (fun h => by rw [held11] at h; cases h)).mono ?_
  rintro e w4 ⟨rfl, k4⟩
  go_wp2_with fail
  go_ret
  exact ⟨rfl, K3.out.trans k4⟩
end Go.Proofs.Ytabfjdococmbkaa
