/-
  That the examples of chapter 5's laws stand (awake). Own work; each is proved by a walk through the landed text.
-/
import Derived.Test.YtlicfegpdegamaaRows
import Derived.Test.YtlicfegpdegamaaRunsMem
import Derived.Test.YtlicfegpdegamaaRunsCalls
import Derived.Test.YtlicfegpdegamaaRunsPutAll
import Derived.Test.YtlicfegpdegamaaRunsRef
import Derived.Test.YtlicfegpdegamaaRunsTake
import Derived.WalkKit
import Derived.ProofKit
import Derived.OpenShut
import Derived.Outline
import Derived.Deep.Light
import Derived.Deep.QuietTactic
import Derived.BigQuiet
import Derived.IntWalk
import Derived.StillTailTactics
import Derived.RegionTactic
import Derived.Deep.RegionLaw
import Derived.ChangeAlike
import Derived.Deep.RegionHeld3
import Derived.Deep.CutRange
namespace Go.Proofs.Ytlicfegpdegamaa
open Go.ChangeShapes Go.WideShapes Go.ChangeAt Go.RowKit
set_option maxRecDepth 100000

theorem Rs.lit (w : World) (l : List R) (cs : Array Value) (hcs : cs = (C l).toArray) (fit : ∀ x ∈ l, in64 x.1 ∧ in64 x.2) (n s : Nat) (hn : l.length = n) (hs : w.heap.size = s) : Rs (w.alloc (.cells cs 24)) (some ⟨s, 0, none⟩) n l := by
  subst hs
  subst hcs
  have b : Blk (w.alloc (.cells (C l).toArray 24)) w.heap.size 24 (C l) := Blk.new w _ _
  refine ⟨hn, fit, fun _ => ⟨w.heap.size, 0, rfl, b.lt, fun i x hx => ?_⟩⟩
  have gx := C_get l i x hx
  rw [Nat.zero_add, b.cell, b.cell]
  exact gx
theorem small64 {z : Int} (h : 0 ≤ z) (h' : z ≤ 1000) : in64 z := ⟨by omega, by omega⟩
theorem fit64 {l : List R} (h : Right 256 0 l) : ∀ x ∈ l, in64 x.1 ∧ in64 x.2 := fun x hx => by
  have := h.mem hx
  exact ⟨⟨by omega, by omega⟩, ⟨by omega, by omega⟩⟩
theorem r04 : Right 256 0 [(0, 4), (8, 2)] := by simp [Right]
theorem r22 : Right 256 0 [(2, 2), (8, 2)] := by simp [Right]
theorem r28 : Right 256 0 [(2, 8)] := by simp [Right]
set_option maxHeartbeats 4000000 in
theorem awake_any (w : World) : Calls Try.prog 9 #[] w fun e w' => e = .returned (.bool true) ∧ Kept Old w w' := by
  have f1 : Fits [(0, 4), (8, 2)] 2 0 (0, 4) := ⟨rfl, by decide, fun y hy => by simp at hy⟩
  have f1 := Lib.hid f1
  go_enter Try.func9, Try.ntmps9
  go_wp2_with fail
  refine (take_ok (some ⟨w.heap.size, 0, none⟩) 2 2 [(0, 4), (8, 2)] 2 0 (0, 4) _ (Rs.lit w _ _ rfl (fit64 r04) 2 _ rfl rfl) r04 (by omega) (by omega) f1.out (by omega)).mono ?_
  rintro e w1 ⟨v1, rfl, A1, n1, c1, rfl, R1, _, _, k1⟩
  have K1 := Lib.hid (((Kept.refl Old w).alloc _).trans k1)
  have R1 := Lib.hid R1
  clear k1
  go_wp2_with fail
  refine (put_ok (some ⟨w1.heap.size, 0, none⟩) 2 2 [(2, 2), (8, 2)] (4, 4) _ (Rs.lit w1 _ _ rfl (fit64 r22) 2 _ rfl rfl) r22 (by omega) (by intro h; cases h) (by omega) (by decide) (by decide) (by decide) (by decide)).mono ?_
  rintro e w2 ⟨v2, rfl, A2, n2, c2, rfl, R2, _, _, k2⟩
  have K2 := Lib.hid ((K1.out.alloc _).trans k2)
  have R1 := Lib.hid ((R1.out.old ((Kept.refl Old w1).alloc _)).old k2)
  have R2 := Lib.hid R2
  clear k2
  have l1 : n1 = 2 := R1.out.len.symm
  have l2 : n2 = 1 := R2.out.len.symm
  subst l1
  subst l2
  go_wp2_with fail
  refine (same_yes A1 (some ⟨w2.heap.size, 0, none⟩) 2 c1 2 [(2, 2), (8, 2)] _ (R1.out.old ((Kept.refl Old w2).alloc _)) (Rs.lit w2 _ _ rfl (fit64 r22) 2 _ rfl rfl) (by omega)).mono ?_
  rintro e w3 ⟨rfl, k3⟩
  have K3 := Lib.hid ((K2.out.alloc _).trans k3)
  have R2 := Lib.hid ((R2.out.old ((Kept.refl Old w2).alloc _)).old k3)
  clear k3
  go_wp2_with fail
  refine (same_yes A2 (some ⟨w3.heap.size, 0, none⟩) 1 c2 1 [(2, 8)] _ (R2.out.old ((Kept.refl Old w3).alloc _)) (Rs.lit w3 _ _ rfl (fit64 r28) 1 _ rfl rfl) (by omega)).mono ?_
  rintro e w4 ⟨rfl, k4⟩
  have K4 := Lib.hid ((K3.out.alloc _).trans k4)
  have R2 := Lib.hid ((R2.out.old ((Kept.refl Old w3).alloc _)).old k4)
  clear k4
  go_wp2_with fail
  refine (total_any A2 1 c2 [(2, 8)] _ R2.out r28).mono ?_
  rintro e w5 ⟨rfl, k5⟩
  rw [show totalL [(2, 8)] = 8 from rfl]
  go_wp2_with fail
  go_ret
  exact ⟨rfl, K4.out.trans k5⟩
end Go.Proofs.Ytlicfegpdegamaa
