/-
  Parts of no store; the law's compare of pieces that are none. Own work; each is proved by a walk through the landed text.
-/
import Derived.Test.YtjfkmgicbakmgaaGreatRows
import Derived.WalkKit
import Derived.ProofKit
import Derived.OpenShut
import Derived.Outline
import Derived.Deep.Light
import Derived.Deep.QuietTactic
import Derived.BigQuiet
import Derived.IntWalk
import Derived.StillTailTactics
import Derived.RegionTactic
import Derived.Deep.RegionLaw
import Derived.Deep.RegionHeld3
import Derived.Test.YtjfkmgicbakmgaaGreatJStoreList
namespace Go.Proofs.YtjfkmgicbakmgaaGreat.Sto
open Go.ChangeShapes Go.WideShapes Go.ChangeAt Go.RowKit
set_option maxRecDepth 100000

abbrev nilS : Value := .slice none 0 0
abbrev noParts : Value := .agg #[nilS, nilS, nilS, nilS, nilS, nilS, nilS]
abbrev noCells : List Value := [nilS, nilS, nilS, nilS, nilS, nilS, nilS]
theorem pieces_nil (w : World) : Calls Tryz.prog 76 #[nilS, nilS] w fun e w' => e = .returned (.bool true) ∧ w = w' := by
  go_enter Tryz.func76, Tryz.ntmps76
  go_wp2_with fail
  go_loopw [5] (fun s5 wr => s5 = .int .i64 0 ∧ wr = w) (fun _ _ => 0)
  case atStart => exact ⟨rfl, rfl⟩
  case round =>
    obtain ⟨rfl, rfl⟩ := hrel
    go_wp2
    go_ret
    exact ⟨rfl, rfl⟩
theorem parts_nil (w : World) : Calls Tryz.prog 22 #[nilp] w fun e w' => e = .returned noParts ∧ Kept Old w w' := by
  go_enter Tryz.func22, Tryz.ntmps22
  go_wp2
  have b := Blk.new w 44 noCells
  have k : Kept Old w (w.alloc (.cells noCells.toArray 44)) := (Kept.refl Old w).alloc _
  have r0 := b.cell 0
  have r1 := b.cell 1
  have r2 := b.cell 2
  have r3 := b.cell 3
  have r4 := b.cell 4
  have r5 := b.cell 5
  have r6 := b.cell 6
  generalize hW : w.alloc (.cells noCells.toArray 44) = W at *
  clear hW b
  exact bodyPost_ret (v := noParts) (by simp [results, Tryz.results22, go_sem, r0, r1, r2, r3, r4, r5, r6]) rfl ⟨rfl, k⟩
theorem sameparts_nil (w : World) : Calls Tryz.prog 27 #[noParts, noParts] w fun e w' => e = .returned (.bool true) ∧ Kept Old w w' := by
  have PC := Lib.hid pieces_nil
  have K := Lib.hid (((Kept.refl Old w).alloc (.cells noCells.toArray 44)).alloc (.cells noCells.toArray 44))
  go_enter Tryz.func27, Tryz.ntmps27
  go_wp2_with (first
    | (go_at_call 76; refine (PC.out _).mono ?_; rintro e X ⟨rfl, rfl⟩))
  go_ret
  exact ⟨rfl, K.out⟩
set_option maxHeartbeats 1000000 in
theorem awake_any (w : World) : Calls Tryz.prog 17 #[] w fun e w' => e = .returned (.bool true) ∧ Kept Old w w' := by
  have NS := Lib.hid (snew_yes w 8 (fun _ => False) w (by omega) (by omega) (Kept.refl Old w) (fun _ h => h.elim))
  have V0 := Lib.hid (show Sv 8 (K0 8) [] from Sv.new (P := 8) (by omega) (by omega))
  have E1 := Lib.hid (show (allocR 8 (K0 8) [] 40).2.2 = (0, 0) from by decide)
  have E2 := Lib.hid (show (allocR 8 (allocR 8 (K0 8) [] 40).1 (allocR 8 (K0 8) [] 40).2.1 512).2.2 = (0, 3) from by decide)
  have E3 := Lib.hid (show (allocR 8 (allocR 8 (K0 8) [] 40).1 (allocR 8 (K0 8) [] 40).2.1 512).2.1.length = 1 from by decide)
  have V1 := Lib.hid (V0.out.allocR 40)
  have AL := Lib.hid (fun (W : World) (s : Nat) (pl : Pl) (m : StM w W s 8 (K0 8) [] (fun _ => False) pl) => salloc_any 40 m V0.out)
  generalize allocR 8 (K0 8) [] 40 = R1 at *
  have V2 := Lib.hid (V1.out.allocR 512)
  have AM := Lib.hid (fun (W : World) (s : Nat) (pl : Pl) (m : StM w W s 8 R1.1 R1.2.1 (fun _ => False) pl) => salloc_any 512 m V1.out)
  generalize allocR 8 R1.1 R1.2.1 512 = R2 at *
  obtain ⟨k1, l1, a1, e1⟩ := R1
  obtain ⟨k2, l2, a2, e2⟩ := R2
  obtain ⟨rfl, rfl⟩ : a1 = 0 ∧ e1 = 0 := by have := E1.out; simpa using this
  obtain ⟨rfl, rfl⟩ : a2 = 0 ∧ e2 = 3 := by have := E2.out; simpa using this
  clear E1 E2
  go_enter Tryz.func17, Tryz.ntmps17
  go_wp2_with fail
  refine NS.out.mono ?_
  rintro e W1 ⟨s, rfl, ⟨pl, m⟩, k1', _⟩
  have M := Lib.hid m
  clear m NS
  go_wp2_with fail
  refine (AL.out _ _ _ M.out).mono ?_
  rintro e W2 ⟨rfl, ⟨pl2, m, _⟩, f2⟩
  have M2 := Lib.hid m
  clear m f2 k1' M
  go_wp2_with fail
  refine (AM.out _ _ _ M2.out).mono ?_
  rintro e W3 ⟨rfl, ⟨pl3, m, _⟩, f3⟩
  have M3 := Lib.hid m
  clear m f3 M2
  go_wp2_with fail
  refine (slive_any M3.out (by have := E3.out; omega)).mono ?_
  rintro e W4 ⟨v, rfl, A, n, c, rfl, r, _, _, K4⟩
  have KW := Lib.hid (show Kept Old w W4 from M3.out.ff.kept.trans K4)
  obtain rfl : n = 1 := r.1.symm.trans E3.out
  clear r K4 E3
  go_wp2_with fail
  go_ret
  exact ⟨rfl, KW.out⟩
end Go.Proofs.YtjfkmgicbakmgaaGreat.Sto
