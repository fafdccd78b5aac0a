/-
  Chapter 7's example (awake), and what the calls answer of no heap. Own work; each is proved by a walk through the landed text.
-/
import Derived.Test.YtdolchlhphoggaaRows
import Derived.Test.YtdolchlhphoggaaHeapFree
import Derived.Test.YtdolchlhphoggaaHeapRuns
namespace Go.Proofs.Ytdolchlhphoggaa
open Go.ChangeShapes Go.WideShapes Go.ChangeAt Go.RowKit
set_option maxRecDepth 100000

/-- No block. -/
abbrev F0 (_ : Nat) : Prop := False
set_option maxHeartbeats 1000000 in
theorem awakeH_any (w : World) : Calls Try.prog 9 #[] w fun e w' => e = .returned (.bool true) ∧ Kept Old w w' := by
  have E1 : allocA [(0, 4)] [] 3 0 = ⟨0, 0, [(3, 1)], [⟨0, 3, 0⟩]⟩ := by rfl
  have E2 : allocA [(3, 1)] [⟨0, 3, 0⟩] 2 0 = ⟨0, 3, [(3, 1)], [⟨0, 3, 0⟩]⟩ := by rfl
  have E3 : freeA [(3, 1)] [⟨0, 3, 0⟩] 0 = ⟨⟨0, 3, 0⟩, 0, [(0, 4)], []⟩ := by rfl
  have E4 : fitsB [(0, 4)] 2 = true := by rfl
  have E1 := Lib.hid E1
  have E2 := Lib.hid E2
  have E3 := Lib.hid E3
  have E4 := Lib.hid E4
  go_enter Try.func9, Try.ntmps9
  go_wp2_with fail
  refine (hp_new w 4 F0 w (by omega) (by omega) (Kept.refl _ _) (fun _ h => h.elim)).mono ?_
  rintro e W1 ⟨h, rfl, H1, -⟩
  have H1 := Lib.hid H1
  go_wp2_with fail
  refine (hp_alloc 3 0 H1.out).mono ?_
  rw [E1.out]
  rintro e W2 ⟨rfl, H2, -⟩
  have H2 := Lib.hid H2
  clear H1
  go_wp2_with fail
  refine (hp_alloc 2 0 H2.out).mono ?_
  rw [E2.out]
  rintro e W3 ⟨rfl, H3, -⟩
  have H3 := Lib.hid H3
  clear H2
  go_wp2_with fail
  refine (hp_free 0 H3.out).mono ?_
  rw [E3.out]
  rintro e W4 ⟨rfl, H4, -⟩
  have H5 := Lib.hid (H4.old ((Kept.refl Old W4).alloc (.cells #[.int .i64 0, .int .i64 3, .int .i64 0] 44)))
  clear H3 H4
  go_wp2_with fail
  refine (hp_fits 2 H5.out).mono ?_
  rw [E4.out]
  rintro e W6 ⟨rfl, k6⟩
  have H6 := Lib.hid (H5.out.old k6)
  clear k6
  go_wp2_with fail
  refine (hp_pages H6.out).mono ?_
  rintro e W7 ⟨rfl, rfl⟩
  have K := Lib.hid H6.out.kept
  go_wp2
  go_ret
  exact ⟨rfl, K.out⟩

/-! ### Of no heap -/
theorem halloc_nil (n cl : Int) (w : World) : Calls Try.prog 18 #[.pointer none, .int .i64 n, .int .i64 cl] w fun e w' => e = .returned (.tuple #[.int .i64 0, .int .i64 2]) ∧ w = w' := by
  go_enter Try.func18, Try.ntmps18
  go_wp2
  go_ret2
  exact ⟨rfl, rfl⟩
theorem hof_nil (p : Int) (w : World) : Calls Try.prog 15 #[.pointer none, .int .i64 p] w fun e w' => e = .returned (.tuple #[spn noS, .bool false]) ∧ Kept Old w w' := by
  go_enter Try.func15, Try.ntmps15
  go_wp2
  exact bodyPost_ret (v := .tuple #[spn noS, .bool false]) (by simp [results, Try.results15, go_sem]) rfl ⟨rfl, (Kept.refl _ _).alloc _⟩
theorem hfree_nil (p : Int) (w : World) : Calls Try.prog 19 #[.pointer none, .int .i64 p] w fun e w' => e = .returned (.tuple #[spn noS, .int .i64 2]) ∧ Kept Old w w' := by
  have k0 := Lib.hid ((Kept.refl Old w).alloc (.cells #[.int .i64 0, .int .i64 0, .int .i64 0] 44))
  have B0 := Lib.hid (BxS.new w noS)
  go_enter Try.func19, Try.ntmps19
  go_wp2_with fail
  refine (hof_nil p _).mono ?_
  rintro e W1 ⟨rfl, k1⟩
  have K := Lib.hid (k0.out.trans k1)
  have hb := Blk.lt (B0.out.old k1)
  have b0 := (B0.out.old k1).c0
  have b1 := (B0.out.old k1).c1
  have b2 := (B0.out.old k1).c2
  have bf := Blk.frozen (B0.out.old k1)
  obtain ⟨V, hV, _, _, _, KV, BV, _⟩ := (B0.out.old k1).end3 K.out (Nat.le_refl _) noS
  have KV := Lib.hid KV
  have v0 := fun o => (BxS.alloc BV o).c0
  have v1 := fun o => (BxS.alloc BV o).c1
  have v2 := fun o => (BxS.alloc BV o).c2
  generalize w.heap.size = s at *
  clear k0 k1 B0
  go_wp2
  exact bodyPost_ret (v := .tuple #[spn noS, .int .i64 2]) (by simp [results, Try.results19, go_sem, v0, v1, v2]) rfl ⟨rfl, KV.out.alloc _⟩
theorem hruns_nil (w : World) : Calls Try.prog 20 #[.pointer none] w fun e w' => e = .returned (.slice none 0 0) ∧ w = w' := by
  go_enter Try.func20, Try.ntmps20
  go_wp2
  go_ret
  exact ⟨rfl, rfl⟩
theorem hspans_nil (w : World) : Calls Try.prog 21 #[.pointer none] w fun e w' => e = .returned (.slice none 0 0) ∧ w = w' := by
  go_enter Try.func21, Try.ntmps21
  go_wp2
  go_ret
  exact ⟨rfl, rfl⟩
theorem hfits_nil (n : Int) (w : World) : Calls Try.prog 12 #[.pointer none, .int .i64 n] w fun e w' => e = .returned (.bool false) ∧ w = w' := by
  go_enter Try.func12, Try.ntmps12
  go_wp2
  go_ret
  exact ⟨rfl, rfl⟩
theorem hpages_nil (w : World) : Calls Try.prog 17 #[.pointer none] w fun e w' => e = .returned (.int .i64 0) ∧ w = w' := by
  go_enter Try.func17, Try.ntmps17
  go_wp2
  go_ret
  exact ⟨rfl, rfl⟩
end Go.Proofs.Ytdolchlhphoggaa
