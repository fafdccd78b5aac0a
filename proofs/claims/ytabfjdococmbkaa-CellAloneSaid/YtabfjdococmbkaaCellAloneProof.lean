/-
  For every input the law CellAlone of rickyard/rickyardlaw4 returns true, and its arguments read afterwards as before. The law's own sentence: At no time two tickets have their turn; a lock is held just if one has; of one that may not be nobody has, takes, or leaves. No further conditions.
-/
import Derived.Test.YtabfjdococmbkaaRows
import Derived.Test.YtabfjdococmbkaaKept
import Derived.Test.YtabfjdococmbkaaShell
import Derived.WalkKit
import Derived.ProofKit
import Derived.OpenShut
import Derived.ChangeOld
import Derived.Below
import Derived.Lib.SmallJoins
import Derived.Test.YtabfjdococmbkaaCellAwake
import Derived.Deep.RegionHeld3
namespace Go.Proofs.Ytabfjdococmbkaa.cellAlone
open Go.ChangeShapes Go.WideShapes Go.ChangeAt Go.RowKit
set_option linter.unusedVariables false
set_option maxRecDepth 100000

theorem own : ownKnob Try.prog.godebug = none := by kernel_rfl
theorem laidOut : laidOutB Try.prog = true := by kernel_rfl
theorem cell_on {w w' : World} (k : Kept Old w w') {p : Addr} {v : Value} (h : w.cell? p = some v) : w'.cell? p = some v := (k.cell (block_lt_of_cell h) (fun x => x)).trans h
theorem take_may (n t : Int) (w : World) (h : mayB n t = true) : Calls Try.prog 8 #[lock n t] w fun e w' => e = .returned (.tuple #[lock (takeN n t) (takeT n t), .int .i64 (takeK n t), .bool (decide (n < 2305843009213693952))]) ∧ Kept Old w w' := by
  have := take_any n t w
  rwa [show takeB n t = decide (n < 2305843009213693952) by unfold takeB; rw [h]; rfl] at this
theorem mine_lit {n t a : Int} {A : Bool} (h : (heldB n t && decide (a = t)) = A) (w : World) : Calls Try.prog 14 #[lock n t, .int .i64 a] w fun e w' => e = .returned (.bool A) ∧ Kept Old w w' := by
  subst h; exact mine_any n t a w
theorem held_lit {n t : Int} {A : Bool} (h : heldB n t = A) (w : World) : Calls Try.prog 16 #[lock n t] w fun e w' => e = .returned (.bool A) ∧ Kept Old w w' := by
  subst h; exact held_any n t w
theorem self_lit {n t : Int} {A : Bool} (h : heldB n t = A) (w : World) : Calls Try.prog 14 #[lock n t, .int .i64 t] w fun e w' => e = .returned (.bool A) ∧ Kept Old w w' := by
  have := mine_any n t t w
  rwa [h, decide_eq_true rfl, Bool.and_true] at this
theorem leave_lit {n t : Int} {A : Bool} (h : heldB n t = A) (w : World) : Calls Try.prog 10 #[lock n t] w fun e w' => e = .returned (.tuple #[lock (leaveN n t) (leaveT n t), .bool A]) ∧ Kept Old w w' := by
  subst h; exact leave_any n t w
theorem ways (n t a b : Int) : (heldB n t = false ∧ (heldB n t && decide (a = t)) = false ∧ True ∧ True) ∨ (heldB n t = true ∧ (heldB n t && decide (a = t)) = false ∧ True ∧ True) ∨ (heldB n t = true ∧ (heldB n t && decide (a = t)) = true ∧ (heldB n t && decide (b = t)) = true ∧ t = a ∧ t = b) ∨ (heldB n t = true ∧ (heldB n t && decide (a = t)) = true ∧ (heldB n t && decide (b = t)) = false ∧ t = a) := by
  by_cases c : t = a
  · subst c
    by_cases d : t = b
    · subst d; cases heldB n t <;> simp
    · have d' : ¬ b = t := fun x => d x.symm
      cases heldB n t <;> simp [d']
  · have c' : ¬ a = t := fun x => c x.symm
    cases heldB n t <;> simp [c']
set_option maxHeartbeats 8000000 in
/-- A lock that may not be. -/
theorem not_may (n t a b : Int) (w : World) (hm : mayB n t = false) : Calls Try.prog 6 #[lock n t, .int .i64 a, .int .i64 b] w fun e w' => e = .returned (.bool true) ∧ Kept Old w w' := by
  have hh : heldB n t = false := by cases e : heldB n t; · rfl
                                    · rw [may_held e] at hm; cases hm
  have hm := Lib.hid hm
  have hH := Lib.hid hh
  have hw : Hid (waitN n t = 0) := by show _ = _; unfold waitN; rw [hh]; rfl
  clear hh
  go_enter Try.func6, Try.ntmps6
  go_wp2_with fail
  refine (mine_no _ (fun x => by rw [hH.out] at x; cases x)).mono ?_
  rintro e w1 ⟨rfl, k⟩
  have b0 := (Box.new w n t).old k
  have B0 := Lib.hid b0
  have h0 := b0.c0
  have h1 := b0.c1
  have l1 := Blk.lt b0
  have K := Lib.hid (((Kept.refl Old w).alloc _).trans k)
  clear k b0
  go_wp2_with fail
  refine (take_not _ _ _ hm.out).mono ?_
  rintro e w2 ⟨rfl, k⟩
  have b0 := B0.out.old k
  have K := Lib.hid (K.out.trans k)
  clear h0 h1 l1 k
  have B0 := Lib.hid b0
  have h0 := b0.c0
  have h1 := b0.c1
  have l1 := Blk.lt b0
  clear b0
  go_wp2_with fail
  refine (leave_no _ _ _ hH.out).mono ?_
  rintro e w3 ⟨rfl, k⟩
  have b0 := (B0.out.alloc _).old k
  have K := Lib.hid ((K.out.alloc _).trans k)
  clear h0 h1 l1 k
  have B0 := Lib.hid b0
  have h0 := b0.c0
  have h1 := b0.c1
  have l1 := Blk.lt b0
  clear b0
  go_wp2_with fail
  refine (may_any _ _ _).mono ?_
  rintro e w4 ⟨rfl, k⟩
  rw [hm.out]
  have b0 := (B0.out.alloc _).old k
  have K := Lib.hid ((K.out.alloc _).trans k)
  clear h0 h1 l1 k
  have B0 := Lib.hid b0
  have h0 := b0.c0
  have h1 := b0.c1
  have l1 := Blk.lt b0
  clear b0
  go_wp2_with fail
  refine (held_any _ _ _).mono ?_
  rintro e w5 ⟨rfl, k⟩
  rw [hH.out]
  have b0 := B0.out.old k
  have K := Lib.hid (K.out.trans k)
  clear h0 h1 l1 k
  have B0 := Lib.hid b0
  have h0 := b0.c0
  have h1 := b0.c1
  clear b0
  go_wp2_with fail
  refine (mine_no _ (fun x => by rw [hH.out] at x; cases x)).mono ?_
  rintro e w6 ⟨rfl, k⟩
  have b0 := B0.out.old k
  have K := Lib.hid (K.out.trans k)
  clear h0 h1 k
  have h0 := b0.c0
  have h1 := b0.c1
  clear b0
  go_wp2_with fail
  refine (wait_any _ _ _).mono ?_
  rintro e w7 ⟨rfl, k⟩
  rw [hw.out]
  have K := Lib.hid (K.out.trans k)
  clear k
  go_wp2_with fail
  refine (awake_any _).mono ?_
  rintro e w8 ⟨rfl, k⟩
  go_wp2_with fail
  go_ret
  exact ⟨rfl, K.out.trans k⟩
set_option maxHeartbeats 8000000 in
/-- A lock that may be, and it is not a's turn. -/
theorem not_mine (a0_0 a0_1 a1 a2 : Int) (h : Bool) (w : World) (hm : Hid (mayB a0_0 a0_1 = true)) (hH : heldB a0_0 a0_1 = h) (ca : (heldB a0_0 a0_1 && decide (a1 = a0_1)) = false) : Calls Try.prog 6 #[lock a0_0 a0_1, .int .i64 a1, .int .i64 a2] w fun e w' => e = .returned (.bool true) ∧ Kept Old w w' := by
  have qA := Lib.hid (mine_lit ca)
  have qH := Lib.hid (held_lit hH)
  have qS := Lib.hid (self_lit hH)
  have qL := Lib.hid (leave_lit hH)
  clear ca hH
  go_enter Try.func6, Try.ntmps6
  go_wp2_with fail
  refine (qA.out _).mono ?_
  rintro e w1 ⟨rfl, k⟩
  have b0 := (Box.new w _ _).old k
  have B0 := Lib.hid b0
  have h0 := b0.c0
  have h1 := b0.c1
  have l1 := Blk.lt b0
  have K := Lib.hid (((Kept.refl Old w).alloc _).trans k)
  clear k b0
  go_wp2_with fail
  refine (take_may _ _ _ hm.out).mono ?_
  rintro e w2 ⟨rfl, k⟩
  have b0 := B0.out.old k
  have K := Lib.hid (K.out.trans k)
  clear h0 h1 l1 k
  have B0 := Lib.hid b0
  have h0 := b0.c0
  have h1 := b0.c1
  have l1 := Blk.lt b0
  clear b0
  go_wp2_with fail
  refine (qL.out _).mono ?_
  rintro e w3 ⟨rfl, k⟩
  have b0 := (B0.out.alloc _).old k
  have K := Lib.hid ((K.out.alloc _).trans k)
  clear h0 h1 l1 k
  have B0 := Lib.hid b0
  have h0 := b0.c0
  have h1 := b0.c1
  have l1 := Blk.lt b0
  clear b0
  go_wp2_with fail
  refine (may_any _ _ _).mono ?_
  rintro e w4 ⟨rfl, k⟩
  rw [hm.out]
  have b0 := (B0.out.alloc _).old k
  have K := (K.out.alloc _).trans k
  clear h0 h1 l1 k
  have h0 := b0.c0
  have h1 := b0.c1
  clear b0 B0
  go_wp2_with fail
  generalize hs0 : w.heap.size = s0 at *
  refine wp_region_held_drew (S := (fun w' => Kept Old w w' ∧ w'.cell? ⟨s0, 0, none⟩ = some (.int .i64 a0_0) ∧ w'.cell? ⟨s0, 1, none⟩ = some (.int .i64 a0_1))) (by kernel_rfl) ⟨Kept.drew K, h0, h1⟩ (fun hHeld => ?_)
  refine wpAnyH_take (i := 0) (v := .agg #[.int .i64 a0_0, .int .i64 a0_1]) rfl (by kernel_rfl) (by kernel_rfl) (by kernel_rfl) (fun _ _ _ h => h) (Or.inl ⟨by rfl, fun w' hSw => ?_⟩) hHeld ?_
  · (go_simp)
  simp only [Act.put, List.getElem_toArray, List.getElem_cons_zero, List.setIfInBounds_toArray, List.set_cons_zero, List.set_cons_succ]
  refine wpAnyH_take (i := 2) (v := .agg #[.int .i64 a0_0, .int .i64 a0_1]) rfl (by kernel_rfl) (by kernel_rfl) (by kernel_rfl) (fun _ _ _ h => h) (Or.inl ⟨by rfl, fun w' hSw => ?_⟩) hHeld ?_
  · (go_simp)
  simp only [Act.put, List.getElem_toArray, List.getElem_cons_succ, List.getElem_cons_zero, List.setIfInBounds_toArray, List.set_cons_zero, List.set_cons_succ]
  refine wpAnyH_take (i := 3) (v := .pointer (some ⟨s0, 1, none⟩)) rfl (by kernel_rfl) (by kernel_rfl) (by kernel_rfl) (fun _ _ _ h => h) (Or.inl ⟨by rfl, fun w' hSw => ?_⟩) hHeld ?_
  · (go_simp)
  simp only [Act.put, List.getElem_toArray, List.getElem_cons_succ, List.getElem_cons_zero, List.setIfInBounds_toArray, List.set_cons_zero, List.set_cons_succ]
  refine wpAnyH_take (i := 4) (v := .int .i64 a0_1) rfl (by kernel_rfl) (by kernel_rfl) (by kernel_rfl) (fun _ _ _ h => h) (Or.inl ⟨by rfl, fun w' hSw => ?_⟩) hHeld ?_
  · (go_simp)
  simp only [Act.put, List.getElem_toArray, List.getElem_cons_succ, List.getElem_cons_zero, List.setIfInBounds_toArray, List.set_cons_zero, List.set_cons_succ]
  refine wpAnyH_ready (rs := [1]) (by kernel_rfl) (by simp) (AllReadyH.cons rfl (fun K hK => ?_) AllReadyH.nil)
  simp only [List.getElem_toArray, List.getElem_cons_succ, List.getElem_cons_zero]
  rw [if_pos (by rfl)]
  go_simp
  go_at_call 16
  refine (qH.out _).mono ?_
  rintro e w' ⟨rfl, k⟩
  refine hK.out _ _ ⟨hHeld.1.trans k, cell_on k hHeld.2.1, cell_on k hHeld.2.2⟩ (fun hHeld => ?_)
  clear hK K k
  refine wpAnyH_ready (rs := [5]) (by kernel_rfl) (by simp) (AllReadyH.cons rfl (fun K hK => ?_) AllReadyH.nil)
  simp only [List.getElem_toArray, List.getElem_cons_succ, List.getElem_cons_zero]
  rw [if_pos (by rfl)]
  go_simp
  go_at_call 14
  refine (qS.out _).mono ?_
  rintro e w' ⟨rfl, k⟩
  refine hK.out _ _ ⟨hHeld.1.trans k, cell_on k hHeld.2.1, cell_on k hHeld.2.2⟩ (fun hHeld => ?_)
  clear hK K k
  refine wpAnyH_take (i := 6) (v := .bool true) rfl (by kernel_rfl) (by kernel_rfl) (by kernel_rfl) (fun _ _ _ h => h) (Or.inl ⟨by rfl, fun w' hSw => ?_⟩) hHeld ?_
  · (go_simp)
  simp only [Act.put, List.getElem_toArray, List.getElem_cons_succ, List.getElem_cons_zero, List.setIfInBounds_toArray, List.set_cons_zero, List.set_cons_succ]
  refine wpAnyH_take (i := 7) (v := .bool true) rfl (by kernel_rfl) (by kernel_rfl) (by kernel_rfl) (fun _ _ _ h => h) (Or.inl ⟨by rfl, fun w' hSw => ?_⟩) hHeld ?_
  · (go_simp)
  simp only [Act.put, List.getElem_toArray, List.getElem_cons_succ, List.getElem_cons_zero, List.setIfInBounds_toArray, List.set_cons_zero, List.set_cons_succ]
  refine wpAnyH_take (i := 8) (v := .bool h) rfl (by kernel_rfl) (by kernel_rfl) (by kernel_rfl) (fun _ _ _ h => h) (Or.inl ⟨by rfl, fun w' hSw => ?_⟩) hHeld ?_
  · (go_simp)
  simp only [Act.put, List.getElem_toArray, List.getElem_cons_succ, List.getElem_cons_zero, List.setIfInBounds_toArray, List.set_cons_zero, List.set_cons_succ]
  refine wpAnyH_take (i := 9) (v := .agg #[.int .i64 a0_0, .int .i64 a0_1]) rfl (by kernel_rfl) (by kernel_rfl) (by kernel_rfl) (fun _ _ _ h => h) (Or.inl ⟨by rfl, fun w' hSw => ?_⟩) hHeld ?_
  · (go_simp)
  simp only [Act.put, List.getElem_toArray, List.getElem_cons_succ, List.getElem_cons_zero, List.setIfInBounds_toArray, List.set_cons_zero, List.set_cons_succ]
  refine wpAnyH_ready (rs := [10]) (by kernel_rfl) (by simp) (AllReadyH.cons rfl (fun K hK => ?_) AllReadyH.nil)
  simp only [List.getElem_toArray, List.getElem_cons_succ, List.getElem_cons_zero]
  rw [if_pos (by rfl)]
  go_simp
  go_at_call 16
  refine (qH.out _).mono ?_
  rintro e w' ⟨rfl, k⟩
  refine hK.out _ _ ⟨hHeld.1.trans k, cell_on k hHeld.2.1, cell_on k hHeld.2.2⟩ (fun hHeld => ?_)
  clear hK K k
  refine wpAnyH_take (i := 11) (v := .bool true) rfl (by kernel_rfl) (by kernel_rfl) (by kernel_rfl) (fun _ _ _ h => h) (Or.inl ⟨by rfl, fun w' hSw => ?_⟩) hHeld ?_
  · (go_simp)
  simp only [Act.put, List.getElem_toArray, List.getElem_cons_succ, List.getElem_cons_zero, List.setIfInBounds_toArray, List.set_cons_zero, List.set_cons_succ]
  refine wpAnyH_take (i := 12) (v := .bool true) rfl (by kernel_rfl) (by kernel_rfl) (by kernel_rfl) (fun _ _ _ h => h) (Or.inl ⟨by rfl, fun w' hSw => ?_⟩) hHeld ?_
  · (go_simp)
  simp only [Act.put, List.getElem_toArray, List.getElem_cons_succ, List.getElem_cons_zero, List.setIfInBounds_toArray, List.set_cons_zero, List.set_cons_succ]
  refine wpAnyH_take (i := 13) (v := .bool true) rfl (by kernel_rfl) (by kernel_rfl) (by kernel_rfl) (fun _ _ _ h => h) (Or.inl ⟨by rfl, fun w' hSw => ?_⟩) hHeld ?_
  · (go_simp)
  simp only [Act.put, List.getElem_toArray, List.getElem_cons_succ, List.getElem_cons_zero, List.setIfInBounds_toArray, List.set_cons_zero, List.set_cons_succ]
  refine wpAnyH_take (i := 14) (v := .bool (decide (a0_0 < 2305843009213693952))) rfl (by kernel_rfl) (by kernel_rfl) (by kernel_rfl) (fun _ _ _ h => h) (Or.inl ⟨by rfl, fun w' hSw => ?_⟩) hHeld ?_
  · (go_simp)
  simp only [Act.put, List.getElem_toArray, List.getElem_cons_succ, List.getElem_cons_zero, List.setIfInBounds_toArray, List.set_cons_zero, List.set_cons_succ]
  refine wpAnyH_take (i := 15) (v := .pointer (some ⟨s0, 0, none⟩)) rfl (by kernel_rfl) (by kernel_rfl) (by kernel_rfl) (fun _ _ _ h => h) (Or.inl ⟨by rfl, fun w' hSw => ?_⟩) hHeld ?_
  · (go_simp)
  simp only [Act.put, List.getElem_toArray, List.getElem_cons_succ, List.getElem_cons_zero, List.setIfInBounds_toArray, List.set_cons_zero, List.set_cons_succ]
  refine wpAnyH_take (i := 16) (v := .int .i64 a0_0) rfl (by kernel_rfl) (by kernel_rfl) (by kernel_rfl) (fun _ _ _ h => h) (Or.inl ⟨by rfl, fun w' hSw => ?_⟩) hHeld ?_
  · (go_simp)
  simp only [Act.put, List.getElem_toArray, List.getElem_cons_succ, List.getElem_cons_zero, List.setIfInBounds_toArray, List.set_cons_zero, List.set_cons_succ]
  refine wpAnyH_take (i := 17) (v := .bool (decide (a0_0 < 2305843009213693952))) rfl (by kernel_rfl) (by kernel_rfl) (by kernel_rfl) (fun _ _ _ h => h) (Or.inl ⟨by rfl, fun w' hSw => ?_⟩) hHeld ?_
  · (go_simp)
  simp only [Act.put, List.getElem_toArray, List.getElem_cons_succ, List.getElem_cons_zero, List.setIfInBounds_toArray, List.set_cons_zero, List.set_cons_succ]
  refine wpAnyH_take (i := 18) (v := .bool true) rfl (by kernel_rfl) (by kernel_rfl) (by kernel_rfl) (fun _ _ _ h => h) (Or.inl ⟨by rfl, fun w' hSw => ?_⟩) hHeld ?_
  · (go_simp)
  simp only [Act.put, List.getElem_toArray, List.getElem_cons_succ, List.getElem_cons_zero, List.setIfInBounds_toArray, List.set_cons_zero, List.set_cons_succ]
  refine wpAnyH_take (i := 19) (v := .bool true) rfl (by kernel_rfl) (by kernel_rfl) (by kernel_rfl) (fun _ _ _ h => h) (Or.inl ⟨by rfl, fun w' hSw => ?_⟩) hHeld ?_
  · (go_simp)
  simp only [Act.put, List.getElem_toArray, List.getElem_cons_succ, List.getElem_cons_zero, List.setIfInBounds_toArray, List.set_cons_zero, List.set_cons_succ]
  refine wpAnyH_take (i := 20) (v := .bool true) rfl (by kernel_rfl) (by kernel_rfl) (by kernel_rfl) (fun _ _ _ h => h) (Or.inl ⟨by rfl, fun w' hSw => ?_⟩) hHeld ?_
  · (go_simp)
  simp only [Act.put, List.getElem_toArray, List.getElem_cons_succ, List.getElem_cons_zero, List.setIfInBounds_toArray, List.set_cons_zero, List.set_cons_succ]
  refine wpAnyH_take (i := 21) (v := .agg #[.int .i64 a0_0, .int .i64 a0_1]) rfl (by kernel_rfl) (by kernel_rfl) (by kernel_rfl) (fun _ _ _ h => h) (Or.inl ⟨by rfl, fun w' hSw => ?_⟩) hHeld ?_
  · (go_simp)
  simp only [Act.put, List.getElem_toArray, List.getElem_cons_succ, List.getElem_cons_zero, List.setIfInBounds_toArray, List.set_cons_zero, List.set_cons_succ]
  refine wpAnyH_take (i := 22) (v := .int .i64 a1) rfl (by kernel_rfl) (by kernel_rfl) (by kernel_rfl) (fun _ _ _ h => h) (Or.inl ⟨by rfl, fun w' hSw => ?_⟩) hHeld ?_
  · (go_simp)
  simp only [Act.put, List.getElem_toArray, List.getElem_cons_succ, List.getElem_cons_zero, List.setIfInBounds_toArray, List.set_cons_zero, List.set_cons_succ]
  refine wpAnyH_ready (rs := [23]) (by kernel_rfl) (by simp) (AllReadyH.cons rfl (fun K hK => ?_) AllReadyH.nil)
  simp only [List.getElem_toArray, List.getElem_cons_succ, List.getElem_cons_zero]
  rw [if_pos (by rfl)]
  go_simp
  go_at_call 14
  refine (qA.out _).mono ?_
  rintro e w' ⟨rfl, k⟩
  refine hK.out _ _ ⟨hHeld.1.trans k, cell_on k hHeld.2.1, cell_on k hHeld.2.2⟩ (fun hHeld => ?_)
  clear hK K k
  refine wpAnyH_take (i := 24) (v := .bool true) rfl (by kernel_rfl) (by kernel_rfl) (by kernel_rfl) (fun _ _ _ h => h) (Or.inl ⟨by rfl, fun w' hSw => ?_⟩) hHeld ?_
  · (go_simp)
  simp only [Act.put, List.getElem_toArray, List.getElem_cons_succ, List.getElem_cons_zero, List.setIfInBounds_toArray, List.set_cons_zero, List.set_cons_succ]
  refine wpAnyH_take (i := 25) (v := .bool true) rfl (by kernel_rfl) (by kernel_rfl) (by kernel_rfl) (fun _ _ _ h => h) (Or.inl ⟨by rfl, fun w' hSw => ?_⟩) hHeld ?_
  · (go_simp)
  simp only [Act.put, List.getElem_toArray, List.getElem_cons_succ, List.getElem_cons_zero, List.setIfInBounds_toArray, List.set_cons_zero, List.set_cons_succ]
  refine wpAnyH_take (i := 26) (v := undef) rfl (by kernel_rfl) (by kernel_rfl) (by kernel_rfl) (fun _ _ _ h => h) (Or.inr ⟨by rfl, rfl⟩) hHeld ?_
  simp only [Act.put, List.getElem_toArray, List.getElem_cons_succ, List.getElem_cons_zero, List.setIfInBounds_toArray, List.set_cons_zero, List.set_cons_succ]
  refine wpAnyH_take (i := 27) (v := undef) rfl (by kernel_rfl) (by kernel_rfl) (by kernel_rfl) (fun _ _ _ h => h) (Or.inr ⟨by rfl, rfl⟩) hHeld ?_
  simp only [Act.put, List.getElem_toArray, List.getElem_cons_succ, List.getElem_cons_zero, List.setIfInBounds_toArray, List.set_cons_zero, List.set_cons_succ]
  refine wpAnyH_take (i := 28) (v := undef) rfl (by kernel_rfl) (by kernel_rfl) (by kernel_rfl) (fun _ _ _ h => h) (Or.inr ⟨by rfl, rfl⟩) hHeld ?_
  simp only [Act.put, List.getElem_toArray, List.getElem_cons_succ, List.getElem_cons_zero, List.setIfInBounds_toArray, List.set_cons_zero, List.set_cons_succ]
  refine wpAnyH_take (i := 29) (v := undef) rfl (by kernel_rfl) (by kernel_rfl) (by kernel_rfl) (fun _ _ _ h => h) (Or.inr ⟨by rfl, rfl⟩) hHeld ?_
  simp only [Act.put, List.getElem_toArray, List.getElem_cons_succ, List.getElem_cons_zero, List.setIfInBounds_toArray, List.set_cons_zero, List.set_cons_succ]
  refine wpAnyH_take (i := 30) (v := .bool true) rfl (by kernel_rfl) (by kernel_rfl) (by kernel_rfl) (fun _ _ _ h => h) (Or.inl ⟨by rfl, fun w' hSw => ?_⟩) hHeld ?_
  · (go_simp)
  simp only [Act.put, List.getElem_toArray, List.getElem_cons_succ, List.getElem_cons_zero, List.setIfInBounds_toArray, List.set_cons_zero, List.set_cons_succ]
  refine wpAnyH_take (i := 31) (v := .bool true) rfl (by kernel_rfl) (by kernel_rfl) (by kernel_rfl) (fun _ _ _ h => h) (Or.inl ⟨by rfl, fun w' hSw => ?_⟩) hHeld ?_
  · (go_simp)
  simp only [Act.put, List.getElem_toArray, List.getElem_cons_succ, List.getElem_cons_zero, List.setIfInBounds_toArray, List.set_cons_zero, List.set_cons_succ]
  refine wpAnyH_take (i := 32) (v := .bool true) rfl (by kernel_rfl) (by kernel_rfl) (by kernel_rfl) (fun _ _ _ h => h) (Or.inl ⟨by rfl, fun w' hSw => ?_⟩) hHeld ?_
  · (go_simp)
  simp only [Act.put, List.getElem_toArray, List.getElem_cons_succ, List.getElem_cons_zero, List.setIfInBounds_toArray, List.set_cons_zero, List.set_cons_succ]
  refine wpAnyH_ready (rs := [33]) (by kernel_rfl) (by simp) (AllReadyH.cons rfl (fun K hK => ?_) AllReadyH.nil)
  simp only [List.getElem_toArray, List.getElem_cons_succ, List.getElem_cons_zero]
  rw [if_pos (by rfl)]
  go_simp
  go_at_call 20
  refine (awake_any _).mono ?_
  rintro e w' ⟨rfl, k⟩
  refine hK.out _ _ ⟨hHeld.1.trans k, cell_on k hHeld.2.1, cell_on k hHeld.2.2⟩ (fun hHeld => ?_)
  clear hK K k
  refine wpAnyH_take (i := 34) (v := .bool true) rfl (by kernel_rfl) (by kernel_rfl) (by kernel_rfl) (fun _ _ _ h => h) (Or.inl ⟨by rfl, fun w' hSw => ?_⟩) hHeld ?_
  · (go_simp)
  simp only [Act.put, List.getElem_toArray, List.getElem_cons_succ, List.getElem_cons_zero, List.setIfInBounds_toArray, List.set_cons_zero, List.set_cons_succ]
  refine wpAnyH_take (i := 35) (v := .bool true) rfl (by kernel_rfl) (by kernel_rfl) (by kernel_rfl) (fun _ _ _ h => h) (Or.inl ⟨by rfl, fun w' hSw => ?_⟩) hHeld ?_
  · (go_simp)
  simp only [Act.put, List.getElem_toArray, List.getElem_cons_succ, List.getElem_cons_zero, List.setIfInBounds_toArray, List.set_cons_zero, List.set_cons_succ]
  refine wpAnyH_done (by kernel_rfl) ?_ _
  have K6 := Lib.hid (‹Kept Old w _ ∧ _›).1
  go_wp2_with fail
  go_ret
  exact ⟨rfl, K6.out⟩

set_option maxHeartbeats 8000000 in
/-- The walk: the Go text returns true, and nothing that was there has turned. -/
theorem walk (a0_0 : Int) (a0_1 : Int) (a1 : Int) (a2 : Int) (w : World) (w0_0 : (Lit.int .i64 a0_0).wf = true) (w0_1 : (Lit.int .i64 a0_1).wf = true) (w1 : (Lit.int .i64 a1).wf = true) (w2 : (Lit.int .i64 a2).wf = true) :
    Calls Try.prog 6 #[.agg #[.int .i64 a0_0, .int .i64 a0_1], .int .i64 a1, .int .i64 a2] w fun e w' => e = .returned (.bool true) ∧ Kept Old w w' := by
  cases hm : mayB a0_0 a0_1
  · exact not_may _ _ _ _ _ hm
  have hm := Lib.hid hm
  rcases ways a0_0 a0_1 a1 a2 with ⟨hH, ca, cb, cc⟩ | ⟨hH, ca, cb, cc⟩ | ⟨hH, ca, cb, cc, cd⟩ | ⟨hH, ca, cb, cc⟩
  · exact not_mine _ _ _ _ _ _ hm hH ca
  · exact not_mine _ _ _ _ _ _ hm hH ca
  all_goals
    have qA := Lib.hid (mine_lit ca)
    have qH := Lib.hid (held_lit hH)
    have qS := Lib.hid (self_lit hH)
    have qL := Lib.hid (leave_lit hH)
    (try have qB := Lib.hid (mine_lit cb))
    clear ca hH
    (try clear cb)
    (try subst cc)
    (try subst cd)
    go_enter Try.func6, Try.ntmps6
    go_wp2_with fail
    refine (qA.out _).mono ?_
    rintro e w1 ⟨rfl, k⟩
    have b0 := (Box.new w _ _).old k
    have B0 := Lib.hid b0
    have h0 := b0.c0
    have h1 := b0.c1
    have l1 := Blk.lt b0
    have K := Lib.hid (((Kept.refl Old w).alloc _).trans k)
    clear k b0
    go_wp2_with fail
    try
      refine (qB.out _).mono ?_
      rintro e w1' ⟨rfl, k⟩
      have b0 := B0.out.old k
      have K := Lib.hid (K.out.trans k)
      clear h0 h1 l1 k
      have B0 := Lib.hid b0
      have h0 := b0.c0
      have h1 := b0.c1
      have l1 := Blk.lt b0
      clear b0
      go_wp2_with fail
    refine (take_may _ _ _ hm.out).mono ?_
    rintro e w2 ⟨rfl, k⟩
    have b0 := B0.out.old k
    have K := Lib.hid (K.out.trans k)
    clear h0 h1 l1 k
    have B0 := Lib.hid b0
    have h0 := b0.c0
    have h1 := b0.c1
    have l1 := Blk.lt b0
    clear b0
    go_wp2_with fail
    refine (qL.out _).mono ?_
    rintro e w3 ⟨rfl, k⟩
    have b0 := (B0.out.alloc _).old k
    have K := Lib.hid ((K.out.alloc _).trans k)
    clear h0 h1 l1 k
    have B0 := Lib.hid b0
    have h0 := b0.c0
    have h1 := b0.c1
    have l1 := Blk.lt b0
    clear b0
    go_wp2_with fail
    refine (may_any _ _ _).mono ?_
    rintro e w4 ⟨rfl, k⟩
    rw [hm.out]
    have b0 := (B0.out.alloc _).old k
    have K := (K.out.alloc _).trans k
    clear h0 h1 l1 k
    have h0 := b0.c0
    have h1 := b0.c1
    clear b0 B0
    go_wp2_with fail
    generalize hs0 : w.heap.size = s0 at *
    first
    | go_region_held3 (fun w' => Kept Old w w' ∧ w'.cell? ⟨s0, 0, none⟩ = some (.int .i64 a0_0) ∧ w'.cell? ⟨s0, 1, none⟩ = some (.int .i64 a0_1))
      (first
        | (exact ⟨‹_›, ‹_›, ‹_›⟩)
        | (exact ⟨Kept.drew ‹_›, ‹_›, ‹_›⟩)
        | (go_split_ands; exact ⟨Kept.trans ‹_› k, cell_on k ‹_›, cell_on k ‹_›⟩)
        | go_keep)
      (first
        | (go_at_call 14; with_reducible refine (qA.out _).mono ?_; rintro e w' ⟨rfl, k⟩)
        | (go_at_call 14; with_reducible refine (qS.out _).mono ?_; rintro e w' ⟨rfl, k⟩)
        | (go_at_call 16; refine (qH.out _).mono ?_; rintro e w' ⟨rfl, k⟩)
        | (go_at_call 20; refine (awake_any _).mono ?_; rintro e w' ⟨rfl, k⟩))
    | fail
    have K6 := Lib.hid (‹Kept Old w _ ∧ _›).1
    go_wp2_with fail
    go_ret
    exact ⟨rfl, K6.out⟩

/-- The row's step. -/
theorem lifted (os : Os) (started : os.Started) (H : Type) (enc : TypeId × Value → H) :
    ReturnsInHanded {} Try.checked os 6 .any (Rows.cellAloneSpec.pre6 enc Try.prog Try.f6 Rows.cellAloneRow.domain false) (Rows.cellAloneSpec.post enc Try.prog Try.f6 false true false false) := by
  refine returnsInHanded_of_change (C := Try.checked) own started (by kernel_rfl) Try.func6
    (ChangeSpec.witness6 (enc := enc) (C := Try.checked) false ⟨#[], #[.agg #[.int .i64 0, .int .i64 0], .int .i64 0, .int .i64 0], []⟩ 8 (by kernel_rfl) (by kernel_rfl) (by kernel_rfl) (by kernel_rfl)) ?_
  intro W base args ds gs before hval0 hW hcnd _
  have hval : ∀ (j : Nat) t v, Try.f6.params[j]? = some t → args[j]? = some v → Value.okWide Try.prog W .any base t v := hval0
  have hW' := hW
  obtain ⟨p, q, hA0, hV, rfl, hfz, hnd⟩ := hW
  have hA : DataW.TrodAll enc Try.prog W 0 (fun _ => true) true Try.f6.params.toList args.toList ds p := hA0
  rw [Try.params6] at hA hval
  obtain ⟨v0, vs0, d0, ds0, p0, q0, hargs, rfl, rfl, h0, r0⟩ := trodAll_cons hA
  obtain ⟨v1, vs1, d1, ds1, p1, q1, rfl, rfl, rfl, h1, r1⟩ := trodAll_cons r0
  obtain ⟨v2, vs2, d2, ds2, p2, q2, rfl, rfl, rfl, h2, r2⟩ := trodAll_cons r1
  obtain ⟨rfl, rfl, rfl⟩ := trodAll_nil r2
  obtain rfl : args = #[v0, v1, v2] := by cases args; simp_all
  obtain ⟨rfl, rfl⟩ := trodVars_none hV
  have k0 := h0
  have lt0 : ∀ x ∈ p0, x.block < W.heap.size := by obtain ⟨m, hm⟩ := k0; exact DataW.trod_lt m _ _ _ hm
  obtain ⟨u0_0, u0_1, y0_0, y0_1, n0, rfl, _, _, t0_0, t0_1⟩ := Joins.open_agg2 Try.underlying23 (by kernel_rfl) (by kernel_rfl) (hval 0 23 v0 rfl rfl) h0
  obtain ⟨a0_0, e0_0, _, w0_0⟩ := DataW.trod_int Try.underlying3 t0_0
  obtain rfl := List.head_eq_of_cons_eq e0_0
  obtain ⟨a0_1, e0_1, _, w0_1⟩ := DataW.trod_int Try.underlying3 t0_1
  obtain rfl := List.head_eq_of_cons_eq e0_1
  obtain ⟨a1, rfl, rfl, rfl, w1⟩ := open_int Try.underlying3 (hval 1 3 v1 rfl rfl) h1
  obtain ⟨a2, rfl, rfl, rfl, w2⟩ := open_int Try.underlying3 (hval 2 3 v2 rfl rfl) h2
  clear hA0 hval0
  refine (walk a0_0 a0_1 a1 a2 W w0_0 w0_1 w1 w2).mono fun e W' ⟨he, kept⟩ => ?_
  subst he
  have bel : Below W.heap.size W W' := kept.toBelow (Nat.le_refl _) (fun _ x => x.elim)
  exact ⟨_, rfl, _, _, _, [], _, [], hW', trodAll_mk1 (shut_bool Try.underlying4 _), (trodAll_cons_mk (Below.trod laidOut (by kernel_rfl) (of_decide_eq_true (by kernel_rfl)) k0 bel lt0) (trodAll_cons_mk (shut_int Try.underlying3 w1) (trodAll_cons_mk (shut_int Try.underlying3 w2) trodAll_mk0))), rfl, bel.frame _, fun h => by cases h⟩

theorem over : Rows.CellAloneSaid :=
  OpenClaim.holds_of_wide 6 Try.f6 rfl rfl rfl rfl rfl rfl rfl ⟨rfl, rfl, rfl, rfl, rfl⟩ rfl rfl rfl rfl rfl (by kernel_rfl) Try.func6 (by kernel_rfl)
    (of_decide_eq_true (by kernel_rfl)) (by unfold Func.isWrapper; first | (rw [if_pos (by decide +kernel)]; kernel_rfl) | (rw [if_neg (by decide +kernel)]; exact ⟨rfl, rfl⟩))
    (fun os started H enc _ => lifted os started H enc)

/-- The statement. -/
theorem proved : Rows.CellAloneSaid := over
#print axioms proved
end Go.Proofs.Ytabfjdococmbkaa.cellAlone
