/-
  Whether there is room for a stack in a model, and where. Own work; proved by a walk through the landed text.
-/
import Derived.Test.YtcndilpaijapkaaGreatRows
import Derived.WalkKit
import Derived.ProofKit
import Derived.OpenShut
import Derived.Outline
import Derived.Deep.Light
import Derived.Deep.QuietTactic
import Derived.BigQuiet
import Derived.IntWalk
import Derived.StillTailTactics
import Derived.RegionTactic
import Derived.Deep.RegionLaw
import Derived.Deep.RegionHeld3
import Derived.Test.YtcndilpaijapkaaGreatJDeed
import Derived.Test.YtcndilpaijapkaaGreatJModelOver
import Derived.Test.YtcndilpaijapkaaGreatJModelSearch
import Derived.Test.YtcndilpaijapkaaGreatJSize
namespace Go.Proofs.YtcndilpaijapkaaGreat.Lm
open Go.ChangeShapes Go.WideShapes Go.ChangeAt Go.RowKit
set_option maxRecDepth 100000
/-- Whether there is room in a valid model for a stack of some words at an address, the stack, and its place. -/
theorem mover_lit {W : Int} {x : S} {a cl : Int} {b : Bool} (e : hitB x a (wordsI cl) = b) (w : World) (h1 : W ≤ 16384) (hx : Lies W x.a x.n) (hy : Lies W a cl) :
    Calls Tryz.prog 179 #[.agg #[.int .i64 x.a, .int .i64 x.n, .int .i64 x.c], .agg #[.int .i64 a, .int .i64 cl, .int .i64 (-1)]] w fun e w' => e = .returned (.bool b) ∧ Kept Old w w' := by
  subst e
  exact mover_any W x ⟨a, cl, -1⟩ w h1 hx hy
set_option maxHeartbeats 8000000 in
theorem room_any (W : Int) (A : Option Addr) (n c : Nat) (l : List S) (nn a : Int) (w : World) (h : RsS w A n l) (v : Valid W l) (hc : n ≤ c) :
    Calls Tryz.prog 150 #[md W A n c, .int .i64 nn, .int .i64 a] w fun e w' => e = .returned (.tuple #[.int .i64 (roomI W l nn a), spn (roomX W l nn a), .bool (roomB W l nn a)]) ∧ Kept Old w w' := by
  have K1 := Lib.hid (kept2 w (.cells #[.int .i64 W, .slice A n c] 63) (.cells #[.int .i64 0, .int .i64 0, .int .i64 0] 52))
  have B3 := Lib.hid ((Bm.new w W (.slice A n c)).alloc (.cells #[.int .i64 0, .int .i64 0, .int .i64 0] 52))
  have B7 := Lib.hid (BxS.new2 w (.cells #[.int .i64 W, .slice A n c] 63) _ ⟨0, 0, 0⟩ rfl)
  have a0 := B3.out.c0
  have a1 := B3.out.c1
  have hlen := Lib.hid h.len
  have HR := Lib.hid h
  have HV := Lib.hid v
  have CL := Lib.hid (fun V => class_any nn V)
  have LI := Lib.hid (fun V => mlies_any W a (classI nn) A n c V v.w0 v.w1)
  have C5 := Lib.hid (fun V h => search_any W A n c l a V h v)
  have n5 : n ≤ 512 := by have := v.len; have := h.len; omega
  clear h v
  obtain ⟨cl, hcl⟩ : ∃ cl, classI nn = cl := ⟨_, rfl⟩
  have ways := room_ways W l nn a
  have hcl := Lib.hid hcl
  rw [hcl.out] at CL LI ways
  rcases ways with ⟨e1, er⟩ | ⟨e1, e2, er⟩ | ⟨e1, e2, er⟩
  · have RB := Lib.hid er
    have RI := Lib.hid (room_no er).1
    have RX := Lib.hid (room_no er).2.1
    rw [e1] at CL
    clear e1 er
    have f0 := B7.out.f 0
    have f1 := B7.out.f 1
    have f2 := B7.out.f 2
    have r0 := B7.out.c0
    have r1 := B7.out.c1
    have r2 := B7.out.c2
    generalize hW : ((w.alloc (.cells #[.int .i64 W, .slice A n c] 63)).alloc (.cells #[.int .i64 0, .int .i64 0, .int .i64 0] 52)) = V at *
    go_enter Tryz.func150, Tryz.ntmps150
    go_wp2_with (go_at_call 54; refine (CL.out _).mono ?_; rintro e w' ⟨rfl, rfl⟩)
    obtain ⟨V9, hV9, q0, q1, q2, K9⟩ := B7.out.end3 K1.out (by omega) 0 0 0
    rw [hV9]
    exact bodyPost_ret (v := .tuple #[.int .i64 0, .agg #[.int .i64 0, .int .i64 0, .int .i64 0], .bool false]) (by simp [results, Tryz.results150, go_sem, q0, q1, q2]) rfl ⟨by rw [RI.out, RX.out, RB.out], K9⟩
  · have RB := Lib.hid er
    have RI := Lib.hid (room_no er).1
    have RX := Lib.hid (room_no er).2.1
    rw [e1] at CL
    rw [e2] at LI
    clear e1 e2 er
    generalize hW : ((w.alloc (.cells #[.int .i64 W, .slice A n c] 63)).alloc (.cells #[.int .i64 0, .int .i64 0, .int .i64 0] 52)) = V at *
    have hW2 := Lib.hid hW
    go_enter Tryz.func150, Tryz.ntmps150
    go_wp2_with (first | (go_at_call 54; refine (CL.out _).mono ?_; rintro e w' ⟨rfl, rfl⟩) | (go_at_call 178; refine (LI.out _).mono ?_; rintro e w4 ⟨rfl, k4⟩; have K4 := Lib.hid k4; have BX := Lib.hid (B7.out.old k4); have f0 := BX.out.f 0; have f1 := BX.out.f 1; have f2 := BX.out.f 2; have r0 := BX.out.c0; have r1 := BX.out.c1; have r2 := BX.out.c2; clear k4))
    obtain ⟨V9, hV9, q0, q1, q2, K9⟩ := BX.out.end3 (K1.out.trans K4.out) (by omega) 0 0 0
    rw [hV9]
    exact bodyPost_ret (v := .tuple #[.int .i64 0, .agg #[.int .i64 0, .int .i64 0, .int .i64 0], .bool false]) (by simp [results, Tryz.results150, go_sem, q0, q1, q2]) rfl ⟨by rw [RI.out, RX.out, RB.out], K9⟩
  · have ly := Lib.hid (lies_of e2)
    have near := HV.out.near (a := a) ly.out.w0
    rw [e1] at CL
    rw [e2] at LI
    clear e1 e2
    obtain ⟨an, han⟩ : ∃ an, anyB l a (wordsI cl) = an := ⟨_, rfl⟩
    rw [han] at near er
    generalize hW : ((w.alloc (.cells #[.int .i64 W, .slice A n c] 63)).alloc (.cells #[.int .i64 0, .int .i64 0, .int .i64 0] 52)) = V at *
    have hW2 := Lib.hid hW
    have hV : w.heap.size + 1 < V.heap.size := by rw [← hW2.out]; simp
    generalize hs3 : w.heap.size = s3 at *
    rcases near with ⟨m, y, ep, hy, hh, rfl⟩ | ⟨low, up⟩
    · rw [ep] at C5
      simp only [Int.natCast_add, Int.cast_ofNat_Int] at C5
      have RB := Lib.hid (show roomB W l nn a = false from er)
      have RI := Lib.hid (room_no RB.out).1
      have RX := Lib.hid (room_no RB.out).2.1
      clear er han
      have hy := Lib.hid hy
      have ov1 := Lib.hid (fun V => mover_lit hh V HV.out.w1 (HV.out.at_ hy.out) ly.out)
      have m3 : m < n := by have := (List.getElem?_eq_some_iff.1 hy.out).1; have := hlen.out; omega
      have w1 : IntKind.i64.wrap ((m : Int) + 1 - 1) = (m : Int) := by rw [IntWalk.i64_in _ (by omega)]; omega
      have w2 : IntKind.i64.wrap (m : Int) = (m : Int) := IntWalk.i64_in _ (by omega)
      have m2 : (0 : Int) < (m : Int) + 1 := by omega
      have m4 : (m : Int) < (n : Int) := by omega
      clear hh
      go_enter Tryz.func150, Tryz.ntmps150
      go_wp2_with (first | (go_at_call 54; refine (CL.out _).mono ?_; rintro e w' ⟨rfl, rfl⟩) | (go_at_call 178; refine (LI.out _).mono ?_; rintro e w4 ⟨rfl, k4⟩; have K1 := Lib.hid (K1.out.trans k4); have B3 := Lib.hid (B3.out.old k4); have B7 := Lib.hid (B7.out.old k4); have a0 := B3.out.c0; have a1 := B3.out.c1; have s4 := k4.size; have l3 := Blk.lt B3.out; have l7 := Blk.lt B7.out; clear k4))
      have KX := Lib.hid ((Kept.refl Old w4).alloc (.cells #[.int .i64 a, .int .i64 cl, .int .i64 (-1)] 52))
      refine (C5.out _ (HR.out.old (K1.out.trans KX.out))).mono ?_
      rintro e w5 ⟨rfl, k5⟩
      have BN := Lib.hid ((BxS.new w4 ⟨a, cl, -1⟩).old k5)
      have k5 := Lib.hid (KX.out.trans k5)
      have K1 := Lib.hid (K1.out.trans k5.out)
      have B3 := Lib.hid (B3.out.old k5.out)
      have B7 := Lib.hid (B7.out.old k5.out)
      have a0 := B3.out.c0
      have a1 := B3.out.c1
      have x0 := BN.out.c0
      have x1 := BN.out.c1
      have x2 := BN.out.c2
      generalize hsx : w4.heap.size = sx at *
      clear KX k5
      go_wp2_with fail
      obtain ⟨g, o, y', rfl, hg, hy', _, y0, y1, y2⟩ := (HR.out.old K1.out).get (k := m) (by omega)
      rw [hy.out] at hy'
      obtain rfl := Option.some.inj hy'
      clear hy'
      have Kr := Lib.hid (Kept.refl Old w5)
      refine wp_region_held_drew (S := (fun w' => Kept Old w5 w' ∧ w'.cell? ⟨s3, 1, none⟩ = some (.slice (some ⟨g, o, none⟩) n c) ∧ w'.cell? ⟨sx, 0, none⟩ = some (.int .i64 a) ∧ w'.cell? ⟨sx, 1, none⟩ = some (.int .i64 cl) ∧ w'.cell? ⟨sx, 2, none⟩ = some (.int .i64 (-1)) ∧ w'.cell? ⟨g, o + m * 3, none⟩ = some (.int .i64 y.a) ∧ w'.cell? ⟨g, o + m * 3 + 1, none⟩ = some (.int .i64 y.n) ∧ w'.cell? ⟨g, o + m * 3 + 2, none⟩ = some (.int .i64 y.c))) (by kernel_rfl) ⟨(Kept.refl Old w5).drew, a1, x0, x1, x2, y0, y1, y2⟩ (fun hHeld => ?_)
      refine wpAnyH_take (i := 0) (v := .int .i64 ((m : Int) + 1)) rfl (by kernel_rfl) (by decide +kernel) (by decide +kernel) (fun _ _ _ h => h) (Or.inl ⟨by rfl, fun w' hSw => ?_⟩) hHeld ?_
      · (go_simp)
      simp only [Act.put, List.getElem_toArray, List.getElem_cons_zero, List.setIfInBounds_toArray, List.set_cons_zero, List.set_cons_succ]
      refine wpAnyH_take (i := 1) (v := .bool true) rfl (by kernel_rfl) (by decide +kernel) (by decide +kernel) (fun _ _ _ h => h) (Or.inl ⟨by rfl, fun w' hSw => ?_⟩) hHeld ?_
      · (go_simp)
      simp only [Act.put, List.getElem_toArray, List.getElem_cons_succ, List.getElem_cons_zero, List.setIfInBounds_toArray, List.set_cons_zero, List.set_cons_succ]
      refine wpAnyH_take (i := 2) (v := .bool true) rfl (by kernel_rfl) (by decide +kernel) (by decide +kernel) (fun _ _ _ h => h) (Or.inl ⟨by rfl, fun w' hSw => ?_⟩) hHeld ?_
      · (go_simp)
      simp only [Act.put, List.getElem_toArray, List.getElem_cons_succ, List.getElem_cons_zero, List.setIfInBounds_toArray, List.set_cons_zero, List.set_cons_succ]
      refine wpAnyH_take (i := 3) (v := .pointer (some ⟨s3, 1, none⟩)) rfl (by kernel_rfl) (by decide +kernel) (by decide +kernel) (fun _ _ _ h => h) (Or.inl ⟨by rfl, fun w' hSw => ?_⟩) hHeld ?_
      · (go_simp)
      simp only [Act.put, List.getElem_toArray, List.getElem_cons_succ, List.getElem_cons_zero, List.setIfInBounds_toArray, List.set_cons_zero, List.set_cons_succ]
      refine wpAnyH_take (i := 4) (v := .slice (some ⟨g, o, none⟩) n c) rfl (by kernel_rfl) (by decide +kernel) (by decide +kernel) (fun _ _ _ h => h) (Or.inl ⟨by rfl, fun w' hSw => ?_⟩) hHeld ?_
      · (go_simp)
      simp only [Act.put, List.getElem_toArray, List.getElem_cons_succ, List.getElem_cons_zero, List.setIfInBounds_toArray, List.set_cons_zero, List.set_cons_succ]
      refine wpAnyH_take (i := 5) (v := .int .i64 ((m : Int) + 1)) rfl (by kernel_rfl) (by decide +kernel) (by decide +kernel) (fun _ _ _ h => h) (Or.inl ⟨by rfl, fun w' hSw => ?_⟩) hHeld ?_
      · (go_simp)
      simp only [Act.put, List.getElem_toArray, List.getElem_cons_succ, List.getElem_cons_zero, List.setIfInBounds_toArray, List.set_cons_zero, List.set_cons_succ]
      refine wpAnyH_take (i := 6) (v := .int .i64 (m : Int)) rfl (by kernel_rfl) (by decide +kernel) (by decide +kernel) (fun _ _ _ h => h) (Or.inl ⟨by rfl, fun w' hSw => ?_⟩) hHeld ?_
      · (go_simp)
      simp only [Act.put, List.getElem_toArray, List.getElem_cons_succ, List.getElem_cons_zero, List.setIfInBounds_toArray, List.set_cons_zero, List.set_cons_succ]
      refine wpAnyH_take (i := 7) (v := .pointer (some ⟨g, o + m * 3, none⟩)) rfl (by kernel_rfl) (by decide +kernel) (by decide +kernel) (fun _ _ _ h => h) (Or.inl ⟨by rfl, fun w' hSw => ?_⟩) hHeld ?_
      · (go_simp)
      simp only [Act.put, List.getElem_toArray, List.getElem_cons_succ, List.getElem_cons_zero, List.setIfInBounds_toArray, List.set_cons_zero, List.set_cons_succ]
      refine wpAnyH_take (i := 8) (v := .agg #[.int .i64 y.a, .int .i64 y.n, .int .i64 y.c]) rfl (by kernel_rfl) (by decide +kernel) (by decide +kernel) (fun _ _ _ h => h) (Or.inl ⟨by rfl, fun w' hSw => ?_⟩) hHeld ?_
      · (go_simp)
      simp only [Act.put, List.getElem_toArray, List.getElem_cons_succ, List.getElem_cons_zero, List.setIfInBounds_toArray, List.set_cons_zero, List.set_cons_succ]
      refine wpAnyH_take (i := 9) (v := .agg #[.int .i64 a, .int .i64 cl, .int .i64 (-1)]) rfl (by kernel_rfl) (by decide +kernel) (by decide +kernel) (fun _ _ _ h => h) (Or.inl ⟨by rfl, fun w' hSw => ?_⟩) hHeld ?_
      · (go_simp)
      simp only [Act.put, List.getElem_toArray, List.getElem_cons_succ, List.getElem_cons_zero, List.setIfInBounds_toArray, List.set_cons_zero, List.set_cons_succ]
      refine wpAnyH_ready (rs := [10]) (by decide +kernel) (by simp) (AllReadyH.cons rfl (fun K hK => ?_) AllReadyH.nil)
      simp only [List.getElem_toArray, List.getElem_cons_succ, List.getElem_cons_zero]
      rw [if_pos (by rfl)]
      go_simp
      go_at_call 179
      refine (ov1.out _).mono ?_
      rintro e w' ⟨rfl, k⟩
      refine hK.out _ _ ⟨hHeld.1.trans k, cell_on k hHeld.2.1, cell_on k hHeld.2.2.1, cell_on k hHeld.2.2.2.1, cell_on k hHeld.2.2.2.2.1, cell_on k hHeld.2.2.2.2.2.1, cell_on k hHeld.2.2.2.2.2.2.1, cell_on k hHeld.2.2.2.2.2.2.2⟩ (fun hHeld => ?_)
      clear hK K k
      refine wpAnyH_take (i := 11) (v := .bool true) rfl (by kernel_rfl) (by decide +kernel) (by decide +kernel) (fun _ _ _ h => h) (Or.inl ⟨by rfl, fun w' hSw => ?_⟩) hHeld ?_
      · (go_simp)
      simp only [Act.put, List.getElem_toArray, List.getElem_cons_succ, List.getElem_cons_zero, List.setIfInBounds_toArray, List.set_cons_zero, List.set_cons_succ]
      refine wpAnyH_take (i := 12) (v := .bool true) rfl (by kernel_rfl) (by decide +kernel) (by decide +kernel) (fun _ _ _ h => h) (Or.inl ⟨by rfl, fun w' hSw => ?_⟩) hHeld ?_
      · (go_simp)
      simp only [Act.put, List.getElem_toArray, List.getElem_cons_succ, List.getElem_cons_zero, List.setIfInBounds_toArray, List.set_cons_zero, List.set_cons_succ]
      refine wpAnyH_take (i := 13) (v := undef) rfl (by kernel_rfl) (by decide +kernel) (by decide +kernel) (fun _ _ _ h => h) (Or.inr ⟨by rfl, rfl⟩) hHeld ?_
      simp only [Act.put, List.getElem_toArray, List.getElem_cons_succ, List.getElem_cons_zero, List.setIfInBounds_toArray, List.set_cons_zero, List.set_cons_succ]
      refine wpAnyH_take (i := 14) (v := undef) rfl (by kernel_rfl) (by decide +kernel) (by decide +kernel) (fun _ _ _ h => h) (Or.inr ⟨by rfl, rfl⟩) hHeld ?_
      simp only [Act.put, List.getElem_toArray, List.getElem_cons_succ, List.getElem_cons_zero, List.setIfInBounds_toArray, List.set_cons_zero, List.set_cons_succ]
      refine wpAnyH_take (i := 15) (v := undef) rfl (by kernel_rfl) (by decide +kernel) (by decide +kernel) (fun _ _ _ h => h) (Or.inr ⟨by rfl, rfl⟩) hHeld ?_
      simp only [Act.put, List.getElem_toArray, List.getElem_cons_succ, List.getElem_cons_zero, List.setIfInBounds_toArray, List.set_cons_zero, List.set_cons_succ]
      refine wpAnyH_take (i := 16) (v := undef) rfl (by kernel_rfl) (by decide +kernel) (by decide +kernel) (fun _ _ _ h => h) (Or.inr ⟨by rfl, rfl⟩) hHeld ?_
      simp only [Act.put, List.getElem_toArray, List.getElem_cons_succ, List.getElem_cons_zero, List.setIfInBounds_toArray, List.set_cons_zero, List.set_cons_succ]
      refine wpAnyH_take (i := 17) (v := undef) rfl (by kernel_rfl) (by decide +kernel) (by decide +kernel) (fun _ _ _ h => h) (Or.inr ⟨by rfl, rfl⟩) hHeld ?_
      simp only [Act.put, List.getElem_toArray, List.getElem_cons_succ, List.getElem_cons_zero, List.setIfInBounds_toArray, List.set_cons_zero, List.set_cons_succ]
      refine wpAnyH_take (i := 18) (v := undef) rfl (by kernel_rfl) (by decide +kernel) (by decide +kernel) (fun _ _ _ h => h) (Or.inr ⟨by rfl, rfl⟩) hHeld ?_
      simp only [Act.put, List.getElem_toArray, List.getElem_cons_succ, List.getElem_cons_zero, List.setIfInBounds_toArray, List.set_cons_zero, List.set_cons_succ]
      refine wpAnyH_take (i := 19) (v := undef) rfl (by kernel_rfl) (by decide +kernel) (by decide +kernel) (fun _ _ _ h => h) (Or.inr ⟨by rfl, rfl⟩) hHeld ?_
      simp only [Act.put, List.getElem_toArray, List.getElem_cons_succ, List.getElem_cons_zero, List.setIfInBounds_toArray, List.set_cons_zero, List.set_cons_succ]
      refine wpAnyH_take (i := 20) (v := undef) rfl (by kernel_rfl) (by decide +kernel) (by decide +kernel) (fun _ _ _ h => h) (Or.inr ⟨by rfl, rfl⟩) hHeld ?_
      simp only [Act.put, List.getElem_toArray, List.getElem_cons_succ, List.getElem_cons_zero, List.setIfInBounds_toArray, List.set_cons_zero, List.set_cons_succ]
      refine wpAnyH_take (i := 21) (v := undef) rfl (by kernel_rfl) (by decide +kernel) (by decide +kernel) (fun _ _ _ h => h) (Or.inr ⟨by rfl, rfl⟩) hHeld ?_
      simp only [Act.put, List.getElem_toArray, List.getElem_cons_succ, List.getElem_cons_zero, List.setIfInBounds_toArray, List.set_cons_zero, List.set_cons_succ]
      refine wpAnyH_take (i := 22) (v := undef) rfl (by kernel_rfl) (by decide +kernel) (by decide +kernel) (fun _ _ _ h => h) (Or.inr ⟨by rfl, rfl⟩) hHeld ?_
      simp only [Act.put, List.getElem_toArray, List.getElem_cons_succ, List.getElem_cons_zero, List.setIfInBounds_toArray, List.set_cons_zero, List.set_cons_succ]
      refine wpAnyH_take (i := 23) (v := undef) rfl (by kernel_rfl) (by decide +kernel) (by decide +kernel) (fun _ _ _ h => h) (Or.inr ⟨by rfl, rfl⟩) hHeld ?_
      simp only [Act.put, List.getElem_toArray, List.getElem_cons_succ, List.getElem_cons_zero, List.setIfInBounds_toArray, List.set_cons_zero, List.set_cons_succ]
      refine wpAnyH_take (i := 24) (v := undef) rfl (by kernel_rfl) (by decide +kernel) (by decide +kernel) (fun _ _ _ h => h) (Or.inr ⟨by rfl, rfl⟩) hHeld ?_
      simp only [Act.put, List.getElem_toArray, List.getElem_cons_succ, List.getElem_cons_zero, List.setIfInBounds_toArray, List.set_cons_zero, List.set_cons_succ]
      refine wpAnyH_take (i := 25) (v := undef) rfl (by kernel_rfl) (by decide +kernel) (by decide +kernel) (fun _ _ _ h => h) (Or.inr ⟨by rfl, rfl⟩) hHeld ?_
      simp only [Act.put, List.getElem_toArray, List.getElem_cons_succ, List.getElem_cons_zero, List.setIfInBounds_toArray, List.set_cons_zero, List.set_cons_succ]
      refine wpAnyH_take (i := 26) (v := undef) rfl (by kernel_rfl) (by decide +kernel) (by decide +kernel) (fun _ _ _ h => h) (Or.inr ⟨by rfl, rfl⟩) hHeld ?_
      simp only [Act.put, List.getElem_toArray, List.getElem_cons_succ, List.getElem_cons_zero, List.setIfInBounds_toArray, List.set_cons_zero, List.set_cons_succ]
      refine wpAnyH_take (i := 27) (v := .bool true) rfl (by kernel_rfl) (by decide +kernel) (by decide +kernel) (fun _ _ _ h => h) (Or.inl ⟨by rfl, fun w' hSw => ?_⟩) hHeld ?_
      · (go_simp)
      simp only [Act.put, List.getElem_toArray, List.getElem_cons_succ, List.getElem_cons_zero, List.setIfInBounds_toArray, List.set_cons_zero, List.set_cons_succ]
      refine wpAnyH_done (by decide +kernel) ?_ _
      have k6 := Lib.hid (‹Kept Old w5 _ ∧ _›).1
      have BX := Lib.hid (B7.out.old k6.out)
      have f0 := BX.out.f 0
      have f1 := BX.out.f 1
      have f2 := BX.out.f 2
      have r0 := BX.out.c0
      have r1 := BX.out.c1
      have r2 := BX.out.c2
      go_wp2_with fail
      obtain ⟨V9, hV9, q0, q1, q2, K9⟩ := BX.out.end3 (K1.out.trans k6.out) (by omega) 0 0 0
      rw [hV9]
      exact bodyPost_ret (v := .tuple #[.int .i64 0, .agg #[.int .i64 0, .int .i64 0, .int .i64 0], .bool false]) (by simp [results, Tryz.results150, go_sem, q0, q1, q2]) rfl ⟨by rw [RI.out, RX.out, RB.out], K9⟩
    · rcases low with ep | ⟨m, y, ep, hy, hh⟩
      · rw [ep] at C5 up
        simp only [Int.cast_ofNat_Int] at C5
        rcases up with ⟨hz, rfl⟩ | ⟨z, hz, hz2⟩
        · have an := han
          have RB := Lib.hid (show roomB W l nn a = true from er)
          have RI := Lib.hid (show roomI W l nn a = 0 from (room_yes RB.out).1.trans (by rw [ep]; simp))
          have RX := Lib.hid (show roomX W l nn a = ⟨a, cl, -1⟩ from (room_yes RB.out).2.1.trans (by unfold newS; rw [hcl.out]))
          clear er han
          obtain rfl : n = 0 := by have := List.getElem?_eq_none_iff.1 hz; have := hlen.out; omega
          clear hz
          go_enter Tryz.func150, Tryz.ntmps150
          go_wp2_with (first | (go_at_call 54; refine (CL.out _).mono ?_; rintro e w' ⟨rfl, rfl⟩) | (go_at_call 178; refine (LI.out _).mono ?_; rintro e w4 ⟨rfl, k4⟩; have K1 := Lib.hid (K1.out.trans k4); have B3 := Lib.hid (B3.out.old k4); have B7 := Lib.hid (B7.out.old k4); have a0 := B3.out.c0; have a1 := B3.out.c1; have s4 := k4.size; have l3 := Blk.lt B3.out; have l7 := Blk.lt B7.out; clear k4))
          have KX := Lib.hid ((Kept.refl Old w4).alloc (.cells #[.int .i64 a, .int .i64 cl, .int .i64 (-1)] 52))
          refine (C5.out _ (HR.out.old (K1.out.trans KX.out))).mono ?_
          rintro e w5 ⟨rfl, k5⟩
          have BN := Lib.hid ((BxS.new w4 ⟨a, cl, -1⟩).old k5)
          have k5 := Lib.hid (KX.out.trans k5)
          have K1 := Lib.hid (K1.out.trans k5.out)
          have B3 := Lib.hid (B3.out.old k5.out)
          have B7 := Lib.hid (B7.out.old k5.out)
          have a0 := B3.out.c0
          have a1 := B3.out.c1
          have x0 := BN.out.c0
          have x1 := BN.out.c1
          have x2 := BN.out.c2
          generalize hsx : w4.heap.size = sx at *
          clear KX k5
          go_wp2_with fail
          have Kr := Lib.hid (Kept.refl Old w5)
          refine wp_region_held_drew (S := (fun w' => Kept Old w5 w' ∧ w'.cell? ⟨s3, 1, none⟩ = some (.slice A 0 c) ∧ w'.cell? ⟨sx, 0, none⟩ = some (.int .i64 a) ∧ w'.cell? ⟨sx, 1, none⟩ = some (.int .i64 cl) ∧ w'.cell? ⟨sx, 2, none⟩ = some (.int .i64 (-1)))) (by kernel_rfl) ⟨(Kept.refl Old w5).drew, a1, x0, x1, x2⟩ (fun hHeld => ?_)
          refine wpAnyH_take (i := 0) (v := .int .i64 0) rfl (by kernel_rfl) (by decide +kernel) (by decide +kernel) (fun _ _ _ h => h) (Or.inl ⟨by rfl, fun w' hSw => ?_⟩) hHeld ?_
          · (go_simp)
          simp only [Act.put, List.getElem_toArray, List.getElem_cons_zero, List.setIfInBounds_toArray, List.set_cons_zero, List.set_cons_succ]
          refine wpAnyH_take (i := 1) (v := .bool false) rfl (by kernel_rfl) (by decide +kernel) (by decide +kernel) (fun _ _ _ h => h) (Or.inl ⟨by rfl, fun w' hSw => ?_⟩) hHeld ?_
          · (go_simp)
          simp only [Act.put, List.getElem_toArray, List.getElem_cons_succ, List.getElem_cons_zero, List.setIfInBounds_toArray, List.set_cons_zero, List.set_cons_succ]
          refine wpAnyH_take (i := 2) (v := .bool false) rfl (by kernel_rfl) (by decide +kernel) (by decide +kernel) (fun _ _ _ h => h) (Or.inl ⟨by rfl, fun w' hSw => ?_⟩) hHeld ?_
          · (go_simp)
          simp only [Act.put, List.getElem_toArray, List.getElem_cons_succ, List.getElem_cons_zero, List.setIfInBounds_toArray, List.set_cons_zero, List.set_cons_succ]
          refine wpAnyH_take (i := 3) (v := undef) rfl (by kernel_rfl) (by decide +kernel) (by decide +kernel) (fun _ _ _ h => h) (Or.inr ⟨by rfl, rfl⟩) hHeld ?_
          simp only [Act.put, List.getElem_toArray, List.getElem_cons_succ, List.getElem_cons_zero, List.setIfInBounds_toArray, List.set_cons_zero, List.set_cons_succ]
          refine wpAnyH_take (i := 4) (v := undef) rfl (by kernel_rfl) (by decide +kernel) (by decide +kernel) (fun _ _ _ h => h) (Or.inr ⟨by rfl, rfl⟩) hHeld ?_
          simp only [Act.put, List.getElem_toArray, List.getElem_cons_succ, List.getElem_cons_zero, List.setIfInBounds_toArray, List.set_cons_zero, List.set_cons_succ]
          refine wpAnyH_take (i := 5) (v := undef) rfl (by kernel_rfl) (by decide +kernel) (by decide +kernel) (fun _ _ _ h => h) (Or.inr ⟨by rfl, rfl⟩) hHeld ?_
          simp only [Act.put, List.getElem_toArray, List.getElem_cons_succ, List.getElem_cons_zero, List.setIfInBounds_toArray, List.set_cons_zero, List.set_cons_succ]
          refine wpAnyH_take (i := 6) (v := undef) rfl (by kernel_rfl) (by decide +kernel) (by decide +kernel) (fun _ _ _ h => h) (Or.inr ⟨by rfl, rfl⟩) hHeld ?_
          simp only [Act.put, List.getElem_toArray, List.getElem_cons_succ, List.getElem_cons_zero, List.setIfInBounds_toArray, List.set_cons_zero, List.set_cons_succ]
          refine wpAnyH_take (i := 7) (v := undef) rfl (by kernel_rfl) (by decide +kernel) (by decide +kernel) (fun _ _ _ h => h) (Or.inr ⟨by rfl, rfl⟩) hHeld ?_
          simp only [Act.put, List.getElem_toArray, List.getElem_cons_succ, List.getElem_cons_zero, List.setIfInBounds_toArray, List.set_cons_zero, List.set_cons_succ]
          refine wpAnyH_take (i := 8) (v := undef) rfl (by kernel_rfl) (by decide +kernel) (by decide +kernel) (fun _ _ _ h => h) (Or.inr ⟨by rfl, rfl⟩) hHeld ?_
          simp only [Act.put, List.getElem_toArray, List.getElem_cons_succ, List.getElem_cons_zero, List.setIfInBounds_toArray, List.set_cons_zero, List.set_cons_succ]
          refine wpAnyH_take (i := 9) (v := undef) rfl (by kernel_rfl) (by decide +kernel) (by decide +kernel) (fun _ _ _ h => h) (Or.inr ⟨by rfl, rfl⟩) hHeld ?_
          simp only [Act.put, List.getElem_toArray, List.getElem_cons_succ, List.getElem_cons_zero, List.setIfInBounds_toArray, List.set_cons_zero, List.set_cons_succ]
          refine wpAnyH_take (i := 10) (v := undef) rfl (by kernel_rfl) (by decide +kernel) (by decide +kernel) (fun _ _ _ h => h) (Or.inr ⟨by rfl, rfl⟩) hHeld ?_
          simp only [Act.put, List.getElem_toArray, List.getElem_cons_succ, List.getElem_cons_zero, List.setIfInBounds_toArray, List.set_cons_zero, List.set_cons_succ]
          refine wpAnyH_take (i := 11) (v := .bool false) rfl (by kernel_rfl) (by decide +kernel) (by decide +kernel) (fun _ _ _ h => h) (Or.inl ⟨by rfl, fun w' hSw => ?_⟩) hHeld ?_
          · (go_simp)
          simp only [Act.put, List.getElem_toArray, List.getElem_cons_succ, List.getElem_cons_zero, List.setIfInBounds_toArray, List.set_cons_zero, List.set_cons_succ]
          refine wpAnyH_take (i := 12) (v := .bool false) rfl (by kernel_rfl) (by decide +kernel) (by decide +kernel) (fun _ _ _ h => h) (Or.inl ⟨by rfl, fun w' hSw => ?_⟩) hHeld ?_
          · (go_simp)
          simp only [Act.put, List.getElem_toArray, List.getElem_cons_succ, List.getElem_cons_zero, List.setIfInBounds_toArray, List.set_cons_zero, List.set_cons_succ]
          refine wpAnyH_take (i := 13) (v := .int .i64 0) rfl (by kernel_rfl) (by decide +kernel) (by decide +kernel) (fun _ _ _ h => h) (Or.inl ⟨by rfl, fun w' hSw => ?_⟩) hHeld ?_
          · (go_simp)
          simp only [Act.put, List.getElem_toArray, List.getElem_cons_succ, List.getElem_cons_zero, List.setIfInBounds_toArray, List.set_cons_zero, List.set_cons_succ]
          refine wpAnyH_take (i := 14) (v := .pointer (some ⟨s3, 1, none⟩)) rfl (by kernel_rfl) (by decide +kernel) (by decide +kernel) (fun _ _ _ h => h) (Or.inl ⟨by rfl, fun w' hSw => ?_⟩) hHeld ?_
          · (go_simp)
          simp only [Act.put, List.getElem_toArray, List.getElem_cons_succ, List.getElem_cons_zero, List.setIfInBounds_toArray, List.set_cons_zero, List.set_cons_succ]
          refine wpAnyH_take (i := 15) (v := .slice A 0 c) rfl (by kernel_rfl) (by decide +kernel) (by decide +kernel) (fun _ _ _ h => h) (Or.inl ⟨by rfl, fun w' hSw => ?_⟩) hHeld ?_
          · (go_simp)
          simp only [Act.put, List.getElem_toArray, List.getElem_cons_succ, List.getElem_cons_zero, List.setIfInBounds_toArray, List.set_cons_zero, List.set_cons_succ]
          refine wpAnyH_take (i := 16) (v := .int .i64 0) rfl (by kernel_rfl) (by decide +kernel) (by decide +kernel) (fun _ _ _ h => h) (Or.inl ⟨by rfl, fun w' hSw => ?_⟩) hHeld ?_
          · (go_simp)
          simp only [Act.put, List.getElem_toArray, List.getElem_cons_succ, List.getElem_cons_zero, List.setIfInBounds_toArray, List.set_cons_zero, List.set_cons_succ]
          refine wpAnyH_take (i := 17) (v := .bool false) rfl (by kernel_rfl) (by decide +kernel) (by decide +kernel) (fun _ _ _ h => h) (Or.inl ⟨by rfl, fun w' hSw => ?_⟩) hHeld ?_
          · (go_simp)
          simp only [Act.put, List.getElem_toArray, List.getElem_cons_succ, List.getElem_cons_zero, List.setIfInBounds_toArray, List.set_cons_zero, List.set_cons_succ]
          refine wpAnyH_take (i := 18) (v := .bool false) rfl (by kernel_rfl) (by decide +kernel) (by decide +kernel) (fun _ _ _ h => h) (Or.inl ⟨by rfl, fun w' hSw => ?_⟩) hHeld ?_
          · (go_simp)
          simp only [Act.put, List.getElem_toArray, List.getElem_cons_succ, List.getElem_cons_zero, List.setIfInBounds_toArray, List.set_cons_zero, List.set_cons_succ]
          refine wpAnyH_take (i := 19) (v := undef) rfl (by kernel_rfl) (by decide +kernel) (by decide +kernel) (fun _ _ _ h => h) (Or.inr ⟨by rfl, rfl⟩) hHeld ?_
          simp only [Act.put, List.getElem_toArray, List.getElem_cons_succ, List.getElem_cons_zero, List.setIfInBounds_toArray, List.set_cons_zero, List.set_cons_succ]
          refine wpAnyH_take (i := 20) (v := undef) rfl (by kernel_rfl) (by decide +kernel) (by decide +kernel) (fun _ _ _ h => h) (Or.inr ⟨by rfl, rfl⟩) hHeld ?_
          simp only [Act.put, List.getElem_toArray, List.getElem_cons_succ, List.getElem_cons_zero, List.setIfInBounds_toArray, List.set_cons_zero, List.set_cons_succ]
          refine wpAnyH_take (i := 21) (v := undef) rfl (by kernel_rfl) (by decide +kernel) (by decide +kernel) (fun _ _ _ h => h) (Or.inr ⟨by rfl, rfl⟩) hHeld ?_
          simp only [Act.put, List.getElem_toArray, List.getElem_cons_succ, List.getElem_cons_zero, List.setIfInBounds_toArray, List.set_cons_zero, List.set_cons_succ]
          refine wpAnyH_take (i := 22) (v := undef) rfl (by kernel_rfl) (by decide +kernel) (by decide +kernel) (fun _ _ _ h => h) (Or.inr ⟨by rfl, rfl⟩) hHeld ?_
          simp only [Act.put, List.getElem_toArray, List.getElem_cons_succ, List.getElem_cons_zero, List.setIfInBounds_toArray, List.set_cons_zero, List.set_cons_succ]
          refine wpAnyH_take (i := 23) (v := undef) rfl (by kernel_rfl) (by decide +kernel) (by decide +kernel) (fun _ _ _ h => h) (Or.inr ⟨by rfl, rfl⟩) hHeld ?_
          simp only [Act.put, List.getElem_toArray, List.getElem_cons_succ, List.getElem_cons_zero, List.setIfInBounds_toArray, List.set_cons_zero, List.set_cons_succ]
          refine wpAnyH_take (i := 24) (v := undef) rfl (by kernel_rfl) (by decide +kernel) (by decide +kernel) (fun _ _ _ h => h) (Or.inr ⟨by rfl, rfl⟩) hHeld ?_
          simp only [Act.put, List.getElem_toArray, List.getElem_cons_succ, List.getElem_cons_zero, List.setIfInBounds_toArray, List.set_cons_zero, List.set_cons_succ]
          refine wpAnyH_take (i := 25) (v := undef) rfl (by kernel_rfl) (by decide +kernel) (by decide +kernel) (fun _ _ _ h => h) (Or.inr ⟨by rfl, rfl⟩) hHeld ?_
          simp only [Act.put, List.getElem_toArray, List.getElem_cons_succ, List.getElem_cons_zero, List.setIfInBounds_toArray, List.set_cons_zero, List.set_cons_succ]
          refine wpAnyH_take (i := 26) (v := .bool false) rfl (by kernel_rfl) (by decide +kernel) (by decide +kernel) (fun _ _ _ h => h) (Or.inl ⟨by rfl, fun w' hSw => ?_⟩) hHeld ?_
          · (go_simp)
          simp only [Act.put, List.getElem_toArray, List.getElem_cons_succ, List.getElem_cons_zero, List.setIfInBounds_toArray, List.set_cons_zero, List.set_cons_succ]
          refine wpAnyH_take (i := 27) (v := .bool false) rfl (by kernel_rfl) (by decide +kernel) (by decide +kernel) (fun _ _ _ h => h) (Or.inl ⟨by rfl, fun w' hSw => ?_⟩) hHeld ?_
          · (go_simp)
          simp only [Act.put, List.getElem_toArray, List.getElem_cons_succ, List.getElem_cons_zero, List.setIfInBounds_toArray, List.set_cons_zero, List.set_cons_succ]
          refine wpAnyH_done (by decide +kernel) ?_ _
          have k6 := Lib.hid (‹Kept Old w5 _ ∧ _›).1
          have BX := B7
          have f0 := BX.out.f 0
          have f1 := BX.out.f 1
          have f2 := BX.out.f 2
          have r0 := BX.out.c0
          have r1 := BX.out.c1
          have r2 := BX.out.c2
          have x0 := BN.out.c0
          have x1 := BN.out.c1
          have x2 := BN.out.c2
          go_wp2_with fail
          go_region
          go_wp2
          obtain ⟨V9, hV9, q0, q1, q2, K9⟩ := BX.out.end3 (K1.out) (by omega) a cl (-1)
          rw [hV9]
          have q0 : V9.drew.cell? ⟨s3 + 1, 0, none⟩ = _ := q0
          have q1 : V9.drew.cell? ⟨s3 + 1, 1, none⟩ = _ := q1
          have q2 : V9.drew.cell? ⟨s3 + 1, 2, none⟩ = _ := q2
          have K9 := K9.drew.drew
          exact bodyPost_ret (v := .tuple #[.int .i64 0, .agg #[.int .i64 a, .int .i64 cl, .int .i64 (-1)], .bool true]) (by simp [results, Tryz.results150, go_sem, q0, q1, q2]) rfl ⟨by rw [RI.out, RX.out, RB.out], K9⟩
        · cases an with
          | true =>
            have an := han
            have RB := Lib.hid (show roomB W l nn a = false from er)
            have RI := Lib.hid (room_no RB.out).1
            have RX := Lib.hid (room_no RB.out).2.1
            clear er han
            have hz := Lib.hid hz
            have ov2 := Lib.hid (fun V => mover_lit hz2 V HV.out.w1 (HV.out.at_ hz.out) ly.out)
            clear hz2
            have p3 : 0 < n := by have := (List.getElem?_eq_some_iff.1 hz.out).1; have := hlen.out; omega
            have p4 : (0 : Int) < (n : Int) := by omega
            go_enter Tryz.func150, Tryz.ntmps150
            go_wp2_with (first | (go_at_call 54; refine (CL.out _).mono ?_; rintro e w' ⟨rfl, rfl⟩) | (go_at_call 178; refine (LI.out _).mono ?_; rintro e w4 ⟨rfl, k4⟩; have K1 := Lib.hid (K1.out.trans k4); have B3 := Lib.hid (B3.out.old k4); have B7 := Lib.hid (B7.out.old k4); have a0 := B3.out.c0; have a1 := B3.out.c1; have s4 := k4.size; have l3 := Blk.lt B3.out; have l7 := Blk.lt B7.out; clear k4))
            have KX := Lib.hid ((Kept.refl Old w4).alloc (.cells #[.int .i64 a, .int .i64 cl, .int .i64 (-1)] 52))
            refine (C5.out _ (HR.out.old (K1.out.trans KX.out))).mono ?_
            rintro e w5 ⟨rfl, k5⟩
            have BN := Lib.hid ((BxS.new w4 ⟨a, cl, -1⟩).old k5)
            have k5 := Lib.hid (KX.out.trans k5)
            have K1 := Lib.hid (K1.out.trans k5.out)
            have B3 := Lib.hid (B3.out.old k5.out)
            have B7 := Lib.hid (B7.out.old k5.out)
            have a0 := B3.out.c0
            have a1 := B3.out.c1
            have x0 := BN.out.c0
            have x1 := BN.out.c1
            have x2 := BN.out.c2
            generalize hsx : w4.heap.size = sx at *
            clear KX k5
            go_wp2_with fail
            obtain ⟨g, o, z', rfl, hg, hz', _, z0, z1, z2⟩ := (HR.out.old K1.out).get (k := 0) (by omega)
            rw [hz.out] at hz'
            obtain rfl := Option.some.inj hz'
            simp only [Nat.zero_mul, Nat.add_zero] at z0 z1 z2
            clear hz'
            have Kr := Lib.hid (Kept.refl Old w5)
            refine wp_region_held_drew (S := (fun w' => Kept Old w5 w' ∧ w'.cell? ⟨s3, 1, none⟩ = some (.slice (some ⟨g, o, none⟩) n c) ∧ w'.cell? ⟨sx, 0, none⟩ = some (.int .i64 a) ∧ w'.cell? ⟨sx, 1, none⟩ = some (.int .i64 cl) ∧ w'.cell? ⟨sx, 2, none⟩ = some (.int .i64 (-1)) ∧ w'.cell? ⟨g, o, none⟩ = some (.int .i64 z.a) ∧ w'.cell? ⟨g, o + 1, none⟩ = some (.int .i64 z.n) ∧ w'.cell? ⟨g, o + 2, none⟩ = some (.int .i64 z.c))) (by kernel_rfl) ⟨(Kept.refl Old w5).drew, a1, x0, x1, x2, z0, z1, z2⟩ (fun hHeld => ?_)
            refine wpAnyH_take (i := 0) (v := .int .i64 0) rfl (by kernel_rfl) (by decide +kernel) (by decide +kernel) (fun _ _ _ h => h) (Or.inl ⟨by rfl, fun w' hSw => ?_⟩) hHeld ?_
            · (go_simp)
            simp only [Act.put, List.getElem_toArray, List.getElem_cons_zero, List.setIfInBounds_toArray, List.set_cons_zero, List.set_cons_succ]
            refine wpAnyH_take (i := 1) (v := .bool false) rfl (by kernel_rfl) (by decide +kernel) (by decide +kernel) (fun _ _ _ h => h) (Or.inl ⟨by rfl, fun w' hSw => ?_⟩) hHeld ?_
            · (go_simp)
            simp only [Act.put, List.getElem_toArray, List.getElem_cons_succ, List.getElem_cons_zero, List.setIfInBounds_toArray, List.set_cons_zero, List.set_cons_succ]
            refine wpAnyH_take (i := 2) (v := .bool false) rfl (by kernel_rfl) (by decide +kernel) (by decide +kernel) (fun _ _ _ h => h) (Or.inl ⟨by rfl, fun w' hSw => ?_⟩) hHeld ?_
            · (go_simp)
            simp only [Act.put, List.getElem_toArray, List.getElem_cons_succ, List.getElem_cons_zero, List.setIfInBounds_toArray, List.set_cons_zero, List.set_cons_succ]
            refine wpAnyH_take (i := 3) (v := undef) rfl (by kernel_rfl) (by decide +kernel) (by decide +kernel) (fun _ _ _ h => h) (Or.inr ⟨by rfl, rfl⟩) hHeld ?_
            simp only [Act.put, List.getElem_toArray, List.getElem_cons_succ, List.getElem_cons_zero, List.setIfInBounds_toArray, List.set_cons_zero, List.set_cons_succ]
            refine wpAnyH_take (i := 4) (v := undef) rfl (by kernel_rfl) (by decide +kernel) (by decide +kernel) (fun _ _ _ h => h) (Or.inr ⟨by rfl, rfl⟩) hHeld ?_
            simp only [Act.put, List.getElem_toArray, List.getElem_cons_succ, List.getElem_cons_zero, List.setIfInBounds_toArray, List.set_cons_zero, List.set_cons_succ]
            refine wpAnyH_take (i := 5) (v := undef) rfl (by kernel_rfl) (by decide +kernel) (by decide +kernel) (fun _ _ _ h => h) (Or.inr ⟨by rfl, rfl⟩) hHeld ?_
            simp only [Act.put, List.getElem_toArray, List.getElem_cons_succ, List.getElem_cons_zero, List.setIfInBounds_toArray, List.set_cons_zero, List.set_cons_succ]
            refine wpAnyH_take (i := 6) (v := undef) rfl (by kernel_rfl) (by decide +kernel) (by decide +kernel) (fun _ _ _ h => h) (Or.inr ⟨by rfl, rfl⟩) hHeld ?_
            simp only [Act.put, List.getElem_toArray, List.getElem_cons_succ, List.getElem_cons_zero, List.setIfInBounds_toArray, List.set_cons_zero, List.set_cons_succ]
            refine wpAnyH_take (i := 7) (v := undef) rfl (by kernel_rfl) (by decide +kernel) (by decide +kernel) (fun _ _ _ h => h) (Or.inr ⟨by rfl, rfl⟩) hHeld ?_
            simp only [Act.put, List.getElem_toArray, List.getElem_cons_succ, List.getElem_cons_zero, List.setIfInBounds_toArray, List.set_cons_zero, List.set_cons_succ]
            refine wpAnyH_take (i := 8) (v := undef) rfl (by kernel_rfl) (by decide +kernel) (by decide +kernel) (fun _ _ _ h => h) (Or.inr ⟨by rfl, rfl⟩) hHeld ?_
            simp only [Act.put, List.getElem_toArray, List.getElem_cons_succ, List.getElem_cons_zero, List.setIfInBounds_toArray, List.set_cons_zero, List.set_cons_succ]
            refine wpAnyH_take (i := 9) (v := undef) rfl (by kernel_rfl) (by decide +kernel) (by decide +kernel) (fun _ _ _ h => h) (Or.inr ⟨by rfl, rfl⟩) hHeld ?_
            simp only [Act.put, List.getElem_toArray, List.getElem_cons_succ, List.getElem_cons_zero, List.setIfInBounds_toArray, List.set_cons_zero, List.set_cons_succ]
            refine wpAnyH_take (i := 10) (v := undef) rfl (by kernel_rfl) (by decide +kernel) (by decide +kernel) (fun _ _ _ h => h) (Or.inr ⟨by rfl, rfl⟩) hHeld ?_
            simp only [Act.put, List.getElem_toArray, List.getElem_cons_succ, List.getElem_cons_zero, List.setIfInBounds_toArray, List.set_cons_zero, List.set_cons_succ]
            refine wpAnyH_take (i := 11) (v := .bool false) rfl (by kernel_rfl) (by decide +kernel) (by decide +kernel) (fun _ _ _ h => h) (Or.inl ⟨by rfl, fun w' hSw => ?_⟩) hHeld ?_
            · (go_simp)
            simp only [Act.put, List.getElem_toArray, List.getElem_cons_succ, List.getElem_cons_zero, List.setIfInBounds_toArray, List.set_cons_zero, List.set_cons_succ]
            refine wpAnyH_take (i := 12) (v := .bool false) rfl (by kernel_rfl) (by decide +kernel) (by decide +kernel) (fun _ _ _ h => h) (Or.inl ⟨by rfl, fun w' hSw => ?_⟩) hHeld ?_
            · (go_simp)
            simp only [Act.put, List.getElem_toArray, List.getElem_cons_succ, List.getElem_cons_zero, List.setIfInBounds_toArray, List.set_cons_zero, List.set_cons_succ]
            refine wpAnyH_take (i := 13) (v := .int .i64 0) rfl (by kernel_rfl) (by decide +kernel) (by decide +kernel) (fun _ _ _ h => h) (Or.inl ⟨by rfl, fun w' hSw => ?_⟩) hHeld ?_
            · (go_simp)
            simp only [Act.put, List.getElem_toArray, List.getElem_cons_succ, List.getElem_cons_zero, List.setIfInBounds_toArray, List.set_cons_zero, List.set_cons_succ]
            refine wpAnyH_take (i := 14) (v := .pointer (some ⟨s3, 1, none⟩)) rfl (by kernel_rfl) (by decide +kernel) (by decide +kernel) (fun _ _ _ h => h) (Or.inl ⟨by rfl, fun w' hSw => ?_⟩) hHeld ?_
            · (go_simp)
            simp only [Act.put, List.getElem_toArray, List.getElem_cons_succ, List.getElem_cons_zero, List.setIfInBounds_toArray, List.set_cons_zero, List.set_cons_succ]
            refine wpAnyH_take (i := 15) (v := .slice (some ⟨g, o, none⟩) n c) rfl (by kernel_rfl) (by decide +kernel) (by decide +kernel) (fun _ _ _ h => h) (Or.inl ⟨by rfl, fun w' hSw => ?_⟩) hHeld ?_
            · (go_simp)
            simp only [Act.put, List.getElem_toArray, List.getElem_cons_succ, List.getElem_cons_zero, List.setIfInBounds_toArray, List.set_cons_zero, List.set_cons_succ]
            refine wpAnyH_take (i := 16) (v := .int .i64 (n : Int)) rfl (by kernel_rfl) (by decide +kernel) (by decide +kernel) (fun _ _ _ h => h) (Or.inl ⟨by rfl, fun w' hSw => ?_⟩) hHeld ?_
            · (go_simp)
            simp only [Act.put, List.getElem_toArray, List.getElem_cons_succ, List.getElem_cons_zero, List.setIfInBounds_toArray, List.set_cons_zero, List.set_cons_succ]
            refine wpAnyH_take (i := 17) (v := .bool true) rfl (by kernel_rfl) (by decide +kernel) (by decide +kernel) (fun _ _ _ h => h) (Or.inl ⟨by rfl, fun w' hSw => ?_⟩) hHeld ?_
            · (go_simp)
            simp only [Act.put, List.getElem_toArray, List.getElem_cons_succ, List.getElem_cons_zero, List.setIfInBounds_toArray, List.set_cons_zero, List.set_cons_succ]
            refine wpAnyH_take (i := 18) (v := .bool true) rfl (by kernel_rfl) (by decide +kernel) (by decide +kernel) (fun _ _ _ h => h) (Or.inl ⟨by rfl, fun w' hSw => ?_⟩) hHeld ?_
            · (go_simp)
            simp only [Act.put, List.getElem_toArray, List.getElem_cons_succ, List.getElem_cons_zero, List.setIfInBounds_toArray, List.set_cons_zero, List.set_cons_succ]
            refine wpAnyH_take (i := 19) (v := .pointer (some ⟨s3, 1, none⟩)) rfl (by kernel_rfl) (by decide +kernel) (by decide +kernel) (fun _ _ _ h => h) (Or.inl ⟨by rfl, fun w' hSw => ?_⟩) hHeld ?_
            · (go_simp)
            simp only [Act.put, List.getElem_toArray, List.getElem_cons_succ, List.getElem_cons_zero, List.setIfInBounds_toArray, List.set_cons_zero, List.set_cons_succ]
            refine wpAnyH_take (i := 20) (v := .slice (some ⟨g, o, none⟩) n c) rfl (by kernel_rfl) (by decide +kernel) (by decide +kernel) (fun _ _ _ h => h) (Or.inl ⟨by rfl, fun w' hSw => ?_⟩) hHeld ?_
            · (go_simp)
            simp only [Act.put, List.getElem_toArray, List.getElem_cons_succ, List.getElem_cons_zero, List.setIfInBounds_toArray, List.set_cons_zero, List.set_cons_succ]
            refine wpAnyH_take (i := 21) (v := .int .i64 0) rfl (by kernel_rfl) (by decide +kernel) (by decide +kernel) (fun _ _ _ h => h) (Or.inl ⟨by rfl, fun w' hSw => ?_⟩) hHeld ?_
            · (go_simp)
            simp only [Act.put, List.getElem_toArray, List.getElem_cons_succ, List.getElem_cons_zero, List.setIfInBounds_toArray, List.set_cons_zero, List.set_cons_succ]
            refine wpAnyH_take (i := 22) (v := .pointer (some ⟨g, o, none⟩)) rfl (by kernel_rfl) (by decide +kernel) (by decide +kernel) (fun _ _ _ h => h) (Or.inl ⟨by rfl, fun w' hSw => ?_⟩) hHeld ?_
            · (go_simp)
            simp only [Act.put, List.getElem_toArray, List.getElem_cons_succ, List.getElem_cons_zero, List.setIfInBounds_toArray, List.set_cons_zero, List.set_cons_succ]
            refine wpAnyH_take (i := 23) (v := .agg #[.int .i64 z.a, .int .i64 z.n, .int .i64 z.c]) rfl (by kernel_rfl) (by decide +kernel) (by decide +kernel) (fun _ _ _ h => h) (Or.inl ⟨by rfl, fun w' hSw => ?_⟩) hHeld ?_
            · (go_simp)
            simp only [Act.put, List.getElem_toArray, List.getElem_cons_succ, List.getElem_cons_zero, List.setIfInBounds_toArray, List.set_cons_zero, List.set_cons_succ]
            refine wpAnyH_take (i := 24) (v := .agg #[.int .i64 a, .int .i64 cl, .int .i64 (-1)]) rfl (by kernel_rfl) (by decide +kernel) (by decide +kernel) (fun _ _ _ h => h) (Or.inl ⟨by rfl, fun w' hSw => ?_⟩) hHeld ?_
            · (go_simp)
            simp only [Act.put, List.getElem_toArray, List.getElem_cons_succ, List.getElem_cons_zero, List.setIfInBounds_toArray, List.set_cons_zero, List.set_cons_succ]
            refine wpAnyH_ready (rs := [25]) (by decide +kernel) (by simp) (AllReadyH.cons rfl (fun K hK => ?_) AllReadyH.nil)
            simp only [List.getElem_toArray, List.getElem_cons_succ, List.getElem_cons_zero]
            rw [if_pos (by rfl)]
            go_simp
            go_at_call 179
            refine (ov2.out _).mono ?_
            rintro e w' ⟨rfl, k⟩
            refine hK.out _ _ ⟨hHeld.1.trans k, cell_on k hHeld.2.1, cell_on k hHeld.2.2.1, cell_on k hHeld.2.2.2.1, cell_on k hHeld.2.2.2.2.1, cell_on k hHeld.2.2.2.2.2.1, cell_on k hHeld.2.2.2.2.2.2.1, cell_on k hHeld.2.2.2.2.2.2.2⟩ (fun hHeld => ?_)
            clear hK K k
            refine wpAnyH_take (i := 26) (v := .bool true) rfl (by kernel_rfl) (by decide +kernel) (by decide +kernel) (fun _ _ _ h => h) (Or.inl ⟨by rfl, fun w' hSw => ?_⟩) hHeld ?_
            · (go_simp)
            simp only [Act.put, List.getElem_toArray, List.getElem_cons_succ, List.getElem_cons_zero, List.setIfInBounds_toArray, List.set_cons_zero, List.set_cons_succ]
            refine wpAnyH_take (i := 27) (v := .bool true) rfl (by kernel_rfl) (by decide +kernel) (by decide +kernel) (fun _ _ _ h => h) (Or.inl ⟨by rfl, fun w' hSw => ?_⟩) hHeld ?_
            · (go_simp)
            simp only [Act.put, List.getElem_toArray, List.getElem_cons_succ, List.getElem_cons_zero, List.setIfInBounds_toArray, List.set_cons_zero, List.set_cons_succ]
            refine wpAnyH_done (by decide +kernel) ?_ _
            have k6 := Lib.hid (‹Kept Old w5 _ ∧ _›).1
            have BX := Lib.hid (B7.out.old k6.out)
            have f0 := BX.out.f 0
            have f1 := BX.out.f 1
            have f2 := BX.out.f 2
            have r0 := BX.out.c0
            have r1 := BX.out.c1
            have r2 := BX.out.c2
            go_wp2_with fail
            obtain ⟨V9, hV9, q0, q1, q2, K9⟩ := BX.out.end3 (K1.out.trans k6.out) (by omega) 0 0 0
            rw [hV9]
            exact bodyPost_ret (v := .tuple #[.int .i64 0, .agg #[.int .i64 0, .int .i64 0, .int .i64 0], .bool false]) (by simp [results, Tryz.results150, go_sem, q0, q1, q2]) rfl ⟨by rw [RI.out, RX.out, RB.out], K9⟩
          | false =>
            have an := han
            have RB := Lib.hid (show roomB W l nn a = true from er)
            have RI := Lib.hid (show roomI W l nn a = 0 from (room_yes RB.out).1.trans (by rw [ep]; simp))
            have RX := Lib.hid (show roomX W l nn a = ⟨a, cl, -1⟩ from (room_yes RB.out).2.1.trans (by unfold newS; rw [hcl.out]))
            clear er han
            have hz := Lib.hid hz
            have ov2 := Lib.hid (fun V => mover_lit hz2 V HV.out.w1 (HV.out.at_ hz.out) ly.out)
            clear hz2
            have p3 : 0 < n := by have := (List.getElem?_eq_some_iff.1 hz.out).1; have := hlen.out; omega
            have p4 : (0 : Int) < (n : Int) := by omega
            go_enter Tryz.func150, Tryz.ntmps150
            go_wp2_with (first | (go_at_call 54; refine (CL.out _).mono ?_; rintro e w' ⟨rfl, rfl⟩) | (go_at_call 178; refine (LI.out _).mono ?_; rintro e w4 ⟨rfl, k4⟩; have K1 := Lib.hid (K1.out.trans k4); have B3 := Lib.hid (B3.out.old k4); have B7 := Lib.hid (B7.out.old k4); have a0 := B3.out.c0; have a1 := B3.out.c1; have s4 := k4.size; have l3 := Blk.lt B3.out; have l7 := Blk.lt B7.out; clear k4))
            have KX := Lib.hid ((Kept.refl Old w4).alloc (.cells #[.int .i64 a, .int .i64 cl, .int .i64 (-1)] 52))
            refine (C5.out _ (HR.out.old (K1.out.trans KX.out))).mono ?_
            rintro e w5 ⟨rfl, k5⟩
            have BN := Lib.hid ((BxS.new w4 ⟨a, cl, -1⟩).old k5)
            have k5 := Lib.hid (KX.out.trans k5)
            have K1 := Lib.hid (K1.out.trans k5.out)
            have B3 := Lib.hid (B3.out.old k5.out)
            have B7 := Lib.hid (B7.out.old k5.out)
            have a0 := B3.out.c0
            have a1 := B3.out.c1
            have x0 := BN.out.c0
            have x1 := BN.out.c1
            have x2 := BN.out.c2
            generalize hsx : w4.heap.size = sx at *
            clear KX k5
            go_wp2_with fail
            obtain ⟨g, o, z', rfl, hg, hz', _, z0, z1, z2⟩ := (HR.out.old K1.out).get (k := 0) (by omega)
            rw [hz.out] at hz'
            obtain rfl := Option.some.inj hz'
            simp only [Nat.zero_mul, Nat.add_zero] at z0 z1 z2
            clear hz'
            have Kr := Lib.hid (Kept.refl Old w5)
            refine wp_region_held_drew (S := (fun w' => Kept Old w5 w' ∧ w'.cell? ⟨s3, 1, none⟩ = some (.slice (some ⟨g, o, none⟩) n c) ∧ w'.cell? ⟨sx, 0, none⟩ = some (.int .i64 a) ∧ w'.cell? ⟨sx, 1, none⟩ = some (.int .i64 cl) ∧ w'.cell? ⟨sx, 2, none⟩ = some (.int .i64 (-1)) ∧ w'.cell? ⟨g, o, none⟩ = some (.int .i64 z.a) ∧ w'.cell? ⟨g, o + 1, none⟩ = some (.int .i64 z.n) ∧ w'.cell? ⟨g, o + 2, none⟩ = some (.int .i64 z.c))) (by kernel_rfl) ⟨(Kept.refl Old w5).drew, a1, x0, x1, x2, z0, z1, z2⟩ (fun hHeld => ?_)
            refine wpAnyH_take (i := 0) (v := .int .i64 0) rfl (by kernel_rfl) (by decide +kernel) (by decide +kernel) (fun _ _ _ h => h) (Or.inl ⟨by rfl, fun w' hSw => ?_⟩) hHeld ?_
            · (go_simp)
            simp only [Act.put, List.getElem_toArray, List.getElem_cons_zero, List.setIfInBounds_toArray, List.set_cons_zero, List.set_cons_succ]
            refine wpAnyH_take (i := 1) (v := .bool false) rfl (by kernel_rfl) (by decide +kernel) (by decide +kernel) (fun _ _ _ h => h) (Or.inl ⟨by rfl, fun w' hSw => ?_⟩) hHeld ?_
            · (go_simp)
            simp only [Act.put, List.getElem_toArray, List.getElem_cons_succ, List.getElem_cons_zero, List.setIfInBounds_toArray, List.set_cons_zero, List.set_cons_succ]
            refine wpAnyH_take (i := 2) (v := .bool false) rfl (by kernel_rfl) (by decide +kernel) (by decide +kernel) (fun _ _ _ h => h) (Or.inl ⟨by rfl, fun w' hSw => ?_⟩) hHeld ?_
            · (go_simp)
            simp only [Act.put, List.getElem_toArray, List.getElem_cons_succ, List.getElem_cons_zero, List.setIfInBounds_toArray, List.set_cons_zero, List.set_cons_succ]
            refine wpAnyH_take (i := 3) (v := undef) rfl (by kernel_rfl) (by decide +kernel) (by decide +kernel) (fun _ _ _ h => h) (Or.inr ⟨by rfl, rfl⟩) hHeld ?_
            simp only [Act.put, List.getElem_toArray, List.getElem_cons_succ, List.getElem_cons_zero, List.setIfInBounds_toArray, List.set_cons_zero, List.set_cons_succ]
            refine wpAnyH_take (i := 4) (v := undef) rfl (by kernel_rfl) (by decide +kernel) (by decide +kernel) (fun _ _ _ h => h) (Or.inr ⟨by rfl, rfl⟩) hHeld ?_
            simp only [Act.put, List.getElem_toArray, List.getElem_cons_succ, List.getElem_cons_zero, List.setIfInBounds_toArray, List.set_cons_zero, List.set_cons_succ]
            refine wpAnyH_take (i := 5) (v := undef) rfl (by kernel_rfl) (by decide +kernel) (by decide +kernel) (fun _ _ _ h => h) (Or.inr ⟨by rfl, rfl⟩) hHeld ?_
            simp only [Act.put, List.getElem_toArray, List.getElem_cons_succ, List.getElem_cons_zero, List.setIfInBounds_toArray, List.set_cons_zero, List.set_cons_succ]
            refine wpAnyH_take (i := 6) (v := undef) rfl (by kernel_rfl) (by decide +kernel) (by decide +kernel) (fun _ _ _ h => h) (Or.inr ⟨by rfl, rfl⟩) hHeld ?_
            simp only [Act.put, List.getElem_toArray, List.getElem_cons_succ, List.getElem_cons_zero, List.setIfInBounds_toArray, List.set_cons_zero, List.set_cons_succ]
            refine wpAnyH_take (i := 7) (v := undef) rfl (by kernel_rfl) (by decide +kernel) (by decide +kernel) (fun _ _ _ h => h) (Or.inr ⟨by rfl, rfl⟩) hHeld ?_
            simp only [Act.put, List.getElem_toArray, List.getElem_cons_succ, List.getElem_cons_zero, List.setIfInBounds_toArray, List.set_cons_zero, List.set_cons_succ]
            refine wpAnyH_take (i := 8) (v := undef) rfl (by kernel_rfl) (by decide +kernel) (by decide +kernel) (fun _ _ _ h => h) (Or.inr ⟨by rfl, rfl⟩) hHeld ?_
            simp only [Act.put, List.getElem_toArray, List.getElem_cons_succ, List.getElem_cons_zero, List.setIfInBounds_toArray, List.set_cons_zero, List.set_cons_succ]
            refine wpAnyH_take (i := 9) (v := undef) rfl (by kernel_rfl) (by decide +kernel) (by decide +kernel) (fun _ _ _ h => h) (Or.inr ⟨by rfl, rfl⟩) hHeld ?_
            simp only [Act.put, List.getElem_toArray, List.getElem_cons_succ, List.getElem_cons_zero, List.setIfInBounds_toArray, List.set_cons_zero, List.set_cons_succ]
            refine wpAnyH_take (i := 10) (v := undef) rfl (by kernel_rfl) (by decide +kernel) (by decide +kernel) (fun _ _ _ h => h) (Or.inr ⟨by rfl, rfl⟩) hHeld ?_
            simp only [Act.put, List.getElem_toArray, List.getElem_cons_succ, List.getElem_cons_zero, List.setIfInBounds_toArray, List.set_cons_zero, List.set_cons_succ]
            refine wpAnyH_take (i := 11) (v := .bool false) rfl (by kernel_rfl) (by decide +kernel) (by decide +kernel) (fun _ _ _ h => h) (Or.inl ⟨by rfl, fun w' hSw => ?_⟩) hHeld ?_
            · (go_simp)
            simp only [Act.put, List.getElem_toArray, List.getElem_cons_succ, List.getElem_cons_zero, List.setIfInBounds_toArray, List.set_cons_zero, List.set_cons_succ]
            refine wpAnyH_take (i := 12) (v := .bool false) rfl (by kernel_rfl) (by decide +kernel) (by decide +kernel) (fun _ _ _ h => h) (Or.inl ⟨by rfl, fun w' hSw => ?_⟩) hHeld ?_
            · (go_simp)
            simp only [Act.put, List.getElem_toArray, List.getElem_cons_succ, List.getElem_cons_zero, List.setIfInBounds_toArray, List.set_cons_zero, List.set_cons_succ]
            refine wpAnyH_take (i := 13) (v := .int .i64 0) rfl (by kernel_rfl) (by decide +kernel) (by decide +kernel) (fun _ _ _ h => h) (Or.inl ⟨by rfl, fun w' hSw => ?_⟩) hHeld ?_
            · (go_simp)
            simp only [Act.put, List.getElem_toArray, List.getElem_cons_succ, List.getElem_cons_zero, List.setIfInBounds_toArray, List.set_cons_zero, List.set_cons_succ]
            refine wpAnyH_take (i := 14) (v := .pointer (some ⟨s3, 1, none⟩)) rfl (by kernel_rfl) (by decide +kernel) (by decide +kernel) (fun _ _ _ h => h) (Or.inl ⟨by rfl, fun w' hSw => ?_⟩) hHeld ?_
            · (go_simp)
            simp only [Act.put, List.getElem_toArray, List.getElem_cons_succ, List.getElem_cons_zero, List.setIfInBounds_toArray, List.set_cons_zero, List.set_cons_succ]
            refine wpAnyH_take (i := 15) (v := .slice (some ⟨g, o, none⟩) n c) rfl (by kernel_rfl) (by decide +kernel) (by decide +kernel) (fun _ _ _ h => h) (Or.inl ⟨by rfl, fun w' hSw => ?_⟩) hHeld ?_
            · (go_simp)
            simp only [Act.put, List.getElem_toArray, List.getElem_cons_succ, List.getElem_cons_zero, List.setIfInBounds_toArray, List.set_cons_zero, List.set_cons_succ]
            refine wpAnyH_take (i := 16) (v := .int .i64 (n : Int)) rfl (by kernel_rfl) (by decide +kernel) (by decide +kernel) (fun _ _ _ h => h) (Or.inl ⟨by rfl, fun w' hSw => ?_⟩) hHeld ?_
            · (go_simp)
            simp only [Act.put, List.getElem_toArray, List.getElem_cons_succ, List.getElem_cons_zero, List.setIfInBounds_toArray, List.set_cons_zero, List.set_cons_succ]
            refine wpAnyH_take (i := 17) (v := .bool true) rfl (by kernel_rfl) (by decide +kernel) (by decide +kernel) (fun _ _ _ h => h) (Or.inl ⟨by rfl, fun w' hSw => ?_⟩) hHeld ?_
            · (go_simp)
            simp only [Act.put, List.getElem_toArray, List.getElem_cons_succ, List.getElem_cons_zero, List.setIfInBounds_toArray, List.set_cons_zero, List.set_cons_succ]
            refine wpAnyH_take (i := 18) (v := .bool true) rfl (by kernel_rfl) (by decide +kernel) (by decide +kernel) (fun _ _ _ h => h) (Or.inl ⟨by rfl, fun w' hSw => ?_⟩) hHeld ?_
            · (go_simp)
            simp only [Act.put, List.getElem_toArray, List.getElem_cons_succ, List.getElem_cons_zero, List.setIfInBounds_toArray, List.set_cons_zero, List.set_cons_succ]
            refine wpAnyH_take (i := 19) (v := .pointer (some ⟨s3, 1, none⟩)) rfl (by kernel_rfl) (by decide +kernel) (by decide +kernel) (fun _ _ _ h => h) (Or.inl ⟨by rfl, fun w' hSw => ?_⟩) hHeld ?_
            · (go_simp)
            simp only [Act.put, List.getElem_toArray, List.getElem_cons_succ, List.getElem_cons_zero, List.setIfInBounds_toArray, List.set_cons_zero, List.set_cons_succ]
            refine wpAnyH_take (i := 20) (v := .slice (some ⟨g, o, none⟩) n c) rfl (by kernel_rfl) (by decide +kernel) (by decide +kernel) (fun _ _ _ h => h) (Or.inl ⟨by rfl, fun w' hSw => ?_⟩) hHeld ?_
            · (go_simp)
            simp only [Act.put, List.getElem_toArray, List.getElem_cons_succ, List.getElem_cons_zero, List.setIfInBounds_toArray, List.set_cons_zero, List.set_cons_succ]
            refine wpAnyH_take (i := 21) (v := .int .i64 0) rfl (by kernel_rfl) (by decide +kernel) (by decide +kernel) (fun _ _ _ h => h) (Or.inl ⟨by rfl, fun w' hSw => ?_⟩) hHeld ?_
            · (go_simp)
            simp only [Act.put, List.getElem_toArray, List.getElem_cons_succ, List.getElem_cons_zero, List.setIfInBounds_toArray, List.set_cons_zero, List.set_cons_succ]
            refine wpAnyH_take (i := 22) (v := .pointer (some ⟨g, o, none⟩)) rfl (by kernel_rfl) (by decide +kernel) (by decide +kernel) (fun _ _ _ h => h) (Or.inl ⟨by rfl, fun w' hSw => ?_⟩) hHeld ?_
            · (go_simp)
            simp only [Act.put, List.getElem_toArray, List.getElem_cons_succ, List.getElem_cons_zero, List.setIfInBounds_toArray, List.set_cons_zero, List.set_cons_succ]
            refine wpAnyH_take (i := 23) (v := .agg #[.int .i64 z.a, .int .i64 z.n, .int .i64 z.c]) rfl (by kernel_rfl) (by decide +kernel) (by decide +kernel) (fun _ _ _ h => h) (Or.inl ⟨by rfl, fun w' hSw => ?_⟩) hHeld ?_
            · (go_simp)
            simp only [Act.put, List.getElem_toArray, List.getElem_cons_succ, List.getElem_cons_zero, List.setIfInBounds_toArray, List.set_cons_zero, List.set_cons_succ]
            refine wpAnyH_take (i := 24) (v := .agg #[.int .i64 a, .int .i64 cl, .int .i64 (-1)]) rfl (by kernel_rfl) (by decide +kernel) (by decide +kernel) (fun _ _ _ h => h) (Or.inl ⟨by rfl, fun w' hSw => ?_⟩) hHeld ?_
            · (go_simp)
            simp only [Act.put, List.getElem_toArray, List.getElem_cons_succ, List.getElem_cons_zero, List.setIfInBounds_toArray, List.set_cons_zero, List.set_cons_succ]
            refine wpAnyH_ready (rs := [25]) (by decide +kernel) (by simp) (AllReadyH.cons rfl (fun K hK => ?_) AllReadyH.nil)
            simp only [List.getElem_toArray, List.getElem_cons_succ, List.getElem_cons_zero]
            rw [if_pos (by rfl)]
            go_simp
            go_at_call 179
            refine (ov2.out _).mono ?_
            rintro e w' ⟨rfl, k⟩
            refine hK.out _ _ ⟨hHeld.1.trans k, cell_on k hHeld.2.1, cell_on k hHeld.2.2.1, cell_on k hHeld.2.2.2.1, cell_on k hHeld.2.2.2.2.1, cell_on k hHeld.2.2.2.2.2.1, cell_on k hHeld.2.2.2.2.2.2.1, cell_on k hHeld.2.2.2.2.2.2.2⟩ (fun hHeld => ?_)
            clear hK K k
            refine wpAnyH_take (i := 26) (v := .bool false) rfl (by kernel_rfl) (by decide +kernel) (by decide +kernel) (fun _ _ _ h => h) (Or.inl ⟨by rfl, fun w' hSw => ?_⟩) hHeld ?_
            · (go_simp)
            simp only [Act.put, List.getElem_toArray, List.getElem_cons_succ, List.getElem_cons_zero, List.setIfInBounds_toArray, List.set_cons_zero, List.set_cons_succ]
            refine wpAnyH_take (i := 27) (v := .bool false) rfl (by kernel_rfl) (by decide +kernel) (by decide +kernel) (fun _ _ _ h => h) (Or.inl ⟨by rfl, fun w' hSw => ?_⟩) hHeld ?_
            · (go_simp)
            simp only [Act.put, List.getElem_toArray, List.getElem_cons_succ, List.getElem_cons_zero, List.setIfInBounds_toArray, List.set_cons_zero, List.set_cons_succ]
            refine wpAnyH_done (by decide +kernel) ?_ _
            have k6 := Lib.hid (‹Kept Old w5 _ ∧ _›).1
            have BX := Lib.hid (B7.out.old k6.out)
            have f0 := BX.out.f 0
            have f1 := BX.out.f 1
            have f2 := BX.out.f 2
            have r0 := BX.out.c0
            have r1 := BX.out.c1
            have r2 := BX.out.c2
            have BN := Lib.hid (BN.out.old k6.out)
            have x0 := BN.out.c0
            have x1 := BN.out.c1
            have x2 := BN.out.c2
            go_wp2_with fail
            go_region
            go_wp2
            obtain ⟨V9, hV9, q0, q1, q2, K9⟩ := BX.out.end3 (K1.out.trans k6.out) (by omega) a cl (-1)
            rw [hV9]
            have q0 : V9.drew.cell? ⟨s3 + 1, 0, none⟩ = _ := q0
            have q1 : V9.drew.cell? ⟨s3 + 1, 1, none⟩ = _ := q1
            have q2 : V9.drew.cell? ⟨s3 + 1, 2, none⟩ = _ := q2
            have K9 := K9.drew
            exact bodyPost_ret (v := .tuple #[.int .i64 0, .agg #[.int .i64 a, .int .i64 cl, .int .i64 (-1)], .bool true]) (by simp [results, Tryz.results150, go_sem, q0, q1, q2]) rfl ⟨by rw [RI.out, RX.out, RB.out], K9⟩
      · rw [ep] at C5 up
        simp only [Int.natCast_add, Int.cast_ofNat_Int] at C5
        rcases up with ⟨hz, rfl⟩ | ⟨z, hz, hz2⟩
        · have an := han
          have RB := Lib.hid (show roomB W l nn a = true from er)
          have RI := Lib.hid (show roomI W l nn a = ((m : Int) + 1) from (room_yes RB.out).1.trans (by rw [ep]; simp))
          have RX := Lib.hid (show roomX W l nn a = ⟨a, cl, -1⟩ from (room_yes RB.out).2.1.trans (by unfold newS; rw [hcl.out]))
          clear er han
          have hy := Lib.hid hy
          have ov1 := Lib.hid (fun V => mover_lit hh V HV.out.w1 (HV.out.at_ hy.out) ly.out)
          have m3 : m < n := by have := (List.getElem?_eq_some_iff.1 hy.out).1; have := hlen.out; omega
          have w1 : IntKind.i64.wrap ((m : Int) + 1 - 1) = (m : Int) := by rw [IntWalk.i64_in _ (by omega)]; omega
          have w2 : IntKind.i64.wrap (m : Int) = (m : Int) := IntWalk.i64_in _ (by omega)
          have m2 : (0 : Int) < (m : Int) + 1 := by omega
          have m4 : (m : Int) < (n : Int) := by omega
          clear hh
          have p4 : ¬ (m : Int) + 1 < (n : Int) := by have := List.getElem?_eq_none_iff.1 hz; have := hlen.out; omega
          clear hz
          go_enter Tryz.func150, Tryz.ntmps150
          go_wp2_with (first | (go_at_call 54; refine (CL.out _).mono ?_; rintro e w' ⟨rfl, rfl⟩) | (go_at_call 178; refine (LI.out _).mono ?_; rintro e w4 ⟨rfl, k4⟩; have K1 := Lib.hid (K1.out.trans k4); have B3 := Lib.hid (B3.out.old k4); have B7 := Lib.hid (B7.out.old k4); have a0 := B3.out.c0; have a1 := B3.out.c1; have s4 := k4.size; have l3 := Blk.lt B3.out; have l7 := Blk.lt B7.out; clear k4))
          have KX := Lib.hid ((Kept.refl Old w4).alloc (.cells #[.int .i64 a, .int .i64 cl, .int .i64 (-1)] 52))
          refine (C5.out _ (HR.out.old (K1.out.trans KX.out))).mono ?_
          rintro e w5 ⟨rfl, k5⟩
          have BN := Lib.hid ((BxS.new w4 ⟨a, cl, -1⟩).old k5)
          have k5 := Lib.hid (KX.out.trans k5)
          have K1 := Lib.hid (K1.out.trans k5.out)
          have B3 := Lib.hid (B3.out.old k5.out)
          have B7 := Lib.hid (B7.out.old k5.out)
          have a0 := B3.out.c0
          have a1 := B3.out.c1
          have x0 := BN.out.c0
          have x1 := BN.out.c1
          have x2 := BN.out.c2
          generalize hsx : w4.heap.size = sx at *
          clear KX k5
          go_wp2_with fail
          obtain ⟨g, o, y', rfl, hg, hy', _, y0, y1, y2⟩ := (HR.out.old K1.out).get (k := m) (by omega)
          rw [hy.out] at hy'
          obtain rfl := Option.some.inj hy'
          clear hy'
          have Kr := Lib.hid (Kept.refl Old w5)
          refine wp_region_held_drew (S := (fun w' => Kept Old w5 w' ∧ w'.cell? ⟨s3, 1, none⟩ = some (.slice (some ⟨g, o, none⟩) n c) ∧ w'.cell? ⟨sx, 0, none⟩ = some (.int .i64 a) ∧ w'.cell? ⟨sx, 1, none⟩ = some (.int .i64 cl) ∧ w'.cell? ⟨sx, 2, none⟩ = some (.int .i64 (-1)) ∧ w'.cell? ⟨g, o + m * 3, none⟩ = some (.int .i64 y.a) ∧ w'.cell? ⟨g, o + m * 3 + 1, none⟩ = some (.int .i64 y.n) ∧ w'.cell? ⟨g, o + m * 3 + 2, none⟩ = some (.int .i64 y.c))) (by kernel_rfl) ⟨(Kept.refl Old w5).drew, a1, x0, x1, x2, y0, y1, y2⟩ (fun hHeld => ?_)
          refine wpAnyH_take (i := 0) (v := .int .i64 ((m : Int) + 1)) rfl (by kernel_rfl) (by decide +kernel) (by decide +kernel) (fun _ _ _ h => h) (Or.inl ⟨by rfl, fun w' hSw => ?_⟩) hHeld ?_
          · (go_simp)
          simp only [Act.put, List.getElem_toArray, List.getElem_cons_zero, List.setIfInBounds_toArray, List.set_cons_zero, List.set_cons_succ]
          refine wpAnyH_take (i := 1) (v := .bool true) rfl (by kernel_rfl) (by decide +kernel) (by decide +kernel) (fun _ _ _ h => h) (Or.inl ⟨by rfl, fun w' hSw => ?_⟩) hHeld ?_
          · (go_simp)
          simp only [Act.put, List.getElem_toArray, List.getElem_cons_succ, List.getElem_cons_zero, List.setIfInBounds_toArray, List.set_cons_zero, List.set_cons_succ]
          refine wpAnyH_take (i := 2) (v := .bool true) rfl (by kernel_rfl) (by decide +kernel) (by decide +kernel) (fun _ _ _ h => h) (Or.inl ⟨by rfl, fun w' hSw => ?_⟩) hHeld ?_
          · (go_simp)
          simp only [Act.put, List.getElem_toArray, List.getElem_cons_succ, List.getElem_cons_zero, List.setIfInBounds_toArray, List.set_cons_zero, List.set_cons_succ]
          refine wpAnyH_take (i := 3) (v := .pointer (some ⟨s3, 1, none⟩)) rfl (by kernel_rfl) (by decide +kernel) (by decide +kernel) (fun _ _ _ h => h) (Or.inl ⟨by rfl, fun w' hSw => ?_⟩) hHeld ?_
          · (go_simp)
          simp only [Act.put, List.getElem_toArray, List.getElem_cons_succ, List.getElem_cons_zero, List.setIfInBounds_toArray, List.set_cons_zero, List.set_cons_succ]
          refine wpAnyH_take (i := 4) (v := .slice (some ⟨g, o, none⟩) n c) rfl (by kernel_rfl) (by decide +kernel) (by decide +kernel) (fun _ _ _ h => h) (Or.inl ⟨by rfl, fun w' hSw => ?_⟩) hHeld ?_
          · (go_simp)
          simp only [Act.put, List.getElem_toArray, List.getElem_cons_succ, List.getElem_cons_zero, List.setIfInBounds_toArray, List.set_cons_zero, List.set_cons_succ]
          refine wpAnyH_take (i := 5) (v := .int .i64 ((m : Int) + 1)) rfl (by kernel_rfl) (by decide +kernel) (by decide +kernel) (fun _ _ _ h => h) (Or.inl ⟨by rfl, fun w' hSw => ?_⟩) hHeld ?_
          · (go_simp)
          simp only [Act.put, List.getElem_toArray, List.getElem_cons_succ, List.getElem_cons_zero, List.setIfInBounds_toArray, List.set_cons_zero, List.set_cons_succ]
          refine wpAnyH_take (i := 6) (v := .int .i64 (m : Int)) rfl (by kernel_rfl) (by decide +kernel) (by decide +kernel) (fun _ _ _ h => h) (Or.inl ⟨by rfl, fun w' hSw => ?_⟩) hHeld ?_
          · (go_simp)
          simp only [Act.put, List.getElem_toArray, List.getElem_cons_succ, List.getElem_cons_zero, List.setIfInBounds_toArray, List.set_cons_zero, List.set_cons_succ]
          refine wpAnyH_take (i := 7) (v := .pointer (some ⟨g, o + m * 3, none⟩)) rfl (by kernel_rfl) (by decide +kernel) (by decide +kernel) (fun _ _ _ h => h) (Or.inl ⟨by rfl, fun w' hSw => ?_⟩) hHeld ?_
          · (go_simp)
          simp only [Act.put, List.getElem_toArray, List.getElem_cons_succ, List.getElem_cons_zero, List.setIfInBounds_toArray, List.set_cons_zero, List.set_cons_succ]
          refine wpAnyH_take (i := 8) (v := .agg #[.int .i64 y.a, .int .i64 y.n, .int .i64 y.c]) rfl (by kernel_rfl) (by decide +kernel) (by decide +kernel) (fun _ _ _ h => h) (Or.inl ⟨by rfl, fun w' hSw => ?_⟩) hHeld ?_
          · (go_simp)
          simp only [Act.put, List.getElem_toArray, List.getElem_cons_succ, List.getElem_cons_zero, List.setIfInBounds_toArray, List.set_cons_zero, List.set_cons_succ]
          refine wpAnyH_take (i := 9) (v := .agg #[.int .i64 a, .int .i64 cl, .int .i64 (-1)]) rfl (by kernel_rfl) (by decide +kernel) (by decide +kernel) (fun _ _ _ h => h) (Or.inl ⟨by rfl, fun w' hSw => ?_⟩) hHeld ?_
          · (go_simp)
          simp only [Act.put, List.getElem_toArray, List.getElem_cons_succ, List.getElem_cons_zero, List.setIfInBounds_toArray, List.set_cons_zero, List.set_cons_succ]
          refine wpAnyH_ready (rs := [10]) (by decide +kernel) (by simp) (AllReadyH.cons rfl (fun K hK => ?_) AllReadyH.nil)
          simp only [List.getElem_toArray, List.getElem_cons_succ, List.getElem_cons_zero]
          rw [if_pos (by rfl)]
          go_simp
          go_at_call 179
          refine (ov1.out _).mono ?_
          rintro e w' ⟨rfl, k⟩
          refine hK.out _ _ ⟨hHeld.1.trans k, cell_on k hHeld.2.1, cell_on k hHeld.2.2.1, cell_on k hHeld.2.2.2.1, cell_on k hHeld.2.2.2.2.1, cell_on k hHeld.2.2.2.2.2.1, cell_on k hHeld.2.2.2.2.2.2.1, cell_on k hHeld.2.2.2.2.2.2.2⟩ (fun hHeld => ?_)
          clear hK K k
          refine wpAnyH_take (i := 11) (v := .bool false) rfl (by kernel_rfl) (by decide +kernel) (by decide +kernel) (fun _ _ _ h => h) (Or.inl ⟨by rfl, fun w' hSw => ?_⟩) hHeld ?_
          · (go_simp)
          simp only [Act.put, List.getElem_toArray, List.getElem_cons_succ, List.getElem_cons_zero, List.setIfInBounds_toArray, List.set_cons_zero, List.set_cons_succ]
          refine wpAnyH_take (i := 12) (v := .bool false) rfl (by kernel_rfl) (by decide +kernel) (by decide +kernel) (fun _ _ _ h => h) (Or.inl ⟨by rfl, fun w' hSw => ?_⟩) hHeld ?_
          · (go_simp)
          simp only [Act.put, List.getElem_toArray, List.getElem_cons_succ, List.getElem_cons_zero, List.setIfInBounds_toArray, List.set_cons_zero, List.set_cons_succ]
          refine wpAnyH_take (i := 13) (v := .int .i64 ((m : Int) + 1)) rfl (by kernel_rfl) (by decide +kernel) (by decide +kernel) (fun _ _ _ h => h) (Or.inl ⟨by rfl, fun w' hSw => ?_⟩) hHeld ?_
          · (go_simp)
          simp only [Act.put, List.getElem_toArray, List.getElem_cons_succ, List.getElem_cons_zero, List.setIfInBounds_toArray, List.set_cons_zero, List.set_cons_succ]
          refine wpAnyH_take (i := 14) (v := .pointer (some ⟨s3, 1, none⟩)) rfl (by kernel_rfl) (by decide +kernel) (by decide +kernel) (fun _ _ _ h => h) (Or.inl ⟨by rfl, fun w' hSw => ?_⟩) hHeld ?_
          · (go_simp)
          simp only [Act.put, List.getElem_toArray, List.getElem_cons_succ, List.getElem_cons_zero, List.setIfInBounds_toArray, List.set_cons_zero, List.set_cons_succ]
          refine wpAnyH_take (i := 15) (v := .slice (some ⟨g, o, none⟩) n c) rfl (by kernel_rfl) (by decide +kernel) (by decide +kernel) (fun _ _ _ h => h) (Or.inl ⟨by rfl, fun w' hSw => ?_⟩) hHeld ?_
          · (go_simp)
          simp only [Act.put, List.getElem_toArray, List.getElem_cons_succ, List.getElem_cons_zero, List.setIfInBounds_toArray, List.set_cons_zero, List.set_cons_succ]
          refine wpAnyH_take (i := 16) (v := .int .i64 (n : Int)) rfl (by kernel_rfl) (by decide +kernel) (by decide +kernel) (fun _ _ _ h => h) (Or.inl ⟨by rfl, fun w' hSw => ?_⟩) hHeld ?_
          · (go_simp)
          simp only [Act.put, List.getElem_toArray, List.getElem_cons_succ, List.getElem_cons_zero, List.setIfInBounds_toArray, List.set_cons_zero, List.set_cons_succ]
          refine wpAnyH_take (i := 17) (v := .bool false) rfl (by kernel_rfl) (by decide +kernel) (by decide +kernel) (fun _ _ _ h => h) (Or.inl ⟨by rfl, fun w' hSw => ?_⟩) hHeld ?_
          · (go_simp)
          simp only [Act.put, List.getElem_toArray, List.getElem_cons_succ, List.getElem_cons_zero, List.setIfInBounds_toArray, List.set_cons_zero, List.set_cons_succ]
          refine wpAnyH_take (i := 18) (v := .bool false) rfl (by kernel_rfl) (by decide +kernel) (by decide +kernel) (fun _ _ _ h => h) (Or.inl ⟨by rfl, fun w' hSw => ?_⟩) hHeld ?_
          · (go_simp)
          simp only [Act.put, List.getElem_toArray, List.getElem_cons_succ, List.getElem_cons_zero, List.setIfInBounds_toArray, List.set_cons_zero, List.set_cons_succ]
          refine wpAnyH_take (i := 19) (v := undef) rfl (by kernel_rfl) (by decide +kernel) (by decide +kernel) (fun _ _ _ h => h) (Or.inr ⟨by rfl, rfl⟩) hHeld ?_
          simp only [Act.put, List.getElem_toArray, List.getElem_cons_succ, List.getElem_cons_zero, List.setIfInBounds_toArray, List.set_cons_zero, List.set_cons_succ]
          refine wpAnyH_take (i := 20) (v := undef) rfl (by kernel_rfl) (by decide +kernel) (by decide +kernel) (fun _ _ _ h => h) (Or.inr ⟨by rfl, rfl⟩) hHeld ?_
          simp only [Act.put, List.getElem_toArray, List.getElem_cons_succ, List.getElem_cons_zero, List.setIfInBounds_toArray, List.set_cons_zero, List.set_cons_succ]
          refine wpAnyH_take (i := 21) (v := undef) rfl (by kernel_rfl) (by decide +kernel) (by decide +kernel) (fun _ _ _ h => h) (Or.inr ⟨by rfl, rfl⟩) hHeld ?_
          simp only [Act.put, List.getElem_toArray, List.getElem_cons_succ, List.getElem_cons_zero, List.setIfInBounds_toArray, List.set_cons_zero, List.set_cons_succ]
          refine wpAnyH_take (i := 22) (v := undef) rfl (by kernel_rfl) (by decide +kernel) (by decide +kernel) (fun _ _ _ h => h) (Or.inr ⟨by rfl, rfl⟩) hHeld ?_
          simp only [Act.put, List.getElem_toArray, List.getElem_cons_succ, List.getElem_cons_zero, List.setIfInBounds_toArray, List.set_cons_zero, List.set_cons_succ]
          refine wpAnyH_take (i := 23) (v := undef) rfl (by kernel_rfl) (by decide +kernel) (by decide +kernel) (fun _ _ _ h => h) (Or.inr ⟨by rfl, rfl⟩) hHeld ?_
          simp only [Act.put, List.getElem_toArray, List.getElem_cons_succ, List.getElem_cons_zero, List.setIfInBounds_toArray, List.set_cons_zero, List.set_cons_succ]
          refine wpAnyH_take (i := 24) (v := undef) rfl (by kernel_rfl) (by decide +kernel) (by decide +kernel) (fun _ _ _ h => h) (Or.inr ⟨by rfl, rfl⟩) hHeld ?_
          simp only [Act.put, List.getElem_toArray, List.getElem_cons_succ, List.getElem_cons_zero, List.setIfInBounds_toArray, List.set_cons_zero, List.set_cons_succ]
          refine wpAnyH_take (i := 25) (v := undef) rfl (by kernel_rfl) (by decide +kernel) (by decide +kernel) (fun _ _ _ h => h) (Or.inr ⟨by rfl, rfl⟩) hHeld ?_
          simp only [Act.put, List.getElem_toArray, List.getElem_cons_succ, List.getElem_cons_zero, List.setIfInBounds_toArray, List.set_cons_zero, List.set_cons_succ]
          refine wpAnyH_take (i := 26) (v := .bool false) rfl (by kernel_rfl) (by decide +kernel) (by decide +kernel) (fun _ _ _ h => h) (Or.inl ⟨by rfl, fun w' hSw => ?_⟩) hHeld ?_
          · (go_simp)
          simp only [Act.put, List.getElem_toArray, List.getElem_cons_succ, List.getElem_cons_zero, List.setIfInBounds_toArray, List.set_cons_zero, List.set_cons_succ]
          refine wpAnyH_take (i := 27) (v := .bool false) rfl (by kernel_rfl) (by decide +kernel) (by decide +kernel) (fun _ _ _ h => h) (Or.inl ⟨by rfl, fun w' hSw => ?_⟩) hHeld ?_
          · (go_simp)
          simp only [Act.put, List.getElem_toArray, List.getElem_cons_succ, List.getElem_cons_zero, List.setIfInBounds_toArray, List.set_cons_zero, List.set_cons_succ]
          refine wpAnyH_done (by decide +kernel) ?_ _
          have k6 := Lib.hid (‹Kept Old w5 _ ∧ _›).1
          have BX := Lib.hid (B7.out.old k6.out)
          have f0 := BX.out.f 0
          have f1 := BX.out.f 1
          have f2 := BX.out.f 2
          have r0 := BX.out.c0
          have r1 := BX.out.c1
          have r2 := BX.out.c2
          have BN := Lib.hid (BN.out.old k6.out)
          have x0 := BN.out.c0
          have x1 := BN.out.c1
          have x2 := BN.out.c2
          go_wp2_with fail
          go_region
          go_wp2
          obtain ⟨V9, hV9, q0, q1, q2, K9⟩ := BX.out.end3 (K1.out.trans k6.out) (by omega) a cl (-1)
          rw [hV9]
          have q0 : V9.drew.cell? ⟨s3 + 1, 0, none⟩ = _ := q0
          have q1 : V9.drew.cell? ⟨s3 + 1, 1, none⟩ = _ := q1
          have q2 : V9.drew.cell? ⟨s3 + 1, 2, none⟩ = _ := q2
          have K9 := K9.drew
          exact bodyPost_ret (v := .tuple #[.int .i64 ((m : Int) + 1), .agg #[.int .i64 a, .int .i64 cl, .int .i64 (-1)], .bool true]) (by simp [results, Tryz.results150, go_sem, q0, q1, q2]) rfl ⟨by rw [RI.out, RX.out, RB.out], K9⟩
        · cases an with
          | true =>
            have an := han
            have RB := Lib.hid (show roomB W l nn a = false from er)
            have RI := Lib.hid (room_no RB.out).1
            have RX := Lib.hid (room_no RB.out).2.1
            clear er han
            have hy := Lib.hid hy
            have ov1 := Lib.hid (fun V => mover_lit hh V HV.out.w1 (HV.out.at_ hy.out) ly.out)
            have m3 : m < n := by have := (List.getElem?_eq_some_iff.1 hy.out).1; have := hlen.out; omega
            have w1 : IntKind.i64.wrap ((m : Int) + 1 - 1) = (m : Int) := by rw [IntWalk.i64_in _ (by omega)]; omega
            have w2 : IntKind.i64.wrap (m : Int) = (m : Int) := IntWalk.i64_in _ (by omega)
            have m2 : (0 : Int) < (m : Int) + 1 := by omega
            have m4 : (m : Int) < (n : Int) := by omega
            clear hh
            have hz := Lib.hid hz
            have ov2 := Lib.hid (fun V => mover_lit hz2 V HV.out.w1 (HV.out.at_ hz.out) ly.out)
            clear hz2
            have p3 : m + 1 < n := by have := (List.getElem?_eq_some_iff.1 hz.out).1; have := hlen.out; omega
            have p4 : (m : Int) + 1 < (n : Int) := by omega
            have p5 : ((m : Int) + 1).toNat = m + 1 := by omega
            have p6 : (0 : Int) ≤ (m : Int) + 1 := by omega
            go_enter Tryz.func150, Tryz.ntmps150
            go_wp2_with (first | (go_at_call 54; refine (CL.out _).mono ?_; rintro e w' ⟨rfl, rfl⟩) | (go_at_call 178; refine (LI.out _).mono ?_; rintro e w4 ⟨rfl, k4⟩; have K1 := Lib.hid (K1.out.trans k4); have B3 := Lib.hid (B3.out.old k4); have B7 := Lib.hid (B7.out.old k4); have a0 := B3.out.c0; have a1 := B3.out.c1; have s4 := k4.size; have l3 := Blk.lt B3.out; have l7 := Blk.lt B7.out; clear k4))
            have KX := Lib.hid ((Kept.refl Old w4).alloc (.cells #[.int .i64 a, .int .i64 cl, .int .i64 (-1)] 52))
            refine (C5.out _ (HR.out.old (K1.out.trans KX.out))).mono ?_
            rintro e w5 ⟨rfl, k5⟩
            have BN := Lib.hid ((BxS.new w4 ⟨a, cl, -1⟩).old k5)
            have k5 := Lib.hid (KX.out.trans k5)
            have K1 := Lib.hid (K1.out.trans k5.out)
            have B3 := Lib.hid (B3.out.old k5.out)
            have B7 := Lib.hid (B7.out.old k5.out)
            have a0 := B3.out.c0
            have a1 := B3.out.c1
            have x0 := BN.out.c0
            have x1 := BN.out.c1
            have x2 := BN.out.c2
            generalize hsx : w4.heap.size = sx at *
            clear KX k5
            go_wp2_with fail
            obtain ⟨g, o, y', rfl, hg, hy', _, y0, y1, y2⟩ := (HR.out.old K1.out).get (k := m) (by omega)
            rw [hy.out] at hy'
            obtain rfl := Option.some.inj hy'
            clear hy'
            obtain ⟨g2, o2, z', eA, _, hz', _, z0, z1, z2⟩ := (HR.out.old K1.out).get (k := m + 1) (by omega)
            injection eA with eA
            injection eA with eg eo
            subst eg
            subst eo
            rw [hz.out] at hz'
            obtain rfl := Option.some.inj hz'
            clear hz'
            have Kr := Lib.hid (Kept.refl Old w5)
            refine wp_region_held_drew (S := (fun w' => Kept Old w5 w' ∧ w'.cell? ⟨s3, 1, none⟩ = some (.slice (some ⟨g, o, none⟩) n c) ∧ w'.cell? ⟨sx, 0, none⟩ = some (.int .i64 a) ∧ w'.cell? ⟨sx, 1, none⟩ = some (.int .i64 cl) ∧ w'.cell? ⟨sx, 2, none⟩ = some (.int .i64 (-1)) ∧ w'.cell? ⟨g, o + m * 3, none⟩ = some (.int .i64 y.a) ∧ w'.cell? ⟨g, o + m * 3 + 1, none⟩ = some (.int .i64 y.n) ∧ w'.cell? ⟨g, o + m * 3 + 2, none⟩ = some (.int .i64 y.c) ∧ w'.cell? ⟨g, o + (m + 1) * 3, none⟩ = some (.int .i64 z.a) ∧ w'.cell? ⟨g, o + (m + 1) * 3 + 1, none⟩ = some (.int .i64 z.n) ∧ w'.cell? ⟨g, o + (m + 1) * 3 + 2, none⟩ = some (.int .i64 z.c))) (by kernel_rfl) ⟨(Kept.refl Old w5).drew, a1, x0, x1, x2, y0, y1, y2, z0, z1, z2⟩ (fun hHeld => ?_)
            refine wpAnyH_take (i := 0) (v := .int .i64 ((m : Int) + 1)) rfl (by kernel_rfl) (by decide +kernel) (by decide +kernel) (fun _ _ _ h => h) (Or.inl ⟨by rfl, fun w' hSw => ?_⟩) hHeld ?_
            · (go_simp)
            simp only [Act.put, List.getElem_toArray, List.getElem_cons_zero, List.setIfInBounds_toArray, List.set_cons_zero, List.set_cons_succ]
            refine wpAnyH_take (i := 1) (v := .bool true) rfl (by kernel_rfl) (by decide +kernel) (by decide +kernel) (fun _ _ _ h => h) (Or.inl ⟨by rfl, fun w' hSw => ?_⟩) hHeld ?_
            · (go_simp)
            simp only [Act.put, List.getElem_toArray, List.getElem_cons_succ, List.getElem_cons_zero, List.setIfInBounds_toArray, List.set_cons_zero, List.set_cons_succ]
            refine wpAnyH_take (i := 2) (v := .bool true) rfl (by kernel_rfl) (by decide +kernel) (by decide +kernel) (fun _ _ _ h => h) (Or.inl ⟨by rfl, fun w' hSw => ?_⟩) hHeld ?_
            · (go_simp)
            simp only [Act.put, List.getElem_toArray, List.getElem_cons_succ, List.getElem_cons_zero, List.setIfInBounds_toArray, List.set_cons_zero, List.set_cons_succ]
            refine wpAnyH_take (i := 3) (v := .pointer (some ⟨s3, 1, none⟩)) rfl (by kernel_rfl) (by decide +kernel) (by decide +kernel) (fun _ _ _ h => h) (Or.inl ⟨by rfl, fun w' hSw => ?_⟩) hHeld ?_
            · (go_simp)
            simp only [Act.put, List.getElem_toArray, List.getElem_cons_succ, List.getElem_cons_zero, List.setIfInBounds_toArray, List.set_cons_zero, List.set_cons_succ]
            refine wpAnyH_take (i := 4) (v := .slice (some ⟨g, o, none⟩) n c) rfl (by kernel_rfl) (by decide +kernel) (by decide +kernel) (fun _ _ _ h => h) (Or.inl ⟨by rfl, fun w' hSw => ?_⟩) hHeld ?_
            · (go_simp)
            simp only [Act.put, List.getElem_toArray, List.getElem_cons_succ, List.getElem_cons_zero, List.setIfInBounds_toArray, List.set_cons_zero, List.set_cons_succ]
            refine wpAnyH_take (i := 5) (v := .int .i64 ((m : Int) + 1)) rfl (by kernel_rfl) (by decide +kernel) (by decide +kernel) (fun _ _ _ h => h) (Or.inl ⟨by rfl, fun w' hSw => ?_⟩) hHeld ?_
            · (go_simp)
            simp only [Act.put, List.getElem_toArray, List.getElem_cons_succ, List.getElem_cons_zero, List.setIfInBounds_toArray, List.set_cons_zero, List.set_cons_succ]
            refine wpAnyH_take (i := 6) (v := .int .i64 (m : Int)) rfl (by kernel_rfl) (by decide +kernel) (by decide +kernel) (fun _ _ _ h => h) (Or.inl ⟨by rfl, fun w' hSw => ?_⟩) hHeld ?_
            · (go_simp)
            simp only [Act.put, List.getElem_toArray, List.getElem_cons_succ, List.getElem_cons_zero, List.setIfInBounds_toArray, List.set_cons_zero, List.set_cons_succ]
            refine wpAnyH_take (i := 7) (v := .pointer (some ⟨g, o + m * 3, none⟩)) rfl (by kernel_rfl) (by decide +kernel) (by decide +kernel) (fun _ _ _ h => h) (Or.inl ⟨by rfl, fun w' hSw => ?_⟩) hHeld ?_
            · (go_simp)
            simp only [Act.put, List.getElem_toArray, List.getElem_cons_succ, List.getElem_cons_zero, List.setIfInBounds_toArray, List.set_cons_zero, List.set_cons_succ]
            refine wpAnyH_take (i := 8) (v := .agg #[.int .i64 y.a, .int .i64 y.n, .int .i64 y.c]) rfl (by kernel_rfl) (by decide +kernel) (by decide +kernel) (fun _ _ _ h => h) (Or.inl ⟨by rfl, fun w' hSw => ?_⟩) hHeld ?_
            · (go_simp)
            simp only [Act.put, List.getElem_toArray, List.getElem_cons_succ, List.getElem_cons_zero, List.setIfInBounds_toArray, List.set_cons_zero, List.set_cons_succ]
            refine wpAnyH_take (i := 9) (v := .agg #[.int .i64 a, .int .i64 cl, .int .i64 (-1)]) rfl (by kernel_rfl) (by decide +kernel) (by decide +kernel) (fun _ _ _ h => h) (Or.inl ⟨by rfl, fun w' hSw => ?_⟩) hHeld ?_
            · (go_simp)
            simp only [Act.put, List.getElem_toArray, List.getElem_cons_succ, List.getElem_cons_zero, List.setIfInBounds_toArray, List.set_cons_zero, List.set_cons_succ]
            refine wpAnyH_ready (rs := [10]) (by decide +kernel) (by simp) (AllReadyH.cons rfl (fun K hK => ?_) AllReadyH.nil)
            simp only [List.getElem_toArray, List.getElem_cons_succ, List.getElem_cons_zero]
            rw [if_pos (by rfl)]
            go_simp
            go_at_call 179
            refine (ov1.out _).mono ?_
            rintro e w' ⟨rfl, k⟩
            refine hK.out _ _ ⟨hHeld.1.trans k, cell_on k hHeld.2.1, cell_on k hHeld.2.2.1, cell_on k hHeld.2.2.2.1, cell_on k hHeld.2.2.2.2.1, cell_on k hHeld.2.2.2.2.2.1, cell_on k hHeld.2.2.2.2.2.2.1, cell_on k hHeld.2.2.2.2.2.2.2.1, cell_on k hHeld.2.2.2.2.2.2.2.2.1, cell_on k hHeld.2.2.2.2.2.2.2.2.2.1, cell_on k hHeld.2.2.2.2.2.2.2.2.2.2⟩ (fun hHeld => ?_)
            clear hK K k
            refine wpAnyH_take (i := 11) (v := .bool false) rfl (by kernel_rfl) (by decide +kernel) (by decide +kernel) (fun _ _ _ h => h) (Or.inl ⟨by rfl, fun w' hSw => ?_⟩) hHeld ?_
            · (go_simp)
            simp only [Act.put, List.getElem_toArray, List.getElem_cons_succ, List.getElem_cons_zero, List.setIfInBounds_toArray, List.set_cons_zero, List.set_cons_succ]
            refine wpAnyH_take (i := 12) (v := .bool false) rfl (by kernel_rfl) (by decide +kernel) (by decide +kernel) (fun _ _ _ h => h) (Or.inl ⟨by rfl, fun w' hSw => ?_⟩) hHeld ?_
            · (go_simp)
            simp only [Act.put, List.getElem_toArray, List.getElem_cons_succ, List.getElem_cons_zero, List.setIfInBounds_toArray, List.set_cons_zero, List.set_cons_succ]
            refine wpAnyH_take (i := 13) (v := .int .i64 ((m : Int) + 1)) rfl (by kernel_rfl) (by decide +kernel) (by decide +kernel) (fun _ _ _ h => h) (Or.inl ⟨by rfl, fun w' hSw => ?_⟩) hHeld ?_
            · (go_simp)
            simp only [Act.put, List.getElem_toArray, List.getElem_cons_succ, List.getElem_cons_zero, List.setIfInBounds_toArray, List.set_cons_zero, List.set_cons_succ]
            refine wpAnyH_take (i := 14) (v := .pointer (some ⟨s3, 1, none⟩)) rfl (by kernel_rfl) (by decide +kernel) (by decide +kernel) (fun _ _ _ h => h) (Or.inl ⟨by rfl, fun w' hSw => ?_⟩) hHeld ?_
            · (go_simp)
            simp only [Act.put, List.getElem_toArray, List.getElem_cons_succ, List.getElem_cons_zero, List.setIfInBounds_toArray, List.set_cons_zero, List.set_cons_succ]
            refine wpAnyH_take (i := 15) (v := .slice (some ⟨g, o, none⟩) n c) rfl (by kernel_rfl) (by decide +kernel) (by decide +kernel) (fun _ _ _ h => h) (Or.inl ⟨by rfl, fun w' hSw => ?_⟩) hHeld ?_
            · (go_simp)
            simp only [Act.put, List.getElem_toArray, List.getElem_cons_succ, List.getElem_cons_zero, List.setIfInBounds_toArray, List.set_cons_zero, List.set_cons_succ]
            refine wpAnyH_take (i := 16) (v := .int .i64 (n : Int)) rfl (by kernel_rfl) (by decide +kernel) (by decide +kernel) (fun _ _ _ h => h) (Or.inl ⟨by rfl, fun w' hSw => ?_⟩) hHeld ?_
            · (go_simp)
            simp only [Act.put, List.getElem_toArray, List.getElem_cons_succ, List.getElem_cons_zero, List.setIfInBounds_toArray, List.set_cons_zero, List.set_cons_succ]
            refine wpAnyH_take (i := 17) (v := .bool true) rfl (by kernel_rfl) (by decide +kernel) (by decide +kernel) (fun _ _ _ h => h) (Or.inl ⟨by rfl, fun w' hSw => ?_⟩) hHeld ?_
            · (go_simp)
            simp only [Act.put, List.getElem_toArray, List.getElem_cons_succ, List.getElem_cons_zero, List.setIfInBounds_toArray, List.set_cons_zero, List.set_cons_succ]
            refine wpAnyH_take (i := 18) (v := .bool true) rfl (by kernel_rfl) (by decide +kernel) (by decide +kernel) (fun _ _ _ h => h) (Or.inl ⟨by rfl, fun w' hSw => ?_⟩) hHeld ?_
            · (go_simp)
            simp only [Act.put, List.getElem_toArray, List.getElem_cons_succ, List.getElem_cons_zero, List.setIfInBounds_toArray, List.set_cons_zero, List.set_cons_succ]
            refine wpAnyH_take (i := 19) (v := .pointer (some ⟨s3, 1, none⟩)) rfl (by kernel_rfl) (by decide +kernel) (by decide +kernel) (fun _ _ _ h => h) (Or.inl ⟨by rfl, fun w' hSw => ?_⟩) hHeld ?_
            · (go_simp)
            simp only [Act.put, List.getElem_toArray, List.getElem_cons_succ, List.getElem_cons_zero, List.setIfInBounds_toArray, List.set_cons_zero, List.set_cons_succ]
            refine wpAnyH_take (i := 20) (v := .slice (some ⟨g, o, none⟩) n c) rfl (by kernel_rfl) (by decide +kernel) (by decide +kernel) (fun _ _ _ h => h) (Or.inl ⟨by rfl, fun w' hSw => ?_⟩) hHeld ?_
            · (go_simp)
            simp only [Act.put, List.getElem_toArray, List.getElem_cons_succ, List.getElem_cons_zero, List.setIfInBounds_toArray, List.set_cons_zero, List.set_cons_succ]
            refine wpAnyH_take (i := 21) (v := .int .i64 ((m : Int) + 1)) rfl (by kernel_rfl) (by decide +kernel) (by decide +kernel) (fun _ _ _ h => h) (Or.inl ⟨by rfl, fun w' hSw => ?_⟩) hHeld ?_
            · (go_simp)
            simp only [Act.put, List.getElem_toArray, List.getElem_cons_succ, List.getElem_cons_zero, List.setIfInBounds_toArray, List.set_cons_zero, List.set_cons_succ]
            refine wpAnyH_take (i := 22) (v := .pointer (some ⟨g, o + (m + 1) * 3, none⟩)) rfl (by kernel_rfl) (by decide +kernel) (by decide +kernel) (fun _ _ _ h => h) (Or.inl ⟨by rfl, fun w' hSw => ?_⟩) hHeld ?_
            · (go_simp)
            simp only [Act.put, List.getElem_toArray, List.getElem_cons_succ, List.getElem_cons_zero, List.setIfInBounds_toArray, List.set_cons_zero, List.set_cons_succ]
            refine wpAnyH_take (i := 23) (v := .agg #[.int .i64 z.a, .int .i64 z.n, .int .i64 z.c]) rfl (by kernel_rfl) (by decide +kernel) (by decide +kernel) (fun _ _ _ h => h) (Or.inl ⟨by rfl, fun w' hSw => ?_⟩) hHeld ?_
            · (go_simp)
            simp only [Act.put, List.getElem_toArray, List.getElem_cons_succ, List.getElem_cons_zero, List.setIfInBounds_toArray, List.set_cons_zero, List.set_cons_succ]
            refine wpAnyH_take (i := 24) (v := .agg #[.int .i64 a, .int .i64 cl, .int .i64 (-1)]) rfl (by kernel_rfl) (by decide +kernel) (by decide +kernel) (fun _ _ _ h => h) (Or.inl ⟨by rfl, fun w' hSw => ?_⟩) hHeld ?_
            · (go_simp)
            simp only [Act.put, List.getElem_toArray, List.getElem_cons_succ, List.getElem_cons_zero, List.setIfInBounds_toArray, List.set_cons_zero, List.set_cons_succ]
            refine wpAnyH_ready (rs := [25]) (by decide +kernel) (by simp) (AllReadyH.cons rfl (fun K hK => ?_) AllReadyH.nil)
            simp only [List.getElem_toArray, List.getElem_cons_succ, List.getElem_cons_zero]
            rw [if_pos (by rfl)]
            go_simp
            go_at_call 179
            refine (ov2.out _).mono ?_
            rintro e w' ⟨rfl, k⟩
            refine hK.out _ _ ⟨hHeld.1.trans k, cell_on k hHeld.2.1, cell_on k hHeld.2.2.1, cell_on k hHeld.2.2.2.1, cell_on k hHeld.2.2.2.2.1, cell_on k hHeld.2.2.2.2.2.1, cell_on k hHeld.2.2.2.2.2.2.1, cell_on k hHeld.2.2.2.2.2.2.2.1, cell_on k hHeld.2.2.2.2.2.2.2.2.1, cell_on k hHeld.2.2.2.2.2.2.2.2.2.1, cell_on k hHeld.2.2.2.2.2.2.2.2.2.2⟩ (fun hHeld => ?_)
            clear hK K k
            refine wpAnyH_take (i := 26) (v := .bool true) rfl (by kernel_rfl) (by decide +kernel) (by decide +kernel) (fun _ _ _ h => h) (Or.inl ⟨by rfl, fun w' hSw => ?_⟩) hHeld ?_
            · (go_simp)
            simp only [Act.put, List.getElem_toArray, List.getElem_cons_succ, List.getElem_cons_zero, List.setIfInBounds_toArray, List.set_cons_zero, List.set_cons_succ]
            refine wpAnyH_take (i := 27) (v := .bool true) rfl (by kernel_rfl) (by decide +kernel) (by decide +kernel) (fun _ _ _ h => h) (Or.inl ⟨by rfl, fun w' hSw => ?_⟩) hHeld ?_
            · (go_simp)
            simp only [Act.put, List.getElem_toArray, List.getElem_cons_succ, List.getElem_cons_zero, List.setIfInBounds_toArray, List.set_cons_zero, List.set_cons_succ]
            refine wpAnyH_done (by decide +kernel) ?_ _
            have k6 := Lib.hid (‹Kept Old w5 _ ∧ _›).1
            have BX := Lib.hid (B7.out.old k6.out)
            have f0 := BX.out.f 0
            have f1 := BX.out.f 1
            have f2 := BX.out.f 2
            have r0 := BX.out.c0
            have r1 := BX.out.c1
            have r2 := BX.out.c2
            go_wp2_with fail
            obtain ⟨V9, hV9, q0, q1, q2, K9⟩ := BX.out.end3 (K1.out.trans k6.out) (by omega) 0 0 0
            rw [hV9]
            exact bodyPost_ret (v := .tuple #[.int .i64 0, .agg #[.int .i64 0, .int .i64 0, .int .i64 0], .bool false]) (by simp [results, Tryz.results150, go_sem, q0, q1, q2]) rfl ⟨by rw [RI.out, RX.out, RB.out], K9⟩
          | false =>
            have an := han
            have RB := Lib.hid (show roomB W l nn a = true from er)
            have RI := Lib.hid (show roomI W l nn a = ((m : Int) + 1) from (room_yes RB.out).1.trans (by rw [ep]; simp))
            have RX := Lib.hid (show roomX W l nn a = ⟨a, cl, -1⟩ from (room_yes RB.out).2.1.trans (by unfold newS; rw [hcl.out]))
            clear er han
            have hy := Lib.hid hy
            have ov1 := Lib.hid (fun V => mover_lit hh V HV.out.w1 (HV.out.at_ hy.out) ly.out)
            have m3 : m < n := by have := (List.getElem?_eq_some_iff.1 hy.out).1; have := hlen.out; omega
            have w1 : IntKind.i64.wrap ((m : Int) + 1 - 1) = (m : Int) := by rw [IntWalk.i64_in _ (by omega)]; omega
            have w2 : IntKind.i64.wrap (m : Int) = (m : Int) := IntWalk.i64_in _ (by omega)
            have m2 : (0 : Int) < (m : Int) + 1 := by omega
            have m4 : (m : Int) < (n : Int) := by omega
            clear hh
            have hz := Lib.hid hz
            have ov2 := Lib.hid (fun V => mover_lit hz2 V HV.out.w1 (HV.out.at_ hz.out) ly.out)
            clear hz2
            have p3 : m + 1 < n := by have := (List.getElem?_eq_some_iff.1 hz.out).1; have := hlen.out; omega
            have p4 : (m : Int) + 1 < (n : Int) := by omega
            have p5 : ((m : Int) + 1).toNat = m + 1 := by omega
            have p6 : (0 : Int) ≤ (m : Int) + 1 := by omega
            go_enter Tryz.func150, Tryz.ntmps150
            go_wp2_with (first | (go_at_call 54; refine (CL.out _).mono ?_; rintro e w' ⟨rfl, rfl⟩) | (go_at_call 178; refine (LI.out _).mono ?_; rintro e w4 ⟨rfl, k4⟩; have K1 := Lib.hid (K1.out.trans k4); have B3 := Lib.hid (B3.out.old k4); have B7 := Lib.hid (B7.out.old k4); have a0 := B3.out.c0; have a1 := B3.out.c1; have s4 := k4.size; have l3 := Blk.lt B3.out; have l7 := Blk.lt B7.out; clear k4))
            have KX := Lib.hid ((Kept.refl Old w4).alloc (.cells #[.int .i64 a, .int .i64 cl, .int .i64 (-1)] 52))
            refine (C5.out _ (HR.out.old (K1.out.trans KX.out))).mono ?_
            rintro e w5 ⟨rfl, k5⟩
            have BN := Lib.hid ((BxS.new w4 ⟨a, cl, -1⟩).old k5)
            have k5 := Lib.hid (KX.out.trans k5)
            have K1 := Lib.hid (K1.out.trans k5.out)
            have B3 := Lib.hid (B3.out.old k5.out)
            have B7 := Lib.hid (B7.out.old k5.out)
            have a0 := B3.out.c0
            have a1 := B3.out.c1
            have x0 := BN.out.c0
            have x1 := BN.out.c1
            have x2 := BN.out.c2
            generalize hsx : w4.heap.size = sx at *
            clear KX k5
            go_wp2_with fail
            obtain ⟨g, o, y', rfl, hg, hy', _, y0, y1, y2⟩ := (HR.out.old K1.out).get (k := m) (by omega)
            rw [hy.out] at hy'
            obtain rfl := Option.some.inj hy'
            clear hy'
            obtain ⟨g2, o2, z', eA, _, hz', _, z0, z1, z2⟩ := (HR.out.old K1.out).get (k := m + 1) (by omega)
            injection eA with eA
            injection eA with eg eo
            subst eg
            subst eo
            rw [hz.out] at hz'
            obtain rfl := Option.some.inj hz'
            clear hz'
            have Kr := Lib.hid (Kept.refl Old w5)
            refine wp_region_held_drew (S := (fun w' => Kept Old w5 w' ∧ w'.cell? ⟨s3, 1, none⟩ = some (.slice (some ⟨g, o, none⟩) n c) ∧ w'.cell? ⟨sx, 0, none⟩ = some (.int .i64 a) ∧ w'.cell? ⟨sx, 1, none⟩ = some (.int .i64 cl) ∧ w'.cell? ⟨sx, 2, none⟩ = some (.int .i64 (-1)) ∧ w'.cell? ⟨g, o + m * 3, none⟩ = some (.int .i64 y.a) ∧ w'.cell? ⟨g, o + m * 3 + 1, none⟩ = some (.int .i64 y.n) ∧ w'.cell? ⟨g, o + m * 3 + 2, none⟩ = some (.int .i64 y.c) ∧ w'.cell? ⟨g, o + (m + 1) * 3, none⟩ = some (.int .i64 z.a) ∧ w'.cell? ⟨g, o + (m + 1) * 3 + 1, none⟩ = some (.int .i64 z.n) ∧ w'.cell? ⟨g, o + (m + 1) * 3 + 2, none⟩ = some (.int .i64 z.c))) (by kernel_rfl) ⟨(Kept.refl Old w5).drew, a1, x0, x1, x2, y0, y1, y2, z0, z1, z2⟩ (fun hHeld => ?_)
            refine wpAnyH_take (i := 0) (v := .int .i64 ((m : Int) + 1)) rfl (by kernel_rfl) (by decide +kernel) (by decide +kernel) (fun _ _ _ h => h) (Or.inl ⟨by rfl, fun w' hSw => ?_⟩) hHeld ?_
            · (go_simp)
            simp only [Act.put, List.getElem_toArray, List.getElem_cons_zero, List.setIfInBounds_toArray, List.set_cons_zero, List.set_cons_succ]
            refine wpAnyH_take (i := 1) (v := .bool true) rfl (by kernel_rfl) (by decide +kernel) (by decide +kernel) (fun _ _ _ h => h) (Or.inl ⟨by rfl, fun w' hSw => ?_⟩) hHeld ?_
            · (go_simp)
            simp only [Act.put, List.getElem_toArray, List.getElem_cons_succ, List.getElem_cons_zero, List.setIfInBounds_toArray, List.set_cons_zero, List.set_cons_succ]
            refine wpAnyH_take (i := 2) (v := .bool true) rfl (by kernel_rfl) (by decide +kernel) (by decide +kernel) (fun _ _ _ h => h) (Or.inl ⟨by rfl, fun w' hSw => ?_⟩) hHeld ?_
            · (go_simp)
            simp only [Act.put, List.getElem_toArray, List.getElem_cons_succ, List.getElem_cons_zero, List.setIfInBounds_toArray, List.set_cons_zero, List.set_cons_succ]
            refine wpAnyH_take (i := 3) (v := .pointer (some ⟨s3, 1, none⟩)) rfl (by kernel_rfl) (by decide +kernel) (by decide +kernel) (fun _ _ _ h => h) (Or.inl ⟨by rfl, fun w' hSw => ?_⟩) hHeld ?_
            · (go_simp)
            simp only [Act.put, List.getElem_toArray, List.getElem_cons_succ, List.getElem_cons_zero, List.setIfInBounds_toArray, List.set_cons_zero, List.set_cons_succ]
            refine wpAnyH_take (i := 4) (v := .slice (some ⟨g, o, none⟩) n c) rfl (by kernel_rfl) (by decide +kernel) (by decide +kernel) (fun _ _ _ h => h) (Or.inl ⟨by rfl, fun w' hSw => ?_⟩) hHeld ?_
            · (go_simp)
            simp only [Act.put, List.getElem_toArray, List.getElem_cons_succ, List.getElem_cons_zero, List.setIfInBounds_toArray, List.set_cons_zero, List.set_cons_succ]
            refine wpAnyH_take (i := 5) (v := .int .i64 ((m : Int) + 1)) rfl (by kernel_rfl) (by decide +kernel) (by decide +kernel) (fun _ _ _ h => h) (Or.inl ⟨by rfl, fun w' hSw => ?_⟩) hHeld ?_
            · (go_simp)
            simp only [Act.put, List.getElem_toArray, List.getElem_cons_succ, List.getElem_cons_zero, List.setIfInBounds_toArray, List.set_cons_zero, List.set_cons_succ]
            refine wpAnyH_take (i := 6) (v := .int .i64 (m : Int)) rfl (by kernel_rfl) (by decide +kernel) (by decide +kernel) (fun _ _ _ h => h) (Or.inl ⟨by rfl, fun w' hSw => ?_⟩) hHeld ?_
            · (go_simp)
            simp only [Act.put, List.getElem_toArray, List.getElem_cons_succ, List.getElem_cons_zero, List.setIfInBounds_toArray, List.set_cons_zero, List.set_cons_succ]
            refine wpAnyH_take (i := 7) (v := .pointer (some ⟨g, o + m * 3, none⟩)) rfl (by kernel_rfl) (by decide +kernel) (by decide +kernel) (fun _ _ _ h => h) (Or.inl ⟨by rfl, fun w' hSw => ?_⟩) hHeld ?_
            · (go_simp)
            simp only [Act.put, List.getElem_toArray, List.getElem_cons_succ, List.getElem_cons_zero, List.setIfInBounds_toArray, List.set_cons_zero, List.set_cons_succ]
            refine wpAnyH_take (i := 8) (v := .agg #[.int .i64 y.a, .int .i64 y.n, .int .i64 y.c]) rfl (by kernel_rfl) (by decide +kernel) (by decide +kernel) (fun _ _ _ h => h) (Or.inl ⟨by rfl, fun w' hSw => ?_⟩) hHeld ?_
            · (go_simp)
            simp only [Act.put, List.getElem_toArray, List.getElem_cons_succ, List.getElem_cons_zero, List.setIfInBounds_toArray, List.set_cons_zero, List.set_cons_succ]
            refine wpAnyH_take (i := 9) (v := .agg #[.int .i64 a, .int .i64 cl, .int .i64 (-1)]) rfl (by kernel_rfl) (by decide +kernel) (by decide +kernel) (fun _ _ _ h => h) (Or.inl ⟨by rfl, fun w' hSw => ?_⟩) hHeld ?_
            · (go_simp)
            simp only [Act.put, List.getElem_toArray, List.getElem_cons_succ, List.getElem_cons_zero, List.setIfInBounds_toArray, List.set_cons_zero, List.set_cons_succ]
            refine wpAnyH_ready (rs := [10]) (by decide +kernel) (by simp) (AllReadyH.cons rfl (fun K hK => ?_) AllReadyH.nil)
            simp only [List.getElem_toArray, List.getElem_cons_succ, List.getElem_cons_zero]
            rw [if_pos (by rfl)]
            go_simp
            go_at_call 179
            refine (ov1.out _).mono ?_
            rintro e w' ⟨rfl, k⟩
            refine hK.out _ _ ⟨hHeld.1.trans k, cell_on k hHeld.2.1, cell_on k hHeld.2.2.1, cell_on k hHeld.2.2.2.1, cell_on k hHeld.2.2.2.2.1, cell_on k hHeld.2.2.2.2.2.1, cell_on k hHeld.2.2.2.2.2.2.1, cell_on k hHeld.2.2.2.2.2.2.2.1, cell_on k hHeld.2.2.2.2.2.2.2.2.1, cell_on k hHeld.2.2.2.2.2.2.2.2.2.1, cell_on k hHeld.2.2.2.2.2.2.2.2.2.2⟩ (fun hHeld => ?_)
            clear hK K k
            refine wpAnyH_take (i := 11) (v := .bool false) rfl (by kernel_rfl) (by decide +kernel) (by decide +kernel) (fun _ _ _ h => h) (Or.inl ⟨by rfl, fun w' hSw => ?_⟩) hHeld ?_
            · (go_simp)
            simp only [Act.put, List.getElem_toArray, List.getElem_cons_succ, List.getElem_cons_zero, List.setIfInBounds_toArray, List.set_cons_zero, List.set_cons_succ]
            refine wpAnyH_take (i := 12) (v := .bool false) rfl (by kernel_rfl) (by decide +kernel) (by decide +kernel) (fun _ _ _ h => h) (Or.inl ⟨by rfl, fun w' hSw => ?_⟩) hHeld ?_
            · (go_simp)
            simp only [Act.put, List.getElem_toArray, List.getElem_cons_succ, List.getElem_cons_zero, List.setIfInBounds_toArray, List.set_cons_zero, List.set_cons_succ]
            refine wpAnyH_take (i := 13) (v := .int .i64 ((m : Int) + 1)) rfl (by kernel_rfl) (by decide +kernel) (by decide +kernel) (fun _ _ _ h => h) (Or.inl ⟨by rfl, fun w' hSw => ?_⟩) hHeld ?_
            · (go_simp)
            simp only [Act.put, List.getElem_toArray, List.getElem_cons_succ, List.getElem_cons_zero, List.setIfInBounds_toArray, List.set_cons_zero, List.set_cons_succ]
            refine wpAnyH_take (i := 14) (v := .pointer (some ⟨s3, 1, none⟩)) rfl (by kernel_rfl) (by decide +kernel) (by decide +kernel) (fun _ _ _ h => h) (Or.inl ⟨by rfl, fun w' hSw => ?_⟩) hHeld ?_
            · (go_simp)
            simp only [Act.put, List.getElem_toArray, List.getElem_cons_succ, List.getElem_cons_zero, List.setIfInBounds_toArray, List.set_cons_zero, List.set_cons_succ]
            refine wpAnyH_take (i := 15) (v := .slice (some ⟨g, o, none⟩) n c) rfl (by kernel_rfl) (by decide +kernel) (by decide +kernel) (fun _ _ _ h => h) (Or.inl ⟨by rfl, fun w' hSw => ?_⟩) hHeld ?_
            · (go_simp)
            simp only [Act.put, List.getElem_toArray, List.getElem_cons_succ, List.getElem_cons_zero, List.setIfInBounds_toArray, List.set_cons_zero, List.set_cons_succ]
            refine wpAnyH_take (i := 16) (v := .int .i64 (n : Int)) rfl (by kernel_rfl) (by decide +kernel) (by decide +kernel) (fun _ _ _ h => h) (Or.inl ⟨by rfl, fun w' hSw => ?_⟩) hHeld ?_
            · (go_simp)
            simp only [Act.put, List.getElem_toArray, List.getElem_cons_succ, List.getElem_cons_zero, List.setIfInBounds_toArray, List.set_cons_zero, List.set_cons_succ]
            refine wpAnyH_take (i := 17) (v := .bool true) rfl (by kernel_rfl) (by decide +kernel) (by decide +kernel) (fun _ _ _ h => h) (Or.inl ⟨by rfl, fun w' hSw => ?_⟩) hHeld ?_
            · (go_simp)
            simp only [Act.put, List.getElem_toArray, List.getElem_cons_succ, List.getElem_cons_zero, List.setIfInBounds_toArray, List.set_cons_zero, List.set_cons_succ]
            refine wpAnyH_take (i := 18) (v := .bool true) rfl (by kernel_rfl) (by decide +kernel) (by decide +kernel) (fun _ _ _ h => h) (Or.inl ⟨by rfl, fun w' hSw => ?_⟩) hHeld ?_
            · (go_simp)
            simp only [Act.put, List.getElem_toArray, List.getElem_cons_succ, List.getElem_cons_zero, List.setIfInBounds_toArray, List.set_cons_zero, List.set_cons_succ]
            refine wpAnyH_take (i := 19) (v := .pointer (some ⟨s3, 1, none⟩)) rfl (by kernel_rfl) (by decide +kernel) (by decide +kernel) (fun _ _ _ h => h) (Or.inl ⟨by rfl, fun w' hSw => ?_⟩) hHeld ?_
            · (go_simp)
            simp only [Act.put, List.getElem_toArray, List.getElem_cons_succ, List.getElem_cons_zero, List.setIfInBounds_toArray, List.set_cons_zero, List.set_cons_succ]
            refine wpAnyH_take (i := 20) (v := .slice (some ⟨g, o, none⟩) n c) rfl (by kernel_rfl) (by decide +kernel) (by decide +kernel) (fun _ _ _ h => h) (Or.inl ⟨by rfl, fun w' hSw => ?_⟩) hHeld ?_
            · (go_simp)
            simp only [Act.put, List.getElem_toArray, List.getElem_cons_succ, List.getElem_cons_zero, List.setIfInBounds_toArray, List.set_cons_zero, List.set_cons_succ]
            refine wpAnyH_take (i := 21) (v := .int .i64 ((m : Int) + 1)) rfl (by kernel_rfl) (by decide +kernel) (by decide +kernel) (fun _ _ _ h => h) (Or.inl ⟨by rfl, fun w' hSw => ?_⟩) hHeld ?_
            · (go_simp)
            simp only [Act.put, List.getElem_toArray, List.getElem_cons_succ, List.getElem_cons_zero, List.setIfInBounds_toArray, List.set_cons_zero, List.set_cons_succ]
            refine wpAnyH_take (i := 22) (v := .pointer (some ⟨g, o + (m + 1) * 3, none⟩)) rfl (by kernel_rfl) (by decide +kernel) (by decide +kernel) (fun _ _ _ h => h) (Or.inl ⟨by rfl, fun w' hSw => ?_⟩) hHeld ?_
            · (go_simp)
            simp only [Act.put, List.getElem_toArray, List.getElem_cons_succ, List.getElem_cons_zero, List.setIfInBounds_toArray, List.set_cons_zero, List.set_cons_succ]
            refine wpAnyH_take (i := 23) (v := .agg #[.int .i64 z.a, .int .i64 z.n, .int .i64 z.c]) rfl (by kernel_rfl) (by decide +kernel) (by decide +kernel) (fun _ _ _ h => h) (Or.inl ⟨by rfl, fun w' hSw => ?_⟩) hHeld ?_
            · (go_simp)
            simp only [Act.put, List.getElem_toArray, List.getElem_cons_succ, List.getElem_cons_zero, List.setIfInBounds_toArray, List.set_cons_zero, List.set_cons_succ]
            refine wpAnyH_take (i := 24) (v := .agg #[.int .i64 a, .int .i64 cl, .int .i64 (-1)]) rfl (by kernel_rfl) (by decide +kernel) (by decide +kernel) (fun _ _ _ h => h) (Or.inl ⟨by rfl, fun w' hSw => ?_⟩) hHeld ?_
            · (go_simp)
            simp only [Act.put, List.getElem_toArray, List.getElem_cons_succ, List.getElem_cons_zero, List.setIfInBounds_toArray, List.set_cons_zero, List.set_cons_succ]
            refine wpAnyH_ready (rs := [25]) (by decide +kernel) (by simp) (AllReadyH.cons rfl (fun K hK => ?_) AllReadyH.nil)
            simp only [List.getElem_toArray, List.getElem_cons_succ, List.getElem_cons_zero]
            rw [if_pos (by rfl)]
            go_simp
            go_at_call 179
            refine (ov2.out _).mono ?_
            rintro e w' ⟨rfl, k⟩
            refine hK.out _ _ ⟨hHeld.1.trans k, cell_on k hHeld.2.1, cell_on k hHeld.2.2.1, cell_on k hHeld.2.2.2.1, cell_on k hHeld.2.2.2.2.1, cell_on k hHeld.2.2.2.2.2.1, cell_on k hHeld.2.2.2.2.2.2.1, cell_on k hHeld.2.2.2.2.2.2.2.1, cell_on k hHeld.2.2.2.2.2.2.2.2.1, cell_on k hHeld.2.2.2.2.2.2.2.2.2.1, cell_on k hHeld.2.2.2.2.2.2.2.2.2.2⟩ (fun hHeld => ?_)
            clear hK K k
            refine wpAnyH_take (i := 26) (v := .bool false) rfl (by kernel_rfl) (by decide +kernel) (by decide +kernel) (fun _ _ _ h => h) (Or.inl ⟨by rfl, fun w' hSw => ?_⟩) hHeld ?_
            · (go_simp)
            simp only [Act.put, List.getElem_toArray, List.getElem_cons_succ, List.getElem_cons_zero, List.setIfInBounds_toArray, List.set_cons_zero, List.set_cons_succ]
            refine wpAnyH_take (i := 27) (v := .bool false) rfl (by kernel_rfl) (by decide +kernel) (by decide +kernel) (fun _ _ _ h => h) (Or.inl ⟨by rfl, fun w' hSw => ?_⟩) hHeld ?_
            · (go_simp)
            simp only [Act.put, List.getElem_toArray, List.getElem_cons_succ, List.getElem_cons_zero, List.setIfInBounds_toArray, List.set_cons_zero, List.set_cons_succ]
            refine wpAnyH_done (by decide +kernel) ?_ _
            have k6 := Lib.hid (‹Kept Old w5 _ ∧ _›).1
            have BX := Lib.hid (B7.out.old k6.out)
            have f0 := BX.out.f 0
            have f1 := BX.out.f 1
            have f2 := BX.out.f 2
            have r0 := BX.out.c0
            have r1 := BX.out.c1
            have r2 := BX.out.c2
            have BN := Lib.hid (BN.out.old k6.out)
            have x0 := BN.out.c0
            have x1 := BN.out.c1
            have x2 := BN.out.c2
            go_wp2_with fail
            go_region
            go_wp2
            obtain ⟨V9, hV9, q0, q1, q2, K9⟩ := BX.out.end3 (K1.out.trans k6.out) (by omega) a cl (-1)
            rw [hV9]
            have q0 : V9.drew.cell? ⟨s3 + 1, 0, none⟩ = _ := q0
            have q1 : V9.drew.cell? ⟨s3 + 1, 1, none⟩ = _ := q1
            have q2 : V9.drew.cell? ⟨s3 + 1, 2, none⟩ = _ := q2
            have K9 := K9.drew
            exact bodyPost_ret (v := .tuple #[.int .i64 ((m : Int) + 1), .agg #[.int .i64 a, .int .i64 cl, .int .i64 (-1)], .bool true]) (by simp [results, Tryz.results150, go_sem, q0, q1, q2]) rfl ⟨by rw [RI.out, RX.out, RB.out], K9⟩
end Go.Proofs.YtcndilpaijapkaaGreat.Lm
