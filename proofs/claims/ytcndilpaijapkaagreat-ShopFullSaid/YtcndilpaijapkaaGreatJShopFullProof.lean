/-
  For every input the law ShopFull of rickyard/rickyardlaw15 returns true, and its arguments read afterwards as before. The law's own sentence: What has a class is refused just if the worker's own cache and the pool, or the large ones that wait, have nothing of it, and no run is long enough; what is refused has changed nothing. No further conditions.
-/
import Derived.Test.YtcndilpaijapkaaGreatRows
import Derived.SizedLaws
import Derived.WalkKit
import Derived.ProofKit
import Derived.OpenShut
import Derived.ChangeOld
import Derived.Below
import Derived.Lib.SmallJoins
import Derived.Deep.CutRange
import Derived.Test.YtcndilpaijapkaaGreatJBase
import Derived.Test.YtcndilpaijapkaaGreatJModelOver
import Derived.Test.YtcndilpaijapkaaGreatJShpCovP
import Derived.Test.YtcndilpaijapkaaGreatJShpD
import Derived.Test.YtcndilpaijapkaaGreatJShpH
namespace Go.Proofs.YtcndilpaijapkaaGreat.shopFull
open Go.ChangeShapes Go.WideShapes Go.ChangeAt Go.RowKit
set_option linter.unusedVariables false
set_option maxRecDepth 100000

theorem own : ownKnob Tryz.prog.godebug = none := by kernel_rfl
theorem laidOut : laidOutB Tryz.prog = true := by kernel_rfl
open Sto
open Shp

set_option maxHeartbeats 4000000 in
/-- The walk: the Go text returns true, and nothing that was there has turned. -/
theorem walk (a0 : Int) (a1 : Int) (a2 : Option Addr) (len2 cap2 : Nat) (z2 : Nat → Int) (a3 : Int) (a4 : Int) (w : World) (w0 : (Lit.int .u8 a0).wf = true) (w1 : (Lit.int .u8 a1).wf = true) (w2 : len2 ≤ cap2 ∧ cap2 ≤ maxLen ∧ (∀ i, i < len2 → (Lit.int .u8 (z2 i)).wf = true) ∧ Sl w a2 1 len2 fun i _ => .int .u8 (z2 i)) (rch2 : cap2 * 1 ≤ 140737488351232 ∧ (a2 = none → len2 = 0 ∧ cap2 = 0)) (w3 : (Lit.int .u16 a3).wf = true) (w4 : (Lit.int .u8 a4).wf = true) :
    Calls Tryz.prog 9 #[.int .u8 a0, .int .u8 a1, .slice a2 len2 cap2, .int .u16 a3, .int .u8 a4] w fun e w' => e = .returned (.bool true) ∧ Kept Old w w' := by
  obtain ⟨v0, v1, v2, v3⟩ := w2
  have hl : len2 ≤ 9223372036854775807 := by unfold maxLen at v1; omega
  have hz := Lib.hid (show ∀ i, i < len2 → 0 ≤ z2 i ∧ z2 i ≤ 255 from fun i hi => bounds_u8 (v2 i hi))
  have HS := Lib.hid v3
  obtain ⟨p1, p2⟩ := bounds_u8 w0
  obtain ⟨p3, p4⟩ := bounds_u8 w1
  obtain ⟨u, rfl⟩ : ∃ u : Nat, a0 = (u : Int) := ⟨a0.toNat, by omega⟩
  obtain ⟨x, rfl⟩ : ∃ x : Nat, a1 = (x : Int) := ⟨a1.toNat, by omega⟩
  obtain ⟨P, hP, P1, P2⟩ : ∃ P : Nat, 1 + (u : Int) = (P : Int) ∧ 1 ≤ P ∧ P ≤ 256 := ⟨1 + u, by omega, by omega, by omega⟩
  obtain ⟨nw, hnw, N1, N2⟩ : ∃ nw : Nat, 1 + (x : Int) % 6 = (nw : Int) ∧ 1 ≤ nw ∧ nw ≤ 6 := ⟨1 + x % 6, by omega, by omega, by omega⟩
  obtain ⟨ww, hww, ww5⟩ : ∃ ww : Nat, a3 = (ww : Int) ∧ ww ≤ 65535 := by obtain ⟨g1, g2⟩ := bounds_u16 w3; exact ⟨a3.toNat, by omega, by omega⟩
  subst hww
  obtain ⟨y, hy, hy5⟩ : ∃ y : Nat, a4 = (y : Int) ∧ y ≤ 255 := by obtain ⟨g1, g2⟩ := bounds_u8 w4; exact ⟨a4.toNat, by omega, by omega⟩
  subst hy
  clear w4
  obtain ⟨t, ht, htl⟩ : ∃ t, y % nw = t ∧ t < nw := ⟨_, rfl, Nat.mod_lt _ N1⟩
  have hti : (y : Int) % (nw : Int) = (t : Int) := by omega
  have nz : ¬ (nw : Int) = 0 := by omega
  obtain ⟨n, hn, hn1, hn2⟩ : ∃ n : Int, 1 + (ww : Int) % 4096 = n ∧ 1 ≤ n ∧ n ≤ 4096 := ⟨_, rfl, by omega, by omega⟩
  have CB : classB n = true := decide_eq_true (by omega)
  have cu := class_up n hn1 hn2
  have PL := Lib.hid (played_any u x P nw (by omega) (by omega) hP hnw a2 len2 cap2 z2 hl hz.out HS.out)
  have CL := Lib.hid (fun X => rclass_any n X)
  rw [CB] at CL
  have lw := wordsI_lim (classI n)
  have lp := pages_lim (classI n)
  clear v0 v1 v2 v3 w0 w1 w3 ht
  go_enter Tryz.func9, Tryz.ntmps9
  go_wp2_with fail
  refine PL.out.mono ?_
  rintro e W1 ⟨s, rfl, k, ca, live, pl, m0, en0, sv0⟩
  have M := Lib.hid m0
  have EN := Lib.hid en0
  have SV := Lib.hid sv0
  clear m0 en0 sv0 PL
  have zn : IntKind.i64.wrap n = n := IntWalk.i64_in _ (by omega)
  have zw : IntKind.i64.wrap (ww : Int) = (ww : Int) := IntWalk.i64_in _ (by omega)
  have zw2 : IntKind.i64.wrap ((ww : Int) % 4096) = (ww : Int) % 4096 := IntWalk.i64_in _ (by omega)
  go_wp2_with fail
  refine (CL.out _).mono ?_
  rintro e w' ⟨rfl, rfl⟩
  go_wp2_with fail
  refine (sparts_new EN.out N2 M.out SV.out).mono ?_
  rintro e W2 ⟨⟨vp, l0, l1, l2, l3, l4, l5, rfl, ⟨q0, q1, q2, q3, q4, q5, q6, rfl, ⟨A0, n0, c0, rfl, r0, h0⟩, ⟨A1, n1, c1, rfl, r1, h1⟩, ⟨A2, n2, c2, rfl, r2, h2⟩, ⟨A3, n3, c3, rfl, r3, h3⟩, ⟨A4, n4, c4, rfl, r4, h4⟩, ⟨A5, n5, c5, rfl, r5, h5⟩, ⟨A6, n6, c6, rfl, r6, h6⟩⟩, po, kp⟩, nwv⟩
  generalize hcc : classI n = cc at *
  obtain ⟨cn, rfl⟩ : ∃ cn : Nat, cc = (cn : Int) := ⟨cc.toNat, by omega⟩
  have PO := Lib.hid po
  have nwv := Lib.hid (nwv _ rfl)
  have h0 := Lib.hid h0
  have h1 := Lib.hid h1
  have h2 := Lib.hid h2
  have h3 := Lib.hid h3
  have h4 := Lib.hid h4
  have h5 := Lib.hid h5
  have h6 := Lib.hid h6
  have XB := Blk.new W2 44 [.slice A0 n0 c0, .slice A1 n1 c1, .slice A2 n2 c2, .slice A3 n3 c3, .slice A4 n4 c4, .slice A5 n5 c5, .slice A6 n6 c6]
  have KA : Kept Old W2 (W2.alloc (.cells #[.slice A0 n0 c0, .slice A1 n1 c1, .slice A2 n2 c2, .slice A3 n3 c3, .slice A4 n4 c4, .slice A5 n5 c5, .slice A6 n6 c6] 44)) := (Kept.refl Old W2).alloc _
  have x0 := XB.cell 0
  have x1 := XB.cell 1
  have x2 := XB.cell 2
  have x3 := XB.cell 3
  have x4 := XB.cell 4
  have x5 := XB.cell 5
  have x6 := XB.cell 6
  simp only [List.getElem?_cons_succ, List.getElem?_cons_zero] at x0 x1 x2 x3 x4 x5 x6
  have K13 := Lib.hid (kp.trans KA)
  have xg := Lib.hid (show W1.heap.size ≤ W2.heap.size from kp.size)
  have XB := Lib.hid XB
  have R0 := Lib.hid (r0.old KA)
  have R1 := Lib.hid (r1.old KA)
  have R2 := Lib.hid (r2.old KA)
  have R3 := Lib.hid (r3.old KA)
  have R4 := Lib.hid (r4.old KA)
  have R5 := Lib.hid (r5.old KA)
  have R6 := Lib.hid (r6.old KA)
  clear r0 r1 r2 r3 r4 r5 r6 po kp KA
  have lens := Lib.hid (parts_len SV.out PO.out)
  go_wp2_with fail
  generalize hxb : W2.heap.size = xb at *
  generalize W2.alloc (.cells #[.slice A0 n0 c0, .slice A1 n1 c1, .slice A2 n2 c2, .slice A3 n3 c3, .slice A4 n4 c4, .slice A5 n5 c5, .slice A6 n6 c6] 44) = W3 at *
  clear hxb
  have H0 := Lib.hid (fun X (q : Kept Old W3 X) => has_any A0 n0 c0 l0 (pagesI (cn : Int) * 64) true X (R0.out.old q) (by have := R0.out.len; have := lens.out.1; omega))
  generalize hB1 : hasP l0 (pagesI (cn : Int) * 64) true = B1 at *
  have RPg := Lib.hid (fun X => rpages_any (cn : Int) X)
  have zp : IntKind.i64.wrap (pagesI (cn : Int) * 64) = pagesI (cn : Int) * 64 := IntWalk.i64_in _ (by omega)
  refine wp_region_held_drew (S := (fun w' => w'.cell? ⟨xb, 0, none⟩ = some (.slice A0 n0 c0))) (by kernel_rfl) x0 (fun hHeld => ?_)
  refine wpAnyH_take (i := 0) (v := .pointer (some ⟨xb, 0, none⟩)) rfl (by kernel_rfl) (by decide +kernel) (by decide +kernel) (fun _ _ _ h => h) (Or.inl ⟨by rfl, fun w' hSw => ?_⟩) hHeld ?_
  · (go_simp)
  simp only [Act.put, List.getElem_toArray, List.getElem_cons_zero, List.setIfInBounds_toArray, List.set_cons_zero, List.set_cons_succ]
  refine wpAnyH_take (i := 1) (v := .slice A0 n0 c0) rfl (by kernel_rfl) (by decide +kernel) (by decide +kernel) (fun _ _ _ h => h) (Or.inl ⟨by rfl, fun w' hSw => ?_⟩) hHeld ?_
  · (go_simp)
  simp only [Act.put, List.getElem_toArray, List.getElem_cons_succ, List.getElem_cons_zero, List.setIfInBounds_toArray, List.set_cons_zero, List.set_cons_succ]
  refine wpAnyH_take (i := 2) (v := .int .i64 (cn : Int)) rfl (by kernel_rfl) (by decide +kernel) (by decide +kernel) (fun _ _ _ h => h) (Or.inl ⟨by rfl, fun w' hSw => ?_⟩) hHeld ?_
  · (go_simp)
  simp only [Act.put, List.getElem_toArray, List.getElem_cons_succ, List.getElem_cons_zero, List.setIfInBounds_toArray, List.set_cons_zero, List.set_cons_succ]
  refine wpAnyH_ready (rs := [3]) (by decide +kernel) (by simp) (AllReadyH.cons rfl (fun K hK => ?_) AllReadyH.nil)
  simp only [List.getElem_toArray, List.getElem_cons_succ, List.getElem_cons_zero]
  rw [if_pos (by rfl)]
  go_simp
  go_at_call 38
  refine (RPg.out _).mono ?_
  rintro e w' ⟨rfl, rfl⟩
  refine hK.out _ _ hHeld (fun hHeld => ?_)
  clear hK K
  refine wpAnyH_take (i := 4) (v := .int .i64 (pagesI (cn : Int) * 64)) rfl (by kernel_rfl) (by decide +kernel) (by decide +kernel) (fun _ _ _ h => h) (Or.inl ⟨by rfl, fun w' hSw => ?_⟩) hHeld ?_
  · (go_simp)
  simp only [Act.put, List.getElem_toArray, List.getElem_cons_succ, List.getElem_cons_zero, List.setIfInBounds_toArray, List.set_cons_zero, List.set_cons_succ]
  refine wpAnyH_ready (rs := [5]) (by decide +kernel) (by simp) (AllReadyH.cons rfl (fun K hK => ?_) AllReadyH.nil)
  simp only [List.getElem_toArray, List.getElem_cons_succ, List.getElem_cons_zero]
  rw [if_pos (by rfl)]
  go_simp
  go_at_call 37
  refine (H0.out _ (Kept.refl Old W3).drew).mono ?_
  rintro e W4 ⟨rfl, k4⟩
  have K4 := Lib.hid (show Kept Old W3 W4 from (Kept.refl Old W3).drew.trans k4)
  refine hK.out _ _ (Bg.cell_on k4 hHeld) (fun hHeld => ?_)
  clear hK K k4 H0 RPg
  refine wpAnyH_take (i := 6) (v := .bool B1) rfl (by kernel_rfl) (by decide +kernel) (by decide +kernel) (fun _ _ _ h => h) (Or.inl ⟨by rfl, fun w' hSw => ?_⟩) hHeld ?_
  · (go_simp)
  simp only [Act.put, List.getElem_toArray, List.getElem_cons_succ, List.getElem_cons_zero, List.setIfInBounds_toArray, List.set_cons_zero, List.set_cons_succ]
  refine wpAnyH_done (by decide +kernel) ?_ _
  clear hHeld
  have x1 := Bg.cell_on K4.out x1
  have x2 := Bg.cell_on K4.out x2
  have x3 := Bg.cell_on K4.out x3
  have x4 := Bg.cell_on K4.out x4
  have x5 := Bg.cell_on K4.out x5
  have x6 := Bg.cell_on K4.out x6
  clear x0
  have RSm := Lib.hid (fun X => rsmall_any (cn : Int) X)
  have RWd := Lib.hid (fun X => rwords_any (cn : Int) X)
  obtain ⟨B2, hB2⟩ : ∃ B2 : Bool, B2 = (if smallB (cn : Int) then (hasP l1 (wordsI (cn : Int)) false || decide (0 < (ca t cn).length)) else hasP l3 (wordsI (cn : Int)) false) := ⟨_, rfl⟩
  have H1 := Lib.hid (fun X (q : Kept Old W3 X) => has_any A1 n1 c1 l1 (wordsI (cn : Int)) false X (R1.out.old q) (by have := R1.out.len; have := lens.out.2.1; omega))
  have H3 := Lib.hid (fun X (q : Kept Old W3 X) => has_any A3 n3 c3 l3 (wordsI (cn : Int)) false X (R3.out.old q) (by have := R3.out.len; have := lens.out.2.2.2; omega))
  have CQ := Lib.hid (fun X (q : Kept Old W3 X) => cached_at (pl := pl.re W1.heap.size 97) (w := t) (c := cn) htl EN.out (M.out.old (K13.out.trans q)) SV.out)
  have hB2 := Lib.hid hB2
  have hB1 := Lib.hid hB1
  have hcc := Lib.hid hcc
  go_upto_if 52 with (go_at_call 39; refine (RSm.out _).mono ?_; rintro e w' ⟨rfl, rfl⟩)
  go_cut [17] from 51 to 76 (fun sv wx => sv = .bool (B1 || B2) ∧ Kept Old W3 wx)
  case first =>
    cases hs : smallB (cn : Int) with
    | true =>
      have e2 : B2 = (hasP l1 (wordsI (cn : Int)) false || decide (0 < (ca t cn).length)) := by have h := hB2.out; rwa [hs, if_pos rfl] at h
      have e2 := Lib.hid e2
      cases hb : B1 with
      | true =>
        subst hb
        go_wp2_with fail
        refine wp_region_held_drew (S := (fun w' => w'.cell? ⟨xb, 1, none⟩ = some (.slice A1 n1 c1))) (by kernel_rfl) x1 (fun hHeld => ?_)
        refine wpAnyH_take (i := 0) (v := .bool true) rfl (by kernel_rfl) (by decide +kernel) (by decide +kernel) (fun _ _ _ h => h) (Or.inl ⟨by rfl, fun w' hSw => ?_⟩) hHeld ?_
        · (go_simp)
        simp only [Act.put, List.getElem_toArray, List.getElem_cons_zero, List.setIfInBounds_toArray, List.set_cons_zero, List.set_cons_succ]
        refine wpAnyH_take (i := 1) (v := .bool true) rfl (by kernel_rfl) (by decide +kernel) (by decide +kernel) (fun _ _ _ h => h) (Or.inl ⟨by rfl, fun w' hSw => ?_⟩) hHeld ?_
        · (go_simp)
        simp only [Act.put, List.getElem_toArray, List.getElem_cons_succ, List.getElem_cons_zero, List.setIfInBounds_toArray, List.set_cons_zero, List.set_cons_succ]
        refine wpAnyH_take (i := 2) (v := undef) rfl (by kernel_rfl) (by decide +kernel) (by decide +kernel) (fun _ _ _ h => h) (Or.inr ⟨by rfl, rfl⟩) hHeld ?_
        simp only [Act.put, List.getElem_toArray, List.getElem_cons_succ, List.getElem_cons_zero, List.setIfInBounds_toArray, List.set_cons_zero, List.set_cons_succ]
        refine wpAnyH_take (i := 3) (v := undef) rfl (by kernel_rfl) (by decide +kernel) (by decide +kernel) (fun _ _ _ h => h) (Or.inr ⟨by rfl, rfl⟩) hHeld ?_
        simp only [Act.put, List.getElem_toArray, List.getElem_cons_succ, List.getElem_cons_zero, List.setIfInBounds_toArray, List.set_cons_zero, List.set_cons_succ]
        refine wpAnyH_take (i := 4) (v := undef) rfl (by kernel_rfl) (by decide +kernel) (by decide +kernel) (fun _ _ _ h => h) (Or.inr ⟨by rfl, rfl⟩) hHeld ?_
        simp only [Act.put, List.getElem_toArray, List.getElem_cons_succ, List.getElem_cons_zero, List.setIfInBounds_toArray, List.set_cons_zero, List.set_cons_succ]
        refine wpAnyH_take (i := 5) (v := undef) rfl (by kernel_rfl) (by decide +kernel) (by decide +kernel) (fun _ _ _ h => h) (Or.inr ⟨by rfl, rfl⟩) hHeld ?_
        simp only [Act.put, List.getElem_toArray, List.getElem_cons_succ, List.getElem_cons_zero, List.setIfInBounds_toArray, List.set_cons_zero, List.set_cons_succ]
        refine wpAnyH_take (i := 6) (v := undef) rfl (by kernel_rfl) (by decide +kernel) (by decide +kernel) (fun _ _ _ h => h) (Or.inr ⟨by rfl, rfl⟩) hHeld ?_
        simp only [Act.put, List.getElem_toArray, List.getElem_cons_succ, List.getElem_cons_zero, List.setIfInBounds_toArray, List.set_cons_zero, List.set_cons_succ]
        refine wpAnyH_take (i := 7) (v := .bool true) rfl (by kernel_rfl) (by decide +kernel) (by decide +kernel) (fun _ _ _ h => h) (Or.inl ⟨by rfl, fun w' hSw => ?_⟩) hHeld ?_
        · (go_simp)
        simp only [Act.put, List.getElem_toArray, List.getElem_cons_succ, List.getElem_cons_zero, List.setIfInBounds_toArray, List.set_cons_zero, List.set_cons_succ]
        refine wpAnyH_take (i := 8) (v := .bool true) rfl (by kernel_rfl) (by decide +kernel) (by decide +kernel) (fun _ _ _ h => h) (Or.inl ⟨by rfl, fun w' hSw => ?_⟩) hHeld ?_
        · (go_simp)
        simp only [Act.put, List.getElem_toArray, List.getElem_cons_succ, List.getElem_cons_zero, List.setIfInBounds_toArray, List.set_cons_zero, List.set_cons_succ]
        refine wpAnyH_take (i := 9) (v := undef) rfl (by kernel_rfl) (by decide +kernel) (by decide +kernel) (fun _ _ _ h => h) (Or.inr ⟨by rfl, rfl⟩) hHeld ?_
        simp only [Act.put, List.getElem_toArray, List.getElem_cons_succ, List.getElem_cons_zero, List.setIfInBounds_toArray, List.set_cons_zero, List.set_cons_succ]
        refine wpAnyH_take (i := 10) (v := undef) rfl (by kernel_rfl) (by decide +kernel) (by decide +kernel) (fun _ _ _ h => h) (Or.inr ⟨by rfl, rfl⟩) hHeld ?_
        simp only [Act.put, List.getElem_toArray, List.getElem_cons_succ, List.getElem_cons_zero, List.setIfInBounds_toArray, List.set_cons_zero, List.set_cons_succ]
        refine wpAnyH_take (i := 11) (v := undef) rfl (by kernel_rfl) (by decide +kernel) (by decide +kernel) (fun _ _ _ h => h) (Or.inr ⟨by rfl, rfl⟩) hHeld ?_
        simp only [Act.put, List.getElem_toArray, List.getElem_cons_succ, List.getElem_cons_zero, List.setIfInBounds_toArray, List.set_cons_zero, List.set_cons_succ]
        refine wpAnyH_take (i := 12) (v := undef) rfl (by kernel_rfl) (by decide +kernel) (by decide +kernel) (fun _ _ _ h => h) (Or.inr ⟨by rfl, rfl⟩) hHeld ?_
        simp only [Act.put, List.getElem_toArray, List.getElem_cons_succ, List.getElem_cons_zero, List.setIfInBounds_toArray, List.set_cons_zero, List.set_cons_succ]
        refine wpAnyH_take (i := 13) (v := undef) rfl (by kernel_rfl) (by decide +kernel) (by decide +kernel) (fun _ _ _ h => h) (Or.inr ⟨by rfl, rfl⟩) hHeld ?_
        simp only [Act.put, List.getElem_toArray, List.getElem_cons_succ, List.getElem_cons_zero, List.setIfInBounds_toArray, List.set_cons_zero, List.set_cons_succ]
        refine wpAnyH_take (i := 14) (v := undef) rfl (by kernel_rfl) (by decide +kernel) (by decide +kernel) (fun _ _ _ h => h) (Or.inr ⟨by rfl, rfl⟩) hHeld ?_
        simp only [Act.put, List.getElem_toArray, List.getElem_cons_succ, List.getElem_cons_zero, List.setIfInBounds_toArray, List.set_cons_zero, List.set_cons_succ]
        refine wpAnyH_take (i := 15) (v := .bool true) rfl (by kernel_rfl) (by decide +kernel) (by decide +kernel) (fun _ _ _ h => h) (Or.inl ⟨by rfl, fun w' hSw => ?_⟩) hHeld ?_
        · (go_simp)
        simp only [Act.put, List.getElem_toArray, List.getElem_cons_succ, List.getElem_cons_zero, List.setIfInBounds_toArray, List.set_cons_zero, List.set_cons_succ]
        refine wpAnyH_take (i := 16) (v := .bool true) rfl (by kernel_rfl) (by decide +kernel) (by decide +kernel) (fun _ _ _ h => h) (Or.inl ⟨by rfl, fun w' hSw => ?_⟩) hHeld ?_
        · (go_simp)
        simp only [Act.put, List.getElem_toArray, List.getElem_cons_succ, List.getElem_cons_zero, List.setIfInBounds_toArray, List.set_cons_zero, List.set_cons_succ]
        refine wpAnyH_done (by decide +kernel) ?_ _
        go_wp2_with fail
        go_meet
        exact ⟨by simp, K4.out.drew⟩
      | false =>
        cases hb1 : hasP l1 (wordsI (cn : Int)) false with
        | true =>
          subst hb
          rw [hb1] at H1
          go_wp2_with fail
          refine wp_region_held_drew (S := (fun w' => w'.cell? ⟨xb, 1, none⟩ = some (.slice A1 n1 c1))) (by kernel_rfl) x1 (fun hHeld => ?_)
          refine wpAnyH_take (i := 0) (v := .bool false) rfl (by kernel_rfl) (by decide +kernel) (by decide +kernel) (fun _ _ _ h => h) (Or.inl ⟨by rfl, fun w' hSw => ?_⟩) hHeld ?_
          · (go_simp)
          simp only [Act.put, List.getElem_toArray, List.getElem_cons_zero, List.setIfInBounds_toArray, List.set_cons_zero, List.set_cons_succ]
          refine wpAnyH_take (i := 1) (v := .bool false) rfl (by kernel_rfl) (by decide +kernel) (by decide +kernel) (fun _ _ _ h => h) (Or.inl ⟨by rfl, fun w' hSw => ?_⟩) hHeld ?_
          · (go_simp)
          simp only [Act.put, List.getElem_toArray, List.getElem_cons_succ, List.getElem_cons_zero, List.setIfInBounds_toArray, List.set_cons_zero, List.set_cons_succ]
          refine wpAnyH_take (i := 2) (v := .pointer (some ⟨xb, 1, none⟩)) rfl (by kernel_rfl) (by decide +kernel) (by decide +kernel) (fun _ _ _ h => h) (Or.inl ⟨by rfl, fun w' hSw => ?_⟩) hHeld ?_
          · (go_simp)
          simp only [Act.put, List.getElem_toArray, List.getElem_cons_succ, List.getElem_cons_zero, List.setIfInBounds_toArray, List.set_cons_zero, List.set_cons_succ]
          refine wpAnyH_take (i := 3) (v := .slice A1 n1 c1) rfl (by kernel_rfl) (by decide +kernel) (by decide +kernel) (fun _ _ _ h => h) (Or.inl ⟨by rfl, fun w' hSw => ?_⟩) hHeld ?_
          · (go_simp)
          simp only [Act.put, List.getElem_toArray, List.getElem_cons_succ, List.getElem_cons_zero, List.setIfInBounds_toArray, List.set_cons_zero, List.set_cons_succ]
          refine wpAnyH_take (i := 4) (v := .int .i64 (cn : Int)) rfl (by kernel_rfl) (by decide +kernel) (by decide +kernel) (fun _ _ _ h => h) (Or.inl ⟨by rfl, fun w' hSw => ?_⟩) hHeld ?_
          · (go_simp)
          simp only [Act.put, List.getElem_toArray, List.getElem_cons_succ, List.getElem_cons_zero, List.setIfInBounds_toArray, List.set_cons_zero, List.set_cons_succ]
          refine wpAnyH_ready (rs := [5]) (by decide +kernel) (by simp) (AllReadyH.cons rfl (fun K hK => ?_) AllReadyH.nil)
          simp only [List.getElem_toArray, List.getElem_cons_succ, List.getElem_cons_zero]
          rw [if_pos (by rfl)]
          go_simp
          go_at_call 40
          refine (RWd.out _).mono ?_
          rintro e w' ⟨rfl, rfl⟩
          refine hK.out _ _ hHeld (fun hHeld => ?_)
          clear hK K
          refine wpAnyH_ready (rs := [6]) (by decide +kernel) (by simp) (AllReadyH.cons rfl (fun K hK => ?_) AllReadyH.nil)
          simp only [List.getElem_toArray, List.getElem_cons_succ, List.getElem_cons_zero]
          rw [if_pos (by rfl)]
          go_simp
          go_at_call 37
          refine (H1.out _ K4.out.drew).mono ?_
          rintro e W5 ⟨rfl, k5⟩
          have K5 := Lib.hid (show Kept Old W3 W5 from (K4.out.drew).trans k5)
          refine hK.out _ _ (Bg.cell_on k5 hHeld) (fun hHeld => ?_)
          clear hK K k5
          refine wpAnyH_take (i := 7) (v := .bool true) rfl (by kernel_rfl) (by decide +kernel) (by decide +kernel) (fun _ _ _ h => h) (Or.inl ⟨by rfl, fun w' hSw => ?_⟩) hHeld ?_
          · (go_simp)
          simp only [Act.put, List.getElem_toArray, List.getElem_cons_succ, List.getElem_cons_zero, List.setIfInBounds_toArray, List.set_cons_zero, List.set_cons_succ]
          refine wpAnyH_take (i := 8) (v := .bool true) rfl (by kernel_rfl) (by decide +kernel) (by decide +kernel) (fun _ _ _ h => h) (Or.inl ⟨by rfl, fun w' hSw => ?_⟩) hHeld ?_
          · (go_simp)
          simp only [Act.put, List.getElem_toArray, List.getElem_cons_succ, List.getElem_cons_zero, List.setIfInBounds_toArray, List.set_cons_zero, List.set_cons_succ]
          refine wpAnyH_take (i := 9) (v := undef) rfl (by kernel_rfl) (by decide +kernel) (by decide +kernel) (fun _ _ _ h => h) (Or.inr ⟨by rfl, rfl⟩) hHeld ?_
          simp only [Act.put, List.getElem_toArray, List.getElem_cons_succ, List.getElem_cons_zero, List.setIfInBounds_toArray, List.set_cons_zero, List.set_cons_succ]
          refine wpAnyH_take (i := 10) (v := undef) rfl (by kernel_rfl) (by decide +kernel) (by decide +kernel) (fun _ _ _ h => h) (Or.inr ⟨by rfl, rfl⟩) hHeld ?_
          simp only [Act.put, List.getElem_toArray, List.getElem_cons_succ, List.getElem_cons_zero, List.setIfInBounds_toArray, List.set_cons_zero, List.set_cons_succ]
          refine wpAnyH_take (i := 11) (v := undef) rfl (by kernel_rfl) (by decide +kernel) (by decide +kernel) (fun _ _ _ h => h) (Or.inr ⟨by rfl, rfl⟩) hHeld ?_
          simp only [Act.put, List.getElem_toArray, List.getElem_cons_succ, List.getElem_cons_zero, List.setIfInBounds_toArray, List.set_cons_zero, List.set_cons_succ]
          refine wpAnyH_take (i := 12) (v := undef) rfl (by kernel_rfl) (by decide +kernel) (by decide +kernel) (fun _ _ _ h => h) (Or.inr ⟨by rfl, rfl⟩) hHeld ?_
          simp only [Act.put, List.getElem_toArray, List.getElem_cons_succ, List.getElem_cons_zero, List.setIfInBounds_toArray, List.set_cons_zero, List.set_cons_succ]
          refine wpAnyH_take (i := 13) (v := undef) rfl (by kernel_rfl) (by decide +kernel) (by decide +kernel) (fun _ _ _ h => h) (Or.inr ⟨by rfl, rfl⟩) hHeld ?_
          simp only [Act.put, List.getElem_toArray, List.getElem_cons_succ, List.getElem_cons_zero, List.setIfInBounds_toArray, List.set_cons_zero, List.set_cons_succ]
          refine wpAnyH_take (i := 14) (v := undef) rfl (by kernel_rfl) (by decide +kernel) (by decide +kernel) (fun _ _ _ h => h) (Or.inr ⟨by rfl, rfl⟩) hHeld ?_
          simp only [Act.put, List.getElem_toArray, List.getElem_cons_succ, List.getElem_cons_zero, List.setIfInBounds_toArray, List.set_cons_zero, List.set_cons_succ]
          refine wpAnyH_take (i := 15) (v := .bool true) rfl (by kernel_rfl) (by decide +kernel) (by decide +kernel) (fun _ _ _ h => h) (Or.inl ⟨by rfl, fun w' hSw => ?_⟩) hHeld ?_
          · (go_simp)
          simp only [Act.put, List.getElem_toArray, List.getElem_cons_succ, List.getElem_cons_zero, List.setIfInBounds_toArray, List.set_cons_zero, List.set_cons_succ]
          refine wpAnyH_take (i := 16) (v := .bool true) rfl (by kernel_rfl) (by decide +kernel) (by decide +kernel) (fun _ _ _ h => h) (Or.inl ⟨by rfl, fun w' hSw => ?_⟩) hHeld ?_
          · (go_simp)
          simp only [Act.put, List.getElem_toArray, List.getElem_cons_succ, List.getElem_cons_zero, List.setIfInBounds_toArray, List.set_cons_zero, List.set_cons_succ]
          refine wpAnyH_done (by decide +kernel) ?_ _
          go_wp2_with fail
          go_meet
          exact ⟨by rw [e2.out, hb1]; rfl, K5.out⟩
        | false =>
          by_cases hl0 : 0 < (ca t cn).length
          · subst hb
            rw [hb1] at H1
            go_wp2_with fail
            refine wp_region_held_drew (S := (fun w' => w'.cell? ⟨xb, 1, none⟩ = some (.slice A1 n1 c1))) (by kernel_rfl) x1 (fun hHeld => ?_)
            refine wpAnyH_take (i := 0) (v := .bool false) rfl (by kernel_rfl) (by decide +kernel) (by decide +kernel) (fun _ _ _ h => h) (Or.inl ⟨by rfl, fun w' hSw => ?_⟩) hHeld ?_
            · (go_simp)
            simp only [Act.put, List.getElem_toArray, List.getElem_cons_zero, List.setIfInBounds_toArray, List.set_cons_zero, List.set_cons_succ]
            refine wpAnyH_take (i := 1) (v := .bool false) rfl (by kernel_rfl) (by decide +kernel) (by decide +kernel) (fun _ _ _ h => h) (Or.inl ⟨by rfl, fun w' hSw => ?_⟩) hHeld ?_
            · (go_simp)
            simp only [Act.put, List.getElem_toArray, List.getElem_cons_succ, List.getElem_cons_zero, List.setIfInBounds_toArray, List.set_cons_zero, List.set_cons_succ]
            refine wpAnyH_take (i := 2) (v := .pointer (some ⟨xb, 1, none⟩)) rfl (by kernel_rfl) (by decide +kernel) (by decide +kernel) (fun _ _ _ h => h) (Or.inl ⟨by rfl, fun w' hSw => ?_⟩) hHeld ?_
            · (go_simp)
            simp only [Act.put, List.getElem_toArray, List.getElem_cons_succ, List.getElem_cons_zero, List.setIfInBounds_toArray, List.set_cons_zero, List.set_cons_succ]
            refine wpAnyH_take (i := 3) (v := .slice A1 n1 c1) rfl (by kernel_rfl) (by decide +kernel) (by decide +kernel) (fun _ _ _ h => h) (Or.inl ⟨by rfl, fun w' hSw => ?_⟩) hHeld ?_
            · (go_simp)
            simp only [Act.put, List.getElem_toArray, List.getElem_cons_succ, List.getElem_cons_zero, List.setIfInBounds_toArray, List.set_cons_zero, List.set_cons_succ]
            refine wpAnyH_take (i := 4) (v := .int .i64 (cn : Int)) rfl (by kernel_rfl) (by decide +kernel) (by decide +kernel) (fun _ _ _ h => h) (Or.inl ⟨by rfl, fun w' hSw => ?_⟩) hHeld ?_
            · (go_simp)
            simp only [Act.put, List.getElem_toArray, List.getElem_cons_succ, List.getElem_cons_zero, List.setIfInBounds_toArray, List.set_cons_zero, List.set_cons_succ]
            refine wpAnyH_ready (rs := [5]) (by decide +kernel) (by simp) (AllReadyH.cons rfl (fun K hK => ?_) AllReadyH.nil)
            simp only [List.getElem_toArray, List.getElem_cons_succ, List.getElem_cons_zero]
            rw [if_pos (by rfl)]
            go_simp
            go_at_call 40
            refine (RWd.out _).mono ?_
            rintro e w' ⟨rfl, rfl⟩
            refine hK.out _ _ hHeld (fun hHeld => ?_)
            clear hK K
            refine wpAnyH_ready (rs := [6]) (by decide +kernel) (by simp) (AllReadyH.cons rfl (fun K hK => ?_) AllReadyH.nil)
            simp only [List.getElem_toArray, List.getElem_cons_succ, List.getElem_cons_zero]
            rw [if_pos (by rfl)]
            go_simp
            go_at_call 37
            refine (H1.out _ K4.out.drew).mono ?_
            rintro e W5 ⟨rfl, k5⟩
            have K5 := Lib.hid (show Kept Old W3 W5 from (K4.out.drew).trans k5)
            refine hK.out _ _ (Bg.cell_on k5 hHeld) (fun hHeld => ?_)
            clear hK K k5
            refine wpAnyH_take (i := 7) (v := .bool false) rfl (by kernel_rfl) (by decide +kernel) (by decide +kernel) (fun _ _ _ h => h) (Or.inl ⟨by rfl, fun w' hSw => ?_⟩) hHeld ?_
            · (go_simp)
            simp only [Act.put, List.getElem_toArray, List.getElem_cons_succ, List.getElem_cons_zero, List.setIfInBounds_toArray, List.set_cons_zero, List.set_cons_succ]
            refine wpAnyH_take (i := 8) (v := .bool false) rfl (by kernel_rfl) (by decide +kernel) (by decide +kernel) (fun _ _ _ h => h) (Or.inl ⟨by rfl, fun w' hSw => ?_⟩) hHeld ?_
            · (go_simp)
            simp only [Act.put, List.getElem_toArray, List.getElem_cons_succ, List.getElem_cons_zero, List.setIfInBounds_toArray, List.set_cons_zero, List.set_cons_succ]
            refine wpAnyH_take (i := 9) (v := ptr s) rfl (by kernel_rfl) (by decide +kernel) (by decide +kernel) (fun _ _ _ h => h) (Or.inl ⟨by rfl, fun w' hSw => ?_⟩) hHeld ?_
            · (go_simp)
            simp only [Act.put, List.getElem_toArray, List.getElem_cons_succ, List.getElem_cons_zero, List.setIfInBounds_toArray, List.set_cons_zero, List.set_cons_succ]
            refine wpAnyH_take (i := 10) (v := .int .i64 (t : Int)) rfl (by kernel_rfl) (by decide +kernel) (by decide +kernel) (fun _ _ _ h => h) (Or.inl ⟨by rfl, fun w' hSw => ?_⟩) hHeld ?_
            · (go_simp)
            simp only [Act.put, List.getElem_toArray, List.getElem_cons_succ, List.getElem_cons_zero, List.setIfInBounds_toArray, List.set_cons_zero, List.set_cons_succ]
            refine wpAnyH_take (i := 11) (v := .int .i64 (cn : Int)) rfl (by kernel_rfl) (by decide +kernel) (by decide +kernel) (fun _ _ _ h => h) (Or.inl ⟨by rfl, fun w' hSw => ?_⟩) hHeld ?_
            · (go_simp)
            simp only [Act.put, List.getElem_toArray, List.getElem_cons_succ, List.getElem_cons_zero, List.setIfInBounds_toArray, List.set_cons_zero, List.set_cons_succ]
            refine wpAnyH_ready (rs := [12]) (by decide +kernel) (by simp) (AllReadyH.cons rfl (fun K hK => ?_) AllReadyH.nil)
            simp only [List.getElem_toArray, List.getElem_cons_succ, List.getElem_cons_zero]
            rw [if_pos (by rfl)]
            go_simp
            go_at_call 24
            refine (CQ.out _ K5.out).mono ?_
            rintro e W6 ⟨vq, rfl, Aq, nq, cq, rfl, Rq, _, _, k6⟩
            have lq := Rq.lenN
            refine hK.out _ _ (Bg.cell_on k6 hHeld) (fun hHeld => ?_)
            have K6 := Lib.hid (K5.out.trans k6)
            clear hK K k6 Rq
            have hq0 : 0 < nq := by omega
            refine wpAnyH_take (i := 13) (v := .int .i64 (nq : Int)) rfl (by kernel_rfl) (by decide +kernel) (by decide +kernel) (fun _ _ _ h => h) (Or.inl ⟨by rfl, fun w' hSw => ?_⟩) hHeld ?_
            · (go_simp)
            simp only [Act.put, List.getElem_toArray, List.getElem_cons_succ, List.getElem_cons_zero, List.setIfInBounds_toArray, List.set_cons_zero, List.set_cons_succ]
            refine wpAnyH_take (i := 14) (v := .bool true) rfl (by kernel_rfl) (by decide +kernel) (by decide +kernel) (fun _ _ _ h => h) (Or.inl ⟨by rfl, fun w' hSw => ?_⟩) hHeld ?_
            · (go_simp)
            simp only [Act.put, List.getElem_toArray, List.getElem_cons_succ, List.getElem_cons_zero, List.setIfInBounds_toArray, List.set_cons_zero, List.set_cons_succ]
            refine wpAnyH_take (i := 15) (v := .bool true) rfl (by kernel_rfl) (by decide +kernel) (by decide +kernel) (fun _ _ _ h => h) (Or.inl ⟨by rfl, fun w' hSw => ?_⟩) hHeld ?_
            · (go_simp)
            simp only [Act.put, List.getElem_toArray, List.getElem_cons_succ, List.getElem_cons_zero, List.setIfInBounds_toArray, List.set_cons_zero, List.set_cons_succ]
            refine wpAnyH_take (i := 16) (v := .bool true) rfl (by kernel_rfl) (by decide +kernel) (by decide +kernel) (fun _ _ _ h => h) (Or.inl ⟨by rfl, fun w' hSw => ?_⟩) hHeld ?_
            · (go_simp)
            simp only [Act.put, List.getElem_toArray, List.getElem_cons_succ, List.getElem_cons_zero, List.setIfInBounds_toArray, List.set_cons_zero, List.set_cons_succ]
            refine wpAnyH_done (by decide +kernel) ?_ _
            go_wp2_with fail
            go_meet
            exact ⟨by rw [e2.out, hb1, decide_eq_true (by omega)]; rfl, K6.out⟩
          · subst hb
            rw [hb1] at H1
            go_wp2_with fail
            refine wp_region_held_drew (S := (fun w' => w'.cell? ⟨xb, 1, none⟩ = some (.slice A1 n1 c1))) (by kernel_rfl) x1 (fun hHeld => ?_)
            refine wpAnyH_take (i := 0) (v := .bool false) rfl (by kernel_rfl) (by decide +kernel) (by decide +kernel) (fun _ _ _ h => h) (Or.inl ⟨by rfl, fun w' hSw => ?_⟩) hHeld ?_
            · (go_simp)
            simp only [Act.put, List.getElem_toArray, List.getElem_cons_zero, List.setIfInBounds_toArray, List.set_cons_zero, List.set_cons_succ]
            refine wpAnyH_take (i := 1) (v := .bool false) rfl (by kernel_rfl) (by decide +kernel) (by decide +kernel) (fun _ _ _ h => h) (Or.inl ⟨by rfl, fun w' hSw => ?_⟩) hHeld ?_
            · (go_simp)
            simp only [Act.put, List.getElem_toArray, List.getElem_cons_succ, List.getElem_cons_zero, List.setIfInBounds_toArray, List.set_cons_zero, List.set_cons_succ]
            refine wpAnyH_take (i := 2) (v := .pointer (some ⟨xb, 1, none⟩)) rfl (by kernel_rfl) (by decide +kernel) (by decide +kernel) (fun _ _ _ h => h) (Or.inl ⟨by rfl, fun w' hSw => ?_⟩) hHeld ?_
            · (go_simp)
            simp only [Act.put, List.getElem_toArray, List.getElem_cons_succ, List.getElem_cons_zero, List.setIfInBounds_toArray, List.set_cons_zero, List.set_cons_succ]
            refine wpAnyH_take (i := 3) (v := .slice A1 n1 c1) rfl (by kernel_rfl) (by decide +kernel) (by decide +kernel) (fun _ _ _ h => h) (Or.inl ⟨by rfl, fun w' hSw => ?_⟩) hHeld ?_
            · (go_simp)
            simp only [Act.put, List.getElem_toArray, List.getElem_cons_succ, List.getElem_cons_zero, List.setIfInBounds_toArray, List.set_cons_zero, List.set_cons_succ]
            refine wpAnyH_take (i := 4) (v := .int .i64 (cn : Int)) rfl (by kernel_rfl) (by decide +kernel) (by decide +kernel) (fun _ _ _ h => h) (Or.inl ⟨by rfl, fun w' hSw => ?_⟩) hHeld ?_
            · (go_simp)
            simp only [Act.put, List.getElem_toArray, List.getElem_cons_succ, List.getElem_cons_zero, List.setIfInBounds_toArray, List.set_cons_zero, List.set_cons_succ]
            refine wpAnyH_ready (rs := [5]) (by decide +kernel) (by simp) (AllReadyH.cons rfl (fun K hK => ?_) AllReadyH.nil)
            simp only [List.getElem_toArray, List.getElem_cons_succ, List.getElem_cons_zero]
            rw [if_pos (by rfl)]
            go_simp
            go_at_call 40
            refine (RWd.out _).mono ?_
            rintro e w' ⟨rfl, rfl⟩
            refine hK.out _ _ hHeld (fun hHeld => ?_)
            clear hK K
            refine wpAnyH_ready (rs := [6]) (by decide +kernel) (by simp) (AllReadyH.cons rfl (fun K hK => ?_) AllReadyH.nil)
            simp only [List.getElem_toArray, List.getElem_cons_succ, List.getElem_cons_zero]
            rw [if_pos (by rfl)]
            go_simp
            go_at_call 37
            refine (H1.out _ K4.out.drew).mono ?_
            rintro e W5 ⟨rfl, k5⟩
            have K5 := Lib.hid (show Kept Old W3 W5 from (K4.out.drew).trans k5)
            refine hK.out _ _ (Bg.cell_on k5 hHeld) (fun hHeld => ?_)
            clear hK K k5
            refine wpAnyH_take (i := 7) (v := .bool false) rfl (by kernel_rfl) (by decide +kernel) (by decide +kernel) (fun _ _ _ h => h) (Or.inl ⟨by rfl, fun w' hSw => ?_⟩) hHeld ?_
            · (go_simp)
            simp only [Act.put, List.getElem_toArray, List.getElem_cons_succ, List.getElem_cons_zero, List.setIfInBounds_toArray, List.set_cons_zero, List.set_cons_succ]
            refine wpAnyH_take (i := 8) (v := .bool false) rfl (by kernel_rfl) (by decide +kernel) (by decide +kernel) (fun _ _ _ h => h) (Or.inl ⟨by rfl, fun w' hSw => ?_⟩) hHeld ?_
            · (go_simp)
            simp only [Act.put, List.getElem_toArray, List.getElem_cons_succ, List.getElem_cons_zero, List.setIfInBounds_toArray, List.set_cons_zero, List.set_cons_succ]
            refine wpAnyH_take (i := 9) (v := ptr s) rfl (by kernel_rfl) (by decide +kernel) (by decide +kernel) (fun _ _ _ h => h) (Or.inl ⟨by rfl, fun w' hSw => ?_⟩) hHeld ?_
            · (go_simp)
            simp only [Act.put, List.getElem_toArray, List.getElem_cons_succ, List.getElem_cons_zero, List.setIfInBounds_toArray, List.set_cons_zero, List.set_cons_succ]
            refine wpAnyH_take (i := 10) (v := .int .i64 (t : Int)) rfl (by kernel_rfl) (by decide +kernel) (by decide +kernel) (fun _ _ _ h => h) (Or.inl ⟨by rfl, fun w' hSw => ?_⟩) hHeld ?_
            · (go_simp)
            simp only [Act.put, List.getElem_toArray, List.getElem_cons_succ, List.getElem_cons_zero, List.setIfInBounds_toArray, List.set_cons_zero, List.set_cons_succ]
            refine wpAnyH_take (i := 11) (v := .int .i64 (cn : Int)) rfl (by kernel_rfl) (by decide +kernel) (by decide +kernel) (fun _ _ _ h => h) (Or.inl ⟨by rfl, fun w' hSw => ?_⟩) hHeld ?_
            · (go_simp)
            simp only [Act.put, List.getElem_toArray, List.getElem_cons_succ, List.getElem_cons_zero, List.setIfInBounds_toArray, List.set_cons_zero, List.set_cons_succ]
            refine wpAnyH_ready (rs := [12]) (by decide +kernel) (by simp) (AllReadyH.cons rfl (fun K hK => ?_) AllReadyH.nil)
            simp only [List.getElem_toArray, List.getElem_cons_succ, List.getElem_cons_zero]
            rw [if_pos (by rfl)]
            go_simp
            go_at_call 24
            refine (CQ.out _ K5.out).mono ?_
            rintro e W6 ⟨vq, rfl, Aq, nq, cq, rfl, Rq, _, _, k6⟩
            have lq := Rq.lenN
            refine hK.out _ _ (Bg.cell_on k6 hHeld) (fun hHeld => ?_)
            have K6 := Lib.hid (K5.out.trans k6)
            clear hK K k6 Rq
            obtain rfl : nq = 0 := by omega
            refine wpAnyH_take (i := 13) (v := .int .i64 0) rfl (by kernel_rfl) (by decide +kernel) (by decide +kernel) (fun _ _ _ h => h) (Or.inl ⟨by rfl, fun w' hSw => ?_⟩) hHeld ?_
            · (go_simp)
            simp only [Act.put, List.getElem_toArray, List.getElem_cons_succ, List.getElem_cons_zero, List.setIfInBounds_toArray, List.set_cons_zero, List.set_cons_succ]
            refine wpAnyH_take (i := 14) (v := .bool false) rfl (by kernel_rfl) (by decide +kernel) (by decide +kernel) (fun _ _ _ h => h) (Or.inl ⟨by rfl, fun w' hSw => ?_⟩) hHeld ?_
            · (go_simp)
            simp only [Act.put, List.getElem_toArray, List.getElem_cons_succ, List.getElem_cons_zero, List.setIfInBounds_toArray, List.set_cons_zero, List.set_cons_succ]
            refine wpAnyH_take (i := 15) (v := .bool false) rfl (by kernel_rfl) (by decide +kernel) (by decide +kernel) (fun _ _ _ h => h) (Or.inl ⟨by rfl, fun w' hSw => ?_⟩) hHeld ?_
            · (go_simp)
            simp only [Act.put, List.getElem_toArray, List.getElem_cons_succ, List.getElem_cons_zero, List.setIfInBounds_toArray, List.set_cons_zero, List.set_cons_succ]
            refine wpAnyH_take (i := 16) (v := .bool false) rfl (by kernel_rfl) (by decide +kernel) (by decide +kernel) (fun _ _ _ h => h) (Or.inl ⟨by rfl, fun w' hSw => ?_⟩) hHeld ?_
            · (go_simp)
            simp only [Act.put, List.getElem_toArray, List.getElem_cons_succ, List.getElem_cons_zero, List.setIfInBounds_toArray, List.set_cons_zero, List.set_cons_succ]
            refine wpAnyH_done (by decide +kernel) ?_ _
            go_wp2_with fail
            go_meet
            exact ⟨by rw [e2.out, hb1, decide_eq_false (by omega)]; rfl, K6.out⟩
    | false =>
      have e2 : B2 = hasP l3 (wordsI (cn : Int)) false := by have h := hB2.out; rwa [hs, if_neg (by simp)] at h
      rw [← e2] at H3
      have e2 := Lib.hid e2
      cases hb : B1 with
      | true =>
        subst hb
        go_wp2_with fail
        refine wp_region_held_drew (S := (fun w' => w'.cell? ⟨xb, 3, none⟩ = some (.slice A3 n3 c3))) (by kernel_rfl) x3 (fun hHeld => ?_)
        refine wpAnyH_take (i := 0) (v := .bool true) rfl (by kernel_rfl) (by decide +kernel) (by decide +kernel) (fun _ _ _ h => h) (Or.inl ⟨by rfl, fun w' hSw => ?_⟩) hHeld ?_
        · (go_simp)
        simp only [Act.put, List.getElem_toArray, List.getElem_cons_zero, List.setIfInBounds_toArray, List.set_cons_zero, List.set_cons_succ]
        refine wpAnyH_take (i := 1) (v := .bool true) rfl (by kernel_rfl) (by decide +kernel) (by decide +kernel) (fun _ _ _ h => h) (Or.inl ⟨by rfl, fun w' hSw => ?_⟩) hHeld ?_
        · (go_simp)
        simp only [Act.put, List.getElem_toArray, List.getElem_cons_succ, List.getElem_cons_zero, List.setIfInBounds_toArray, List.set_cons_zero, List.set_cons_succ]
        refine wpAnyH_take (i := 2) (v := undef) rfl (by kernel_rfl) (by decide +kernel) (by decide +kernel) (fun _ _ _ h => h) (Or.inr ⟨by rfl, rfl⟩) hHeld ?_
        simp only [Act.put, List.getElem_toArray, List.getElem_cons_succ, List.getElem_cons_zero, List.setIfInBounds_toArray, List.set_cons_zero, List.set_cons_succ]
        refine wpAnyH_take (i := 3) (v := undef) rfl (by kernel_rfl) (by decide +kernel) (by decide +kernel) (fun _ _ _ h => h) (Or.inr ⟨by rfl, rfl⟩) hHeld ?_
        simp only [Act.put, List.getElem_toArray, List.getElem_cons_succ, List.getElem_cons_zero, List.setIfInBounds_toArray, List.set_cons_zero, List.set_cons_succ]
        refine wpAnyH_take (i := 4) (v := undef) rfl (by kernel_rfl) (by decide +kernel) (by decide +kernel) (fun _ _ _ h => h) (Or.inr ⟨by rfl, rfl⟩) hHeld ?_
        simp only [Act.put, List.getElem_toArray, List.getElem_cons_succ, List.getElem_cons_zero, List.setIfInBounds_toArray, List.set_cons_zero, List.set_cons_succ]
        refine wpAnyH_take (i := 5) (v := undef) rfl (by kernel_rfl) (by decide +kernel) (by decide +kernel) (fun _ _ _ h => h) (Or.inr ⟨by rfl, rfl⟩) hHeld ?_
        simp only [Act.put, List.getElem_toArray, List.getElem_cons_succ, List.getElem_cons_zero, List.setIfInBounds_toArray, List.set_cons_zero, List.set_cons_succ]
        refine wpAnyH_take (i := 6) (v := undef) rfl (by kernel_rfl) (by decide +kernel) (by decide +kernel) (fun _ _ _ h => h) (Or.inr ⟨by rfl, rfl⟩) hHeld ?_
        simp only [Act.put, List.getElem_toArray, List.getElem_cons_succ, List.getElem_cons_zero, List.setIfInBounds_toArray, List.set_cons_zero, List.set_cons_succ]
        refine wpAnyH_take (i := 7) (v := .bool true) rfl (by kernel_rfl) (by decide +kernel) (by decide +kernel) (fun _ _ _ h => h) (Or.inl ⟨by rfl, fun w' hSw => ?_⟩) hHeld ?_
        · (go_simp)
        simp only [Act.put, List.getElem_toArray, List.getElem_cons_succ, List.getElem_cons_zero, List.setIfInBounds_toArray, List.set_cons_zero, List.set_cons_succ]
        refine wpAnyH_take (i := 8) (v := .bool true) rfl (by kernel_rfl) (by decide +kernel) (by decide +kernel) (fun _ _ _ h => h) (Or.inl ⟨by rfl, fun w' hSw => ?_⟩) hHeld ?_
        · (go_simp)
        simp only [Act.put, List.getElem_toArray, List.getElem_cons_succ, List.getElem_cons_zero, List.setIfInBounds_toArray, List.set_cons_zero, List.set_cons_succ]
        refine wpAnyH_done (by decide +kernel) ?_ _
        go_wp2_with fail
        go_meet
        exact ⟨by simp, K4.out.drew⟩
      | false =>
        subst hb
        go_wp2_with fail
        refine wp_region_held_drew (S := (fun w' => w'.cell? ⟨xb, 3, none⟩ = some (.slice A3 n3 c3))) (by kernel_rfl) x3 (fun hHeld => ?_)
        refine wpAnyH_take (i := 0) (v := .bool false) rfl (by kernel_rfl) (by decide +kernel) (by decide +kernel) (fun _ _ _ h => h) (Or.inl ⟨by rfl, fun w' hSw => ?_⟩) hHeld ?_
        · (go_simp)
        simp only [Act.put, List.getElem_toArray, List.getElem_cons_zero, List.setIfInBounds_toArray, List.set_cons_zero, List.set_cons_succ]
        refine wpAnyH_take (i := 1) (v := .bool false) rfl (by kernel_rfl) (by decide +kernel) (by decide +kernel) (fun _ _ _ h => h) (Or.inl ⟨by rfl, fun w' hSw => ?_⟩) hHeld ?_
        · (go_simp)
        simp only [Act.put, List.getElem_toArray, List.getElem_cons_succ, List.getElem_cons_zero, List.setIfInBounds_toArray, List.set_cons_zero, List.set_cons_succ]
        refine wpAnyH_take (i := 2) (v := .pointer (some ⟨xb, 3, none⟩)) rfl (by kernel_rfl) (by decide +kernel) (by decide +kernel) (fun _ _ _ h => h) (Or.inl ⟨by rfl, fun w' hSw => ?_⟩) hHeld ?_
        · (go_simp)
        simp only [Act.put, List.getElem_toArray, List.getElem_cons_succ, List.getElem_cons_zero, List.setIfInBounds_toArray, List.set_cons_zero, List.set_cons_succ]
        refine wpAnyH_take (i := 3) (v := .slice A3 n3 c3) rfl (by kernel_rfl) (by decide +kernel) (by decide +kernel) (fun _ _ _ h => h) (Or.inl ⟨by rfl, fun w' hSw => ?_⟩) hHeld ?_
        · (go_simp)
        simp only [Act.put, List.getElem_toArray, List.getElem_cons_succ, List.getElem_cons_zero, List.setIfInBounds_toArray, List.set_cons_zero, List.set_cons_succ]
        refine wpAnyH_take (i := 4) (v := .int .i64 (cn : Int)) rfl (by kernel_rfl) (by decide +kernel) (by decide +kernel) (fun _ _ _ h => h) (Or.inl ⟨by rfl, fun w' hSw => ?_⟩) hHeld ?_
        · (go_simp)
        simp only [Act.put, List.getElem_toArray, List.getElem_cons_succ, List.getElem_cons_zero, List.setIfInBounds_toArray, List.set_cons_zero, List.set_cons_succ]
        refine wpAnyH_ready (rs := [5]) (by decide +kernel) (by simp) (AllReadyH.cons rfl (fun K hK => ?_) AllReadyH.nil)
        simp only [List.getElem_toArray, List.getElem_cons_succ, List.getElem_cons_zero]
        rw [if_pos (by rfl)]
        go_simp
        go_at_call 40
        refine (RWd.out _).mono ?_
        rintro e w' ⟨rfl, rfl⟩
        refine hK.out _ _ hHeld (fun hHeld => ?_)
        clear hK K
        refine wpAnyH_ready (rs := [6]) (by decide +kernel) (by simp) (AllReadyH.cons rfl (fun K hK => ?_) AllReadyH.nil)
        simp only [List.getElem_toArray, List.getElem_cons_succ, List.getElem_cons_zero]
        rw [if_pos (by rfl)]
        go_simp
        go_at_call 37
        refine (H3.out _ K4.out.drew).mono ?_
        rintro e W5 ⟨rfl, k5⟩
        have K5 := Lib.hid (show Kept Old W3 W5 from (K4.out.drew).trans k5)
        refine hK.out _ _ (Bg.cell_on k5 hHeld) (fun hHeld => ?_)
        clear hK K k5
        refine wpAnyH_take (i := 7) (v := .bool B2) rfl (by kernel_rfl) (by decide +kernel) (by decide +kernel) (fun _ _ _ h => h) (Or.inl ⟨by rfl, fun w' hSw => ?_⟩) hHeld ?_
        · (go_simp)
        simp only [Act.put, List.getElem_toArray, List.getElem_cons_succ, List.getElem_cons_zero, List.setIfInBounds_toArray, List.set_cons_zero, List.set_cons_succ]
        refine wpAnyH_take (i := 8) (v := .bool B2) rfl (by kernel_rfl) (by decide +kernel) (by decide +kernel) (fun _ _ _ h => h) (Or.inl ⟨by rfl, fun w' hSw => ?_⟩) hHeld ?_
        · (go_simp)
        simp only [Act.put, List.getElem_toArray, List.getElem_cons_succ, List.getElem_cons_zero, List.setIfInBounds_toArray, List.set_cons_zero, List.set_cons_succ]
        refine wpAnyH_done (by decide +kernel) ?_ _
        go_wp2_with fail
        go_meet
        exact ⟨by simp, K5.out⟩
  case rest =>
    obtain ⟨rfl, kx⟩ := hcut
    rename World => W5
    have K5 := Lib.hid kx
    clear kx x1 x2 x3 x4 x5 x6 K4 RSm H1 H3 CQ
    have x0 := (XB.out.kept (D := Old) K5.out (fun z => z)).cell 0
    have x1 := (XB.out.kept (D := Old) K5.out (fun z => z)).cell 1
    have x2 := (XB.out.kept (D := Old) K5.out (fun z => z)).cell 2
    have x3 := (XB.out.kept (D := Old) K5.out (fun z => z)).cell 3
    have x4 := (XB.out.kept (D := Old) K5.out (fun z => z)).cell 4
    have x5 := (XB.out.kept (D := Old) K5.out (fun z => z)).cell 5
    have x6 := (XB.out.kept (D := Old) K5.out (fun z => z)).cell 6
    simp only [List.getElem?_cons_succ, List.getElem?_cons_zero] at x0 x1 x2 x3 x4 x5 x6
    have M5 := Lib.hid (M.out.more (G := fun b => W1.heap.size ≤ b ∧ b < W5.heap.size) (K13.out.trans K5.out) (fun b hb => .inr hb))
    have E5 := Lib.hid (show (pl.re W1.heap.size 98).nw = nw from EN.out)
    generalize pl.re W1.heap.size 98 = pl5 at *
    have gx := Lib.hid (show W1.heap.size ≤ xb ∧ xb < W5.heap.size from ⟨xg.out, (XB.out.kept (D := Old) K5.out (fun z => z)).lt⟩)
    have RM : (takeWR P k ca t (classI n)).2.2.2 = 0 ↔ (B1 || B2) = true := by
      have hc := hcc.out
      have b1 := hB1.out
      have b2 := hB2.out
      rcases class_ways CB with ⟨sm, c, e, hc4⟩ | ⟨sm, c4, c7⟩
      · have tk := took_small (P := P) (w := t) PO.out sm (by omega) (by omega)
        rw [tk, hc, Int.toNat_natCast, b1]
        rw [hc] at sm
        rw [sm, if_pos rfl] at b2
        rw [b2]
      · have tk := took_large SV.out (w := t) PO.out sm c4 c7
        rw [tk, hc, b1]
        rw [hc] at sm
        rw [sm, if_neg (by simp)] at b2
        rw [b2]
    have RM := Lib.hid RM
    have AL := salloc_any (w := t) (by have := E5.out; omega) n M5.out (by rw [E5.out]; exact SV.out)
    unfold AllocPost at AL
    generalize hR : (B1 || B2) = R at *
    clear hR
    cases R with
    | false =>
      have RN : (takeWR P k ca t (classI n)).2.2.2 ≠ 0 := fun q => by have := RM.out.1 q; cases this
      rw [alloc_no CB RN] at AL
      clear RN RM
      have AL := Lib.hid AL
      go_wp2_with fail
      refine AL.out.mono ?_
      rintro e W6 ⟨rfl, ⟨pl6, m6, e6⟩, f6⟩
      have M6 := Lib.hid m6
      have E6 := Lib.hid (show pl6.nw = nw from e6.nw.trans E5.out)
      have XC := (XB.out.kept (D := Old) K5.out (fun z => z)).kept f6 (fun z => z gx.out)
      have S0 := Lib.hid (pc_fr (R0.out.old K5.out) f6 (fun b hb hf z => z ⟨by obtain ⟨_, ad, e1, e2⟩ := hf; subst e1; rw [← e2]; exact nwv.out (.slice (some ad) n0 c0) (by simp) ad.block rfl, hb⟩))
      have S1 := Lib.hid (pc_fr (R1.out.old K5.out) f6 (fun b hb hf z => z ⟨by obtain ⟨_, ad, e1, e2⟩ := hf; subst e1; rw [← e2]; exact nwv.out (.slice (some ad) n1 c1) (by simp) ad.block rfl, hb⟩))
      have S2 := Lib.hid (pc_fr (R2.out.old K5.out) f6 (fun b hb hf z => z ⟨by obtain ⟨_, ad, e1, e2⟩ := hf; subst e1; rw [← e2]; exact nwv.out (.slice (some ad) n2 c2) (by simp) ad.block rfl, hb⟩))
      have S3 := Lib.hid (pc_fr (R3.out.old K5.out) f6 (fun b hb hf z => z ⟨by obtain ⟨_, ad, e1, e2⟩ := hf; subst e1; rw [← e2]; exact nwv.out (.slice (some ad) n3 c3) (by simp) ad.block rfl, hb⟩))
      have S4 := Lib.hid (pc_fr (R4.out.old K5.out) f6 (fun b hb hf z => z ⟨by obtain ⟨_, ad, e1, e2⟩ := hf; subst e1; rw [← e2]; exact nwv.out (.slice (some ad) n4 c4) (by simp) ad.block rfl, hb⟩))
      have S5 := Lib.hid (pc_fr (R5.out.old K5.out) f6 (fun b hb hf z => z ⟨by obtain ⟨_, ad, e1, e2⟩ := hf; subst e1; rw [← e2]; exact nwv.out (.slice (some ad) n5 c5) (by simp) ad.block rfl, hb⟩))
      have S6 := Lib.hid (pc_fr (R6.out.old K5.out) f6 (fun b hb hf z => z ⟨by obtain ⟨_, ad, e1, e2⟩ := hf; subst e1; rw [← e2]; exact nwv.out (.slice (some ad) n6 c6) (by simp) ad.block rfl, hb⟩))
      clear x0 x1 x2 x3 x4 x5 x6
      have x0 := XC.cell 0
      have x1 := XC.cell 1
      have x2 := XC.cell 2
      have x3 := XC.cell 3
      have x4 := XC.cell 4
      have x5 := XC.cell 5
      have x6 := XC.cell 6
      simp only [List.getElem?_cons_succ, List.getElem?_cons_zero] at x0 x1 x2 x3 x4 x5 x6
      have XC := Lib.hid XC
      clear m6 e6 f6 AL M5 E5 XB nwv M K13 xg gx R0 R1 R2 R3 R4 R5 R6
      have PA := Lib.hid (fun X (q : Kept Old W6 X) => (show PartsAt X (.agg #[.slice A0 n0 c0, .slice A1 n1 c1, .slice A2 n2 c2, .slice A3 n3 c3, .slice A4 n4 c4, .slice A5 n5 c5, .slice A6 n6 c6]) l0 l1 l2 l3 l4 l5 [] from ⟨_, _, _, _, _, _, _, rfl, ⟨_, _, _, rfl, S0.out.old q, h0.out⟩, ⟨_, _, _, rfl, S1.out.old q, h1.out⟩, ⟨_, _, _, rfl, S2.out.old q, h2.out⟩, ⟨_, _, _, rfl, S3.out.old q, h3.out⟩, ⟨_, _, _, rfl, S4.out.old q, h4.out⟩, ⟨_, _, _, rfl, S5.out.old q, h5.out⟩, ⟨_, _, _, rfl, S6.out.old q, h6.out⟩⟩))
      go_wp2_with fail
      refine wp_region_held_drew (S := (fun w' => w'.cell? ⟨xb, 0, none⟩ = some (.slice A0 n0 c0) ∧ w'.cell? ⟨xb, 1, none⟩ = some (.slice A1 n1 c1) ∧ w'.cell? ⟨xb, 2, none⟩ = some (.slice A2 n2 c2) ∧ w'.cell? ⟨xb, 3, none⟩ = some (.slice A3 n3 c3) ∧ w'.cell? ⟨xb, 4, none⟩ = some (.slice A4 n4 c4) ∧ w'.cell? ⟨xb, 5, none⟩ = some (.slice A5 n5 c5) ∧ w'.cell? ⟨xb, 6, none⟩ = some (.slice A6 n6 c6))) (by kernel_rfl) ⟨x0, x1, x2, x3, x4, x5, x6⟩ (fun hHeld => ?_)
      refine wpAnyH_take (i := 0) (v := .int .i64 0) rfl (by kernel_rfl) (by decide +kernel) (by decide +kernel) (fun _ _ _ h => h) (Or.inl ⟨by rfl, fun w' hSw => ?_⟩) hHeld ?_
      · (go_simp)
      simp only [Act.put, List.getElem_toArray, List.getElem_cons_zero, List.setIfInBounds_toArray, List.set_cons_zero, List.set_cons_succ]
      refine wpAnyH_take (i := 1) (v := .bool true) rfl (by kernel_rfl) (by decide +kernel) (by decide +kernel) (fun _ _ _ h => h) (Or.inl ⟨by rfl, fun w' hSw => ?_⟩) hHeld ?_
      · (go_simp)
      simp only [Act.put, List.getElem_toArray, List.getElem_cons_succ, List.getElem_cons_zero, List.setIfInBounds_toArray, List.set_cons_zero, List.set_cons_succ]
      refine wpAnyH_take (i := 2) (v := .bool true) rfl (by kernel_rfl) (by decide +kernel) (by decide +kernel) (fun _ _ _ h => h) (Or.inl ⟨by rfl, fun w' hSw => ?_⟩) hHeld ?_
      · (go_simp)
      simp only [Act.put, List.getElem_toArray, List.getElem_cons_succ, List.getElem_cons_zero, List.setIfInBounds_toArray, List.set_cons_zero, List.set_cons_succ]
      refine wpAnyH_take (i := 3) (v := .int .i64 3) rfl (by kernel_rfl) (by decide +kernel) (by decide +kernel) (fun _ _ _ h => h) (Or.inl ⟨by rfl, fun w' hSw => ?_⟩) hHeld ?_
      · (go_simp)
      simp only [Act.put, List.getElem_toArray, List.getElem_cons_succ, List.getElem_cons_zero, List.setIfInBounds_toArray, List.set_cons_zero, List.set_cons_succ]
      refine wpAnyH_take (i := 4) (v := .bool true) rfl (by kernel_rfl) (by decide +kernel) (by decide +kernel) (fun _ _ _ h => h) (Or.inl ⟨by rfl, fun w' hSw => ?_⟩) hHeld ?_
      · (go_simp)
      simp only [Act.put, List.getElem_toArray, List.getElem_cons_succ, List.getElem_cons_zero, List.setIfInBounds_toArray, List.set_cons_zero, List.set_cons_succ]
      refine wpAnyH_take (i := 5) (v := .bool true) rfl (by kernel_rfl) (by decide +kernel) (by decide +kernel) (fun _ _ _ h => h) (Or.inl ⟨by rfl, fun w' hSw => ?_⟩) hHeld ?_
      · (go_simp)
      simp only [Act.put, List.getElem_toArray, List.getElem_cons_succ, List.getElem_cons_zero, List.setIfInBounds_toArray, List.set_cons_zero, List.set_cons_succ]
      refine wpAnyH_take (i := 6) (v := .bool true) rfl (by kernel_rfl) (by decide +kernel) (by decide +kernel) (fun _ _ _ h => h) (Or.inl ⟨by rfl, fun w' hSw => ?_⟩) hHeld ?_
      · (go_simp)
      simp only [Act.put, List.getElem_toArray, List.getElem_cons_succ, List.getElem_cons_zero, List.setIfInBounds_toArray, List.set_cons_zero, List.set_cons_succ]
      refine wpAnyH_take (i := 7) (v := ptr s) rfl (by kernel_rfl) (by decide +kernel) (by decide +kernel) (fun _ _ _ h => h) (Or.inl ⟨by rfl, fun w' hSw => ?_⟩) hHeld ?_
      · (go_simp)
      simp only [Act.put, List.getElem_toArray, List.getElem_cons_succ, List.getElem_cons_zero, List.setIfInBounds_toArray, List.set_cons_zero, List.set_cons_succ]
      refine wpAnyH_take (i := 9) (v := .agg #[.slice A0 n0 c0, .slice A1 n1 c1, .slice A2 n2 c2, .slice A3 n3 c3, .slice A4 n4 c4, .slice A5 n5 c5, .slice A6 n6 c6]) rfl (by kernel_rfl) (by decide +kernel) (by decide +kernel) (fun _ _ _ h => h) (Or.inl ⟨by rfl, fun w' hSw => ?_⟩) hHeld ?_
      · (go_simp)
      simp only [Act.put, List.getElem_toArray, List.getElem_cons_succ, List.getElem_cons_zero, List.setIfInBounds_toArray, List.set_cons_zero, List.set_cons_succ]
      refine wpAnyH_ready (rs := [8]) (by decide +kernel) (by simp) (AllReadyH.cons rfl (fun K hK => ?_) AllReadyH.nil)
      simp only [List.getElem_toArray, List.getElem_cons_succ, List.getElem_cons_zero]
      rw [if_pos (by rfl)]
      go_simp
      go_at_call 25
      refine (sparts_any (pl := pl6.re W6.heap.size 97) E6.out N2 (M6.out.old (Kept.refl Old W6).drew) SV.out).mono ?_
      rintro e V7 ⟨vp, q0, q1, q2, q3, q4, q5, rfl, pa, po, k7⟩
      obtain ⟨rfl, rfl, rfl, rfl, rfl, rfl⟩ := PO.out.one po
      have K7 := Lib.hid (show Kept Old W6 V7 from (Kept.refl Old W6).drew.trans k7)
      have PB := Lib.hid pa
      refine hK.out _ _ ⟨Bg.cell_on k7 hHeld.1, Bg.cell_on k7 hHeld.2.1, Bg.cell_on k7 hHeld.2.2.1, Bg.cell_on k7 hHeld.2.2.2.1, Bg.cell_on k7 hHeld.2.2.2.2.1, Bg.cell_on k7 hHeld.2.2.2.2.2.1, Bg.cell_on k7 hHeld.2.2.2.2.2.2⟩ (fun hHeld => ?_)
      clear hK K k7 pa po
      refine wpAnyH_ready (rs := [10]) (by decide +kernel) (by simp) (AllReadyH.cons rfl (fun K hK => ?_) AllReadyH.nil)
      simp only [List.getElem_toArray, List.getElem_cons_succ, List.getElem_cons_zero]
      rw [if_pos (by rfl)]
      go_simp
      go_at_call 30
      refine (parts_yes V7 PB.out (PA.out V7 K7.out) (by have := lens.out; omega) (by have := lens.out; omega) (by have := lens.out; omega) (by have := lens.out; omega) (by have := lens.out; omega) (by have := lens.out; omega) (by simp)).mono ?_
      rintro e V8 ⟨rfl, k8⟩
      have K8 := Lib.hid (K7.out.trans k8)
      refine hK.out _ _ ⟨Bg.cell_on k8 hHeld.1, Bg.cell_on k8 hHeld.2.1, Bg.cell_on k8 hHeld.2.2.1, Bg.cell_on k8 hHeld.2.2.2.1, Bg.cell_on k8 hHeld.2.2.2.2.1, Bg.cell_on k8 hHeld.2.2.2.2.2.1, Bg.cell_on k8 hHeld.2.2.2.2.2.2⟩ (fun hHeld => ?_)
      clear hK K k8
      refine wpAnyH_take (i := 11) (v := .bool true) rfl (by kernel_rfl) (by decide +kernel) (by decide +kernel) (fun _ _ _ h => h) (Or.inl ⟨by rfl, fun w' hSw => ?_⟩) hHeld ?_
      · (go_simp)
      simp only [Act.put, List.getElem_toArray, List.getElem_cons_succ, List.getElem_cons_zero, List.setIfInBounds_toArray, List.set_cons_zero, List.set_cons_succ]
      refine wpAnyH_take (i := 12) (v := .bool true) rfl (by kernel_rfl) (by decide +kernel) (by decide +kernel) (fun _ _ _ h => h) (Or.inl ⟨by rfl, fun w' hSw => ?_⟩) hHeld ?_
      · (go_simp)
      simp only [Act.put, List.getElem_toArray, List.getElem_cons_succ, List.getElem_cons_zero, List.setIfInBounds_toArray, List.set_cons_zero, List.set_cons_succ]
      refine wpAnyH_ready (rs := [13]) (by decide +kernel) (by simp) (AllReadyH.cons rfl (fun K hK => ?_) AllReadyH.nil)
      simp only [List.getElem_toArray, List.getElem_cons_succ, List.getElem_cons_zero]
      rw [if_pos (by rfl)]
      go_simp
      go_at_call 17
      refine (awake_any _).mono ?_
      rintro e V9 ⟨rfl, k9⟩
      have K9 := Lib.hid (K8.out.trans k9)
      refine hK.out _ _ ⟨Bg.cell_on k9 hHeld.1, Bg.cell_on k9 hHeld.2.1, Bg.cell_on k9 hHeld.2.2.1, Bg.cell_on k9 hHeld.2.2.2.1, Bg.cell_on k9 hHeld.2.2.2.2.1, Bg.cell_on k9 hHeld.2.2.2.2.2.1, Bg.cell_on k9 hHeld.2.2.2.2.2.2⟩ (fun hHeld => ?_)
      clear hK K k9
      refine wpAnyH_take (i := 14) (v := .bool true) rfl (by kernel_rfl) (by decide +kernel) (by decide +kernel) (fun _ _ _ h => h) (Or.inl ⟨by rfl, fun w' hSw => ?_⟩) hHeld ?_
      · (go_simp)
      simp only [Act.put, List.getElem_toArray, List.getElem_cons_succ, List.getElem_cons_zero, List.setIfInBounds_toArray, List.set_cons_zero, List.set_cons_succ]
      refine wpAnyH_take (i := 15) (v := .bool true) rfl (by kernel_rfl) (by decide +kernel) (by decide +kernel) (fun _ _ _ h => h) (Or.inl ⟨by rfl, fun w' hSw => ?_⟩) hHeld ?_
      · (go_simp)
      simp only [Act.put, List.getElem_toArray, List.getElem_cons_succ, List.getElem_cons_zero, List.setIfInBounds_toArray, List.set_cons_zero, List.set_cons_succ]
      refine wpAnyH_done (by decide +kernel) ?_ _
      go_wp2_with fail
      go_ret
      exact ⟨rfl, M6.out.ff.kept.trans K9.out⟩
    | true =>
      have RY : (takeWR P k ca t (classI n)).2.2.2 = 0 := RM.out.2 rfl
      rw [alloc_yes CB RY] at AL
      obtain ⟨t0, t1, t2, t3⟩ := took_at SV.out htl CB RY
      generalize hkk : (takeWR P k ca t (classI n)).1 = kk at *
      generalize hca : (takeWR P k ca t (classI n)).2.1 = ck at *
      generalize haa : (takeWR P k ca t (classI n)).2.2.1 = a at *
      have VL := Lib.hid (show (Lm.insL live (Lm.newS n a)).length ≤ 600 from by have := Shp.ins_len live (Lm.newS n a); have := SV.out.val.len; omega)
      have VE := Shp.ins_len live (Lm.newS n a)
      generalize Lm.insL live (Lm.newS n a) = live2 at *
      rw [hcc.out] at t3
      have t3 := Lib.hid t3
      have tm : Int.tmod a 32 = 0 := by rw [Int.tmod_eq_emod_of_nonneg t0]; exact t1
      clear RY RM hkk haa hca
      have AL := Lib.hid AL
      go_wp2_with fail
      refine AL.out.mono ?_
      rintro e W6 ⟨rfl, ⟨pl6, m6, e6⟩, f6⟩
      have M6 := Lib.hid m6
      have E6 := Lib.hid (show pl6.nw = nw from e6.nw.trans E5.out)
      have XC := (XB.out.kept (D := Old) K5.out (fun z => z)).kept f6 (fun z => z gx.out)
      have S0 := Lib.hid (pc_fr (R0.out.old K5.out) f6 (fun b hb hf z => z ⟨by obtain ⟨_, ad, e1, e2⟩ := hf; subst e1; rw [← e2]; exact nwv.out (.slice (some ad) n0 c0) (by simp) ad.block rfl, hb⟩))
      have S1 := Lib.hid (pc_fr (R1.out.old K5.out) f6 (fun b hb hf z => z ⟨by obtain ⟨_, ad, e1, e2⟩ := hf; subst e1; rw [← e2]; exact nwv.out (.slice (some ad) n1 c1) (by simp) ad.block rfl, hb⟩))
      have S2 := Lib.hid (pc_fr (R2.out.old K5.out) f6 (fun b hb hf z => z ⟨by obtain ⟨_, ad, e1, e2⟩ := hf; subst e1; rw [← e2]; exact nwv.out (.slice (some ad) n2 c2) (by simp) ad.block rfl, hb⟩))
      have S3 := Lib.hid (pc_fr (R3.out.old K5.out) f6 (fun b hb hf z => z ⟨by obtain ⟨_, ad, e1, e2⟩ := hf; subst e1; rw [← e2]; exact nwv.out (.slice (some ad) n3 c3) (by simp) ad.block rfl, hb⟩))
      have S4 := Lib.hid (pc_fr (R4.out.old K5.out) f6 (fun b hb hf z => z ⟨by obtain ⟨_, ad, e1, e2⟩ := hf; subst e1; rw [← e2]; exact nwv.out (.slice (some ad) n4 c4) (by simp) ad.block rfl, hb⟩))
      have S5 := Lib.hid (pc_fr (R5.out.old K5.out) f6 (fun b hb hf z => z ⟨by obtain ⟨_, ad, e1, e2⟩ := hf; subst e1; rw [← e2]; exact nwv.out (.slice (some ad) n5 c5) (by simp) ad.block rfl, hb⟩))
      have S6 := Lib.hid (pc_fr (R6.out.old K5.out) f6 (fun b hb hf z => z ⟨by obtain ⟨_, ad, e1, e2⟩ := hf; subst e1; rw [← e2]; exact nwv.out (.slice (some ad) n6 c6) (by simp) ad.block rfl, hb⟩))
      clear x0 x1 x2 x3 x4 x5 x6
      have x0 := XC.cell 0
      have x1 := XC.cell 1
      have x2 := XC.cell 2
      have x3 := XC.cell 3
      have x4 := XC.cell 4
      have x5 := XC.cell 5
      have x6 := XC.cell 6
      simp only [List.getElem?_cons_succ, List.getElem?_cons_zero] at x0 x1 x2 x3 x4 x5 x6
      have XC := Lib.hid XC
      clear m6 e6 f6 AL M5 E5 XB nwv M K13 xg gx R0 R1 R2 R3 R4 R5 R6
      have l5e := Lib.hid PO.out.v
      have n5e := S5.out.len
      have lv := SV.out.val.len
      have ll : l5.length = live.length := by rw [l5e.out]; unfold liveP; rw [List.length_map]
      go_wp2_with fail
      go_loopw [20] (fun s20 wr => ∃ j : Nat, j ≤ n5 ∧ s20 = .int .i64 (j : Int) ∧ Hid (Kept Old W6 wr)) (fun s20 _ => n5 + 1 - (intOf s20).toNat)
      case atStart => exact ⟨0, Nat.zero_le _, rfl, Lib.hid (Kept.refl _ _)⟩
      case round =>
        obtain ⟨j, hj, rfl, KJ⟩ := hrel
        rename World => V
        have wj : IntKind.i64.wrap ((j : Int) + 1) = (j : Int) + 1 := IntWalk.i64_in _ (by omega)
        have x5 := (XC.out.kept (D := Old) KJ.out (fun z => z)).cell 5
        simp only [List.getElem?_cons_succ, List.getElem?_cons_zero] at x5
        by_cases cj : j < n5
        · have cj' : (j : Int) < (n5 : Int) := by omega
          have j0 : ¬ (j : Int) < 0 := by omega
          obtain ⟨g, o, yy, rfl, hg, hy, _, _, y0, y1⟩ := (S5.out.old KJ.out).get cj
          obtain ⟨lx, hx, rfl⟩ : ∃ lx ∈ live, yy = (lx.a, wordsI lx.n) := by rw [l5e.out] at hy; obtain ⟨lx, hx, e⟩ := List.mem_map.1 (List.mem_of_getElem? hy); exact ⟨lx, hx, e.symm⟩
          have ly := SV.out.val.each lx hx
          have l0' := ly.a0
          have l1' := ly.w0
          have l2' := ly.w1
          have l3' := ly.fit
          have nx := t3.out lx hx
          have OV := Lib.hid (fun X => Lm.rover_any lx.a (wordsI lx.n) a (wordsI (cn : Int)) X l0' (by omega) (by omega) l2' t0 t2 (by omega) (by omega))
          rw [show decide (lx.a < a + wordsI (cn : Int) ∧ a < lx.a + wordsI lx.n) = false from decide_eq_false nx] at OV
          clear hy hx ly nx l0' l1' l2' l3'
          simp only at y0 y1
          go_wp2_with fail
          refine wp_region_held_drew (S := (fun w' => w'.cell? ⟨xb, 5, none⟩ = some (.slice (some ⟨g, o, none⟩) n5 c5) ∧ w'.cell? ⟨g, o + j * 2, none⟩ = some (.int .i64 lx.a) ∧ w'.cell? ⟨g, o + j * 2 + 1, none⟩ = some (.int .i64 (wordsI lx.n)))) (by kernel_rfl) ⟨x5, y0, y1⟩ (fun hHeld => ?_)
          refine wpAnyH_take (i := 0) (v := .pointer (some ⟨xb, 5, none⟩)) rfl (by kernel_rfl) (by decide +kernel) (by decide +kernel) (fun _ _ _ h => h) (Or.inl ⟨by rfl, fun w' hSw => ?_⟩) hHeld ?_
          · (go_simp)
          simp only [Act.put, List.getElem_toArray, List.getElem_cons_zero, List.setIfInBounds_toArray, List.set_cons_zero, List.set_cons_succ]
          refine wpAnyH_take (i := 1) (v := .slice (some ⟨g, o, none⟩) n5 c5) rfl (by kernel_rfl) (by decide +kernel) (by decide +kernel) (fun _ _ _ h => h) (Or.inl ⟨by rfl, fun w' hSw => ?_⟩) hHeld ?_
          · (go_simp)
          simp only [Act.put, List.getElem_toArray, List.getElem_cons_succ, List.getElem_cons_zero, List.setIfInBounds_toArray, List.set_cons_zero, List.set_cons_succ]
          refine wpAnyH_take (i := 2) (v := .int .i64 (j : Int)) rfl (by kernel_rfl) (by decide +kernel) (by decide +kernel) (fun _ _ _ h => h) (Or.inl ⟨by rfl, fun w' hSw => ?_⟩) hHeld ?_
          · (go_simp)
          simp only [Act.put, List.getElem_toArray, List.getElem_cons_succ, List.getElem_cons_zero, List.setIfInBounds_toArray, List.set_cons_zero, List.set_cons_succ]
          refine wpAnyH_take (i := 3) (v := .pointer (some ⟨g, o + j * 2, none⟩)) rfl (by kernel_rfl) (by decide +kernel) (by decide +kernel) (fun _ _ _ h => h) (Or.inl ⟨by rfl, fun w' hSw => ?_⟩) hHeld ?_
          · (go_simp)
          simp only [Act.put, List.getElem_toArray, List.getElem_cons_succ, List.getElem_cons_zero, List.setIfInBounds_toArray, List.set_cons_zero, List.set_cons_succ]
          refine wpAnyH_take (i := 4) (v := .pointer (some ⟨g, o + j * 2, none⟩)) rfl (by kernel_rfl) (by decide +kernel) (by decide +kernel) (fun _ _ _ h => h) (Or.inl ⟨by rfl, fun w' hSw => ?_⟩) hHeld ?_
          · (go_simp)
          simp only [Act.put, List.getElem_toArray, List.getElem_cons_succ, List.getElem_cons_zero, List.setIfInBounds_toArray, List.set_cons_zero, List.set_cons_succ]
          refine wpAnyH_take (i := 5) (v := .int .i64 lx.a) rfl (by kernel_rfl) (by decide +kernel) (by decide +kernel) (fun _ _ _ h => h) (Or.inl ⟨by rfl, fun w' hSw => ?_⟩) hHeld ?_
          · (go_simp)
          simp only [Act.put, List.getElem_toArray, List.getElem_cons_succ, List.getElem_cons_zero, List.setIfInBounds_toArray, List.set_cons_zero, List.set_cons_succ]
          refine wpAnyH_take (i := 6) (v := .pointer (some ⟨xb, 5, none⟩)) rfl (by kernel_rfl) (by decide +kernel) (by decide +kernel) (fun _ _ _ h => h) (Or.inl ⟨by rfl, fun w' hSw => ?_⟩) hHeld ?_
          · (go_simp)
          simp only [Act.put, List.getElem_toArray, List.getElem_cons_succ, List.getElem_cons_zero, List.setIfInBounds_toArray, List.set_cons_zero, List.set_cons_succ]
          refine wpAnyH_take (i := 7) (v := .slice (some ⟨g, o, none⟩) n5 c5) rfl (by kernel_rfl) (by decide +kernel) (by decide +kernel) (fun _ _ _ h => h) (Or.inl ⟨by rfl, fun w' hSw => ?_⟩) hHeld ?_
          · (go_simp)
          simp only [Act.put, List.getElem_toArray, List.getElem_cons_succ, List.getElem_cons_zero, List.setIfInBounds_toArray, List.set_cons_zero, List.set_cons_succ]
          refine wpAnyH_take (i := 8) (v := .int .i64 (j : Int)) rfl (by kernel_rfl) (by decide +kernel) (by decide +kernel) (fun _ _ _ h => h) (Or.inl ⟨by rfl, fun w' hSw => ?_⟩) hHeld ?_
          · (go_simp)
          simp only [Act.put, List.getElem_toArray, List.getElem_cons_succ, List.getElem_cons_zero, List.setIfInBounds_toArray, List.set_cons_zero, List.set_cons_succ]
          refine wpAnyH_take (i := 9) (v := .pointer (some ⟨g, o + j * 2, none⟩)) rfl (by kernel_rfl) (by decide +kernel) (by decide +kernel) (fun _ _ _ h => h) (Or.inl ⟨by rfl, fun w' hSw => ?_⟩) hHeld ?_
          · (go_simp)
          simp only [Act.put, List.getElem_toArray, List.getElem_cons_succ, List.getElem_cons_zero, List.setIfInBounds_toArray, List.set_cons_zero, List.set_cons_succ]
          refine wpAnyH_take (i := 10) (v := .pointer (some ⟨g, o + j * 2 + 1, none⟩)) rfl (by kernel_rfl) (by decide +kernel) (by decide +kernel) (fun _ _ _ h => h) (Or.inl ⟨by rfl, fun w' hSw => ?_⟩) hHeld ?_
          · (go_simp)
          simp only [Act.put, List.getElem_toArray, List.getElem_cons_succ, List.getElem_cons_zero, List.setIfInBounds_toArray, List.set_cons_zero, List.set_cons_succ]
          refine wpAnyH_take (i := 11) (v := .int .i64 (wordsI lx.n)) rfl (by kernel_rfl) (by decide +kernel) (by decide +kernel) (fun _ _ _ h => h) (Or.inl ⟨by rfl, fun w' hSw => ?_⟩) hHeld ?_
          · (go_simp)
          simp only [Act.put, List.getElem_toArray, List.getElem_cons_succ, List.getElem_cons_zero, List.setIfInBounds_toArray, List.set_cons_zero, List.set_cons_succ]
          refine wpAnyH_take (i := 12) (v := .int .i64 a) rfl (by kernel_rfl) (by decide +kernel) (by decide +kernel) (fun _ _ _ h => h) (Or.inl ⟨by rfl, fun w' hSw => ?_⟩) hHeld ?_
          · (go_simp)
          simp only [Act.put, List.getElem_toArray, List.getElem_cons_succ, List.getElem_cons_zero, List.setIfInBounds_toArray, List.set_cons_zero, List.set_cons_succ]
          refine wpAnyH_take (i := 13) (v := .int .i64 (cn : Int)) rfl (by kernel_rfl) (by decide +kernel) (by decide +kernel) (fun _ _ _ h => h) (Or.inl ⟨by rfl, fun w' hSw => ?_⟩) hHeld ?_
          · (go_simp)
          simp only [Act.put, List.getElem_toArray, List.getElem_cons_succ, List.getElem_cons_zero, List.setIfInBounds_toArray, List.set_cons_zero, List.set_cons_succ]
          refine wpAnyH_ready (rs := [14]) (by decide +kernel) (by simp) (AllReadyH.cons rfl (fun K hK => ?_) AllReadyH.nil)
          simp only [List.getElem_toArray, List.getElem_cons_succ, List.getElem_cons_zero]
          rw [if_pos (by rfl)]
          go_simp
          go_at_call 40
          refine (RWd.out _).mono ?_
          rintro e w' ⟨rfl, rfl⟩
          refine hK.out _ _ hHeld (fun hHeld => ?_)
          clear hK K
          refine wpAnyH_ready (rs := [15]) (by decide +kernel) (by simp) (AllReadyH.cons rfl (fun K hK => ?_) AllReadyH.nil)
          simp only [List.getElem_toArray, List.getElem_cons_succ, List.getElem_cons_zero]
          rw [if_pos (by rfl)]
          go_simp
          go_at_call 41
          refine (OV.out _).mono ?_
          rintro e w' ⟨rfl, rfl⟩
          refine hK.out _ _ hHeld (fun hHeld => ?_)
          clear hK K
          refine wpAnyH_done (by decide +kernel) ?_ _
          go_wp2_with fail
          exact ⟨⟨j + 1, by omega, by go_num, Lib.hid KJ.out.drew⟩, by simp [intOf] <;> omega⟩
        · have cj' : ¬ (j : Int) < (n5 : Int) := by omega
          have zl : IntKind.i64.wrap ((n5 : Int) + 1) = (n5 : Int) + 1 := IntWalk.i64_in _ (by omega)
          have M7 := Lib.hid (M6.out.old KJ.out)
          go_wp2_with fail
          refine wp_region_held_drew (S := (fun w' => w'.cell? ⟨xb, 5, none⟩ = some (.slice A5 n5 c5))) (by kernel_rfl) x5 (fun hHeld => ?_)
          refine wpAnyH_take (i := 0) (v := .int .i64 0) rfl (by kernel_rfl) (by decide +kernel) (by decide +kernel) (fun _ _ _ h => h) (Or.inl ⟨by rfl, fun w' hSw => ?_⟩) hHeld ?_
          · (go_simp)
          simp only [Act.put, List.getElem_toArray, List.getElem_cons_zero, List.setIfInBounds_toArray, List.set_cons_zero, List.set_cons_succ]
          refine wpAnyH_take (i := 1) (v := .bool true) rfl (by kernel_rfl) (by decide +kernel) (by decide +kernel) (fun _ _ _ h => h) (Or.inl ⟨by rfl, fun w' hSw => ?_⟩) hHeld ?_
          · (go_simp)
          simp only [Act.put, List.getElem_toArray, List.getElem_cons_succ, List.getElem_cons_zero, List.setIfInBounds_toArray, List.set_cons_zero, List.set_cons_succ]
          refine wpAnyH_take (i := 2) (v := .bool true) rfl (by kernel_rfl) (by decide +kernel) (by decide +kernel) (fun _ _ _ h => h) (Or.inl ⟨by rfl, fun w' hSw => ?_⟩) hHeld ?_
          · (go_simp)
          simp only [Act.put, List.getElem_toArray, List.getElem_cons_succ, List.getElem_cons_zero, List.setIfInBounds_toArray, List.set_cons_zero, List.set_cons_succ]
          refine wpAnyH_take (i := 3) (v := ptr s) rfl (by kernel_rfl) (by decide +kernel) (by decide +kernel) (fun _ _ _ h => h) (Or.inl ⟨by rfl, fun w' hSw => ?_⟩) hHeld ?_
          · (go_simp)
          simp only [Act.put, List.getElem_toArray, List.getElem_cons_succ, List.getElem_cons_zero, List.setIfInBounds_toArray, List.set_cons_zero, List.set_cons_succ]
          refine wpAnyH_take (i := 6) (v := .pointer (some ⟨xb, 5, none⟩)) rfl (by kernel_rfl) (by decide +kernel) (by decide +kernel) (fun _ _ _ h => h) (Or.inl ⟨by rfl, fun w' hSw => ?_⟩) hHeld ?_
          · (go_simp)
          simp only [Act.put, List.getElem_toArray, List.getElem_cons_succ, List.getElem_cons_zero, List.setIfInBounds_toArray, List.set_cons_zero, List.set_cons_succ]
          refine wpAnyH_take (i := 7) (v := .slice A5 n5 c5) rfl (by kernel_rfl) (by decide +kernel) (by decide +kernel) (fun _ _ _ h => h) (Or.inl ⟨by rfl, fun w' hSw => ?_⟩) hHeld ?_
          · (go_simp)
          simp only [Act.put, List.getElem_toArray, List.getElem_cons_succ, List.getElem_cons_zero, List.setIfInBounds_toArray, List.set_cons_zero, List.set_cons_succ]
          refine wpAnyH_take (i := 8) (v := .int .i64 (n5 : Int)) rfl (by kernel_rfl) (by decide +kernel) (by decide +kernel) (fun _ _ _ h => h) (Or.inl ⟨by rfl, fun w' hSw => ?_⟩) hHeld ?_
          · (go_simp)
          simp only [Act.put, List.getElem_toArray, List.getElem_cons_succ, List.getElem_cons_zero, List.setIfInBounds_toArray, List.set_cons_zero, List.set_cons_succ]
          refine wpAnyH_take (i := 9) (v := .int .i64 ((n5 : Int) + 1)) rfl (by kernel_rfl) (by decide +kernel) (by decide +kernel) (fun _ _ _ h => h) (Or.inl ⟨by rfl, fun w' hSw => ?_⟩) hHeld ?_
          · (go_simp)
          simp only [Act.put, List.getElem_toArray, List.getElem_cons_succ, List.getElem_cons_zero, List.setIfInBounds_toArray, List.set_cons_zero, List.set_cons_succ]
          refine wpAnyH_ready (rs := [4]) (by decide +kernel) (by simp) (AllReadyH.cons rfl (fun K hK => ?_) AllReadyH.nil)
          simp only [List.getElem_toArray, List.getElem_cons_succ, List.getElem_cons_zero]
          rw [if_pos (by rfl)]
          go_simp
          go_at_call 27
          refine (slive_any (M7.out.old (Kept.refl Old V).drew) VL.out).mono ?_
          rintro e V8 ⟨v5, rfl, AL, nL, cL, rfl, RL, _, _, k8⟩
          have nl : (nL : Int) = (n5 : Int) + 1 := by have := RL.len; omega
          have K8 := Lib.hid (show Kept Old V V8 from (Kept.refl Old V).drew.trans k8)
          refine hK.out _ _ (Bg.cell_on k8 hHeld) (fun hHeld => ?_)
          clear hK K k8 RL
          refine wpAnyH_take (i := 5) (v := .int .i64 ((n5 : Int) + 1)) rfl (by kernel_rfl) (by decide +kernel) (by decide +kernel) (fun _ _ _ h => h) (Or.inl ⟨by rfl, fun w' hSw => ?_⟩) hHeld ?_
          · (go_simp)
          simp only [Act.put, List.getElem_toArray, List.getElem_cons_succ, List.getElem_cons_zero, List.setIfInBounds_toArray, List.set_cons_zero, List.set_cons_succ]
          refine wpAnyH_take (i := 10) (v := .bool true) rfl (by kernel_rfl) (by decide +kernel) (by decide +kernel) (fun _ _ _ h => h) (Or.inl ⟨by rfl, fun w' hSw => ?_⟩) hHeld ?_
          · (go_simp)
          simp only [Act.put, List.getElem_toArray, List.getElem_cons_succ, List.getElem_cons_zero, List.setIfInBounds_toArray, List.set_cons_zero, List.set_cons_succ]
          refine wpAnyH_take (i := 11) (v := .bool true) rfl (by kernel_rfl) (by decide +kernel) (by decide +kernel) (fun _ _ _ h => h) (Or.inl ⟨by rfl, fun w' hSw => ?_⟩) hHeld ?_
          · (go_simp)
          simp only [Act.put, List.getElem_toArray, List.getElem_cons_succ, List.getElem_cons_zero, List.setIfInBounds_toArray, List.set_cons_zero, List.set_cons_succ]
          refine wpAnyH_take (i := 12) (v := .bool true) rfl (by kernel_rfl) (by decide +kernel) (by decide +kernel) (fun _ _ _ h => h) (Or.inl ⟨by rfl, fun w' hSw => ?_⟩) hHeld ?_
          · (go_simp)
          simp only [Act.put, List.getElem_toArray, List.getElem_cons_succ, List.getElem_cons_zero, List.setIfInBounds_toArray, List.set_cons_zero, List.set_cons_succ]
          refine wpAnyH_take (i := 13) (v := .int .i64 a) rfl (by kernel_rfl) (by decide +kernel) (by decide +kernel) (fun _ _ _ h => h) (Or.inl ⟨by rfl, fun w' hSw => ?_⟩) hHeld ?_
          · (go_simp)
          simp only [Act.put, List.getElem_toArray, List.getElem_cons_succ, List.getElem_cons_zero, List.setIfInBounds_toArray, List.set_cons_zero, List.set_cons_succ]
          refine wpAnyH_take (i := 14) (v := .bool true) rfl (by kernel_rfl) (by decide +kernel) (by decide +kernel) (fun _ _ _ h => h) (Or.inl ⟨by rfl, fun w' hSw => ?_⟩) hHeld ?_
          · (go_simp)
          simp only [Act.put, List.getElem_toArray, List.getElem_cons_succ, List.getElem_cons_zero, List.setIfInBounds_toArray, List.set_cons_zero, List.set_cons_succ]
          refine wpAnyH_take (i := 15) (v := .bool true) rfl (by kernel_rfl) (by decide +kernel) (by decide +kernel) (fun _ _ _ h => h) (Or.inl ⟨by rfl, fun w' hSw => ?_⟩) hHeld ?_
          · (go_simp)
          simp only [Act.put, List.getElem_toArray, List.getElem_cons_succ, List.getElem_cons_zero, List.setIfInBounds_toArray, List.set_cons_zero, List.set_cons_succ]
          refine wpAnyH_take (i := 16) (v := .bool true) rfl (by kernel_rfl) (by decide +kernel) (by decide +kernel) (fun _ _ _ h => h) (Or.inl ⟨by rfl, fun w' hSw => ?_⟩) hHeld ?_
          · (go_simp)
          simp only [Act.put, List.getElem_toArray, List.getElem_cons_succ, List.getElem_cons_zero, List.setIfInBounds_toArray, List.set_cons_zero, List.set_cons_succ]
          refine wpAnyH_take (i := 17) (v := .int .i64 a) rfl (by kernel_rfl) (by decide +kernel) (by decide +kernel) (fun _ _ _ h => h) (Or.inl ⟨by rfl, fun w' hSw => ?_⟩) hHeld ?_
          · (go_simp)
          simp only [Act.put, List.getElem_toArray, List.getElem_cons_succ, List.getElem_cons_zero, List.setIfInBounds_toArray, List.set_cons_zero, List.set_cons_succ]
          refine wpAnyH_take (i := 18) (v := .int .i64 0) rfl (by kernel_rfl) (by decide +kernel) (by decide +kernel) (fun _ _ _ h => h) (Or.inl ⟨by rfl, fun w' hSw => ?_⟩) hHeld ?_
          · (go_simp)
          simp only [Act.put, List.getElem_toArray, List.getElem_cons_succ, List.getElem_cons_zero, List.setIfInBounds_toArray, List.set_cons_zero, List.set_cons_succ]
          refine wpAnyH_take (i := 19) (v := .bool true) rfl (by kernel_rfl) (by decide +kernel) (by decide +kernel) (fun _ _ _ h => h) (Or.inl ⟨by rfl, fun w' hSw => ?_⟩) hHeld ?_
          · (go_simp)
          simp only [Act.put, List.getElem_toArray, List.getElem_cons_succ, List.getElem_cons_zero, List.setIfInBounds_toArray, List.set_cons_zero, List.set_cons_succ]
          refine wpAnyH_take (i := 20) (v := .bool true) rfl (by kernel_rfl) (by decide +kernel) (by decide +kernel) (fun _ _ _ h => h) (Or.inl ⟨by rfl, fun w' hSw => ?_⟩) hHeld ?_
          · (go_simp)
          simp only [Act.put, List.getElem_toArray, List.getElem_cons_succ, List.getElem_cons_zero, List.setIfInBounds_toArray, List.set_cons_zero, List.set_cons_succ]
          refine wpAnyH_take (i := 21) (v := .bool true) rfl (by kernel_rfl) (by decide +kernel) (by decide +kernel) (fun _ _ _ h => h) (Or.inl ⟨by rfl, fun w' hSw => ?_⟩) hHeld ?_
          · (go_simp)
          simp only [Act.put, List.getElem_toArray, List.getElem_cons_succ, List.getElem_cons_zero, List.setIfInBounds_toArray, List.set_cons_zero, List.set_cons_succ]
          refine wpAnyH_ready (rs := [22]) (by decide +kernel) (by simp) (AllReadyH.cons rfl (fun K hK => ?_) AllReadyH.nil)
          simp only [List.getElem_toArray, List.getElem_cons_succ, List.getElem_cons_zero]
          rw [if_pos (by rfl)]
          go_simp
          go_at_call 17
          refine (awake_any _).mono ?_
          rintro e V9 ⟨rfl, k9⟩
          have K9 := Lib.hid (K8.out.trans k9)
          refine hK.out _ _ (Bg.cell_on k9 hHeld) (fun hHeld => ?_)
          clear hK K k9
          refine wpAnyH_take (i := 23) (v := .bool true) rfl (by kernel_rfl) (by decide +kernel) (by decide +kernel) (fun _ _ _ h => h) (Or.inl ⟨by rfl, fun w' hSw => ?_⟩) hHeld ?_
          · (go_simp)
          simp only [Act.put, List.getElem_toArray, List.getElem_cons_succ, List.getElem_cons_zero, List.setIfInBounds_toArray, List.set_cons_zero, List.set_cons_succ]
          refine wpAnyH_take (i := 24) (v := .bool true) rfl (by kernel_rfl) (by decide +kernel) (by decide +kernel) (fun _ _ _ h => h) (Or.inl ⟨by rfl, fun w' hSw => ?_⟩) hHeld ?_
          · (go_simp)
          simp only [Act.put, List.getElem_toArray, List.getElem_cons_succ, List.getElem_cons_zero, List.setIfInBounds_toArray, List.set_cons_zero, List.set_cons_succ]
          refine wpAnyH_done (by decide +kernel) ?_ _
          go_wp2_with fail
          go_ret
          exact ⟨rfl, M7.out.ff.kept.trans K9.out⟩

/-- The row's step. -/
theorem lifted (os : Os) (started : os.Started) (H : Type) (enc : TypeId × Value → H) :
    ReturnsInHanded {} Tryz.checked os 9 .any (Rows.shopFullSpec.pre6 enc Tryz.prog Tryz.f9 Rows.shopFullRow.domain false) (Rows.shopFullSpec.post enc Tryz.prog Tryz.f9 false true false false) := by
  refine returnsInHanded_of_change_sized (C := Tryz.checked) own started (by kernel_rfl) Tryz.func9
    (ChangeSpec.witness6 (enc := enc) (C := Tryz.checked) false ⟨#[], #[.int .u8 0, .int .u8 0, .slice none 0 0, .int .u16 0, .int .u8 0], []⟩ 8 (by kernel_rfl) (by kernel_rfl) (by kernel_rfl) (by kernel_rfl)) ?_
  intro W base args ds gs before hval0 hW hcnd hsz0 _
  have hsz : (DataW.weightsEach Tryz.prog (Tryz.f9.params.toList ++ Rows.shopFullSpec.plain.varTypes Tryz.prog) (ds ++ gs)).all (· ≤ reachBytes) = true := hsz0
  have hval : ∀ (j : Nat) t v, Tryz.f9.params[j]? = some t → args[j]? = some v → Value.okWide Tryz.prog W .any base t v := hval0
  have hW' := hW
  obtain ⟨p, q, hA0, hV, rfl, hfz, hnd⟩ := hW
  have hA : DataW.TrodAll enc Tryz.prog W 0 (fun _ => true) true Tryz.f9.params.toList args.toList ds p := hA0
  rw [Tryz.params9] at hA hval hsz
  obtain ⟨v0, vs0, d0, ds0, p0, q0, hargs, rfl, rfl, h0, r0⟩ := trodAll_cons hA
  obtain ⟨v1, vs1, d1, ds1, p1, q1, rfl, rfl, rfl, h1, r1⟩ := trodAll_cons r0
  obtain ⟨v2, vs2, d2, ds2, p2, q2, rfl, rfl, rfl, h2, r2⟩ := trodAll_cons r1
  obtain ⟨v3, vs3, d3, ds3, p3, q3, rfl, rfl, rfl, h3, r3⟩ := trodAll_cons r2
  obtain ⟨v4, vs4, d4, ds4, p4, q4, rfl, rfl, rfl, h4, r4⟩ := trodAll_cons r3
  obtain ⟨rfl, rfl, rfl⟩ := trodAll_nil r4
  obtain rfl : args = #[v0, v1, v2, v3, v4] := by cases args; simp_all
  obtain ⟨rfl, rfl⟩ := trodVars_none hV
  obtain ⟨a0, rfl, rfl, rfl, w0⟩ := open_int Tryz.underlying5 (hval 0 5 v0 rfl rfl) h0
  obtain ⟨a1, rfl, rfl, rfl, w1⟩ := open_int Tryz.underlying5 (hval 1 5 v1 rfl rfl) h1
  have k2 := h2
  have lt2 : ∀ x ∈ p2, x.block < W.heap.size := by obtain ⟨m, hm⟩ := k2; exact DataW.trod_lt m _ _ _ hm
  obtain ⟨a2, len2, cap2, rfl⟩ := okWide_slice Tryz.underlying22 (hval 2 22 v2 rfl rfl)
  obtain ⟨z2, w2⟩ := ints_in Tryz.underlying22 Tryz.underlying5 (by kernel_rfl) h2
  have rch2 := slice_reach (j := 2) Tryz.underlying22 (show Tryz.prog.bytesOf 5 = 1 by kernel_rfl) k2 hsz rfl rfl
  obtain ⟨a3, rfl, rfl, rfl, w3⟩ := open_int Tryz.underlying68 (hval 3 68 v3 rfl rfl) h3
  obtain ⟨a4, rfl, rfl, rfl, w4⟩ := open_int Tryz.underlying5 (hval 4 5 v4 rfl rfl) h4
  clear hA0 hval0
  refine (walk a0 a1 a2 len2 cap2 z2 a3 a4 W w0 w1 w2 rch2 w3 w4).mono fun e W' ⟨he, kept⟩ => ?_
  subst he
  have bel : Below W.heap.size W W' := kept.toBelow (Nat.le_refl _) (fun _ x => x.elim)
  exact ⟨_, rfl, _, _, _, [], _, [], hW', trodAll_mk1 (shut_bool Tryz.underlying4 _), (trodAll_cons_mk (shut_int Tryz.underlying5 w0) (trodAll_cons_mk (shut_int Tryz.underlying5 w1) (trodAll_cons_mk (Below.trod laidOut (by kernel_rfl) (of_decide_eq_true (by kernel_rfl)) k2 bel lt2) (trodAll_cons_mk (shut_int Tryz.underlying68 w3) (trodAll_cons_mk (shut_int Tryz.underlying5 w4) trodAll_mk0))))), rfl, bel.frame _, fun h => by cases h⟩

theorem over : Rows.ShopFullSaid :=
  OpenClaim.holds_of_wide 9 Tryz.f9 rfl rfl rfl rfl rfl rfl rfl ⟨rfl, rfl, rfl, rfl, rfl⟩ rfl rfl rfl rfl rfl (by kernel_rfl) Tryz.func9 (by kernel_rfl)
    (of_decide_eq_true (by kernel_rfl)) (by unfold Func.isWrapper; first | (rw [if_pos (by decide +kernel)]; kernel_rfl) | (rw [if_neg (by decide +kernel)]; exact ⟨rfl, rfl⟩))
    (fun os started H enc _ => lifted os started H enc)

/-- The statement. -/
theorem proved : Rows.ShopFullSaid := over
#print axioms proved
end Go.Proofs.YtcndilpaijapkaaGreat.shopFull
