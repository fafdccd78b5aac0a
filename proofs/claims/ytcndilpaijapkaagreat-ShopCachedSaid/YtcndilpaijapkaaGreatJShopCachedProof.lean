/-
  For every input the law ShopCached of rickyard/rickyardlaw15 returns true, and its arguments read afterwards as before. The law's own sentence: What is freed is the next one that its worker is told of that class; what another worker is told is another one. No further conditions.
-/
import Derived.Test.YtcndilpaijapkaaGreatRows
import Derived.SizedLaws
import Derived.WalkKit
import Derived.ProofKit
import Derived.OpenShut
import Derived.ChangeOld
import Derived.Below
import Derived.Lib.SmallJoins
import Derived.Test.YtcndilpaijapkaaGreatJBase
import Derived.Test.YtcndilpaijapkaaGreatJLate
import Derived.Test.YtcndilpaijapkaaGreatJShpCachedM
import Derived.Test.YtcndilpaijapkaaGreatJShpG
namespace Go.Proofs.YtcndilpaijapkaaGreat.shopCached
open Go.ChangeShapes Go.WideShapes Go.ChangeAt Go.RowKit
set_option linter.unusedVariables false
set_option maxRecDepth 100000

theorem own : ownKnob Tryz.prog.godebug = none := by kernel_rfl
theorem laidOut : laidOutB Tryz.prog = true := by kernel_rfl
open Sto
open Shp

set_option maxHeartbeats 16000000 in
/-- The walk: the Go text returns true, and nothing that was there has turned. -/
theorem walk (a0 : Int) (a1 : Int) (a2 : Option Addr) (len2 cap2 : Nat) (z2 : Nat → Int) (a3 : Int) (a4 : Int) (w : World) (w0 : (Lit.int .u8 a0).wf = true) (w1 : (Lit.int .u8 a1).wf = true) (w2 : len2 ≤ cap2 ∧ cap2 ≤ maxLen ∧ (∀ i, i < len2 → (Lit.int .u8 (z2 i)).wf = true) ∧ Sl w a2 1 len2 fun i _ => .int .u8 (z2 i)) (rch2 : cap2 * 1 ≤ 140737488351232 ∧ (a2 = none → len2 = 0 ∧ cap2 = 0)) (w3 : (Lit.int .u8 a3).wf = true) (w4 : (Lit.int .u8 a4).wf = true) :
    Calls Tryz.prog 10 #[.int .u8 a0, .int .u8 a1, .slice a2 len2 cap2, .int .u8 a3, .int .u8 a4] w fun e w' => e = .returned (.bool true) ∧ Kept Old w w' := by
  obtain ⟨v0, v1, v2, v3⟩ := w2
  have hl : len2 ≤ 9223372036854775807 := by unfold maxLen at v1; omega
  have hz := Lib.hid (show ∀ i, i < len2 → 0 ≤ z2 i ∧ z2 i ≤ 255 from fun i hi => bounds_u8 (v2 i hi))
  have HS := Lib.hid v3
  obtain ⟨p1, p2⟩ := bounds_u8 w0
  obtain ⟨p3, p4⟩ := bounds_u8 w1
  obtain ⟨u, rfl⟩ : ∃ u : Nat, a0 = (u : Int) := ⟨a0.toNat, by omega⟩
  obtain ⟨x, rfl⟩ : ∃ x : Nat, a1 = (x : Int) := ⟨a1.toNat, by omega⟩
  obtain ⟨P, hP, P1, P2⟩ : ∃ P : Nat, 1 + (u : Int) = (P : Int) ∧ 1 ≤ P ∧ P ≤ 256 := ⟨1 + u, by omega, by omega, by omega⟩
  obtain ⟨nw, hnw, N1, N2⟩ : ∃ nw : Nat, 1 + (x : Int) % 6 = (nw : Int) ∧ 1 ≤ nw ∧ nw ≤ 6 := ⟨1 + x % 6, by omega, by omega, by omega⟩
  obtain ⟨b, hb, hb5⟩ : ∃ b : Nat, a3 = (b : Int) ∧ b ≤ 255 := by obtain ⟨g1, g2⟩ := bounds_u8 w3; exact ⟨a3.toNat, by omega, by omega⟩
  subst hb
  clear w3
  obtain ⟨y, hy, hy5⟩ : ∃ y : Nat, a4 = (y : Int) ∧ y ≤ 255 := by obtain ⟨g1, g2⟩ := bounds_u8 w4; exact ⟨a4.toNat, by omega, by omega⟩
  subst hy
  clear w4
  have PL := Lib.hid (played_any u x P nw (by omega) (by omega) hP hnw a2 len2 cap2 z2 hl hz.out HS.out)
  obtain ⟨t, ht, htl⟩ : ∃ t, y % nw = t ∧ t < nw := ⟨_, rfl, Nat.mod_lt _ N1⟩
  have hti : (y : Int) % (nw : Int) = (t : Int) := by omega
  have nz : ¬ (nw : Int) = 0 := by omega
  clear v0 v1 v2 v3 w0 w1 ht
  go_enter Tryz.func10, Tryz.ntmps10
  go_wp2_with fail
  refine PL.out.mono ?_
  rintro e W1 ⟨s, rfl, k, ca, live, pl0, m0, en0, sv0⟩
  have M1 := Lib.hid m0
  have EN := Lib.hid en0
  have SV := Lib.hid sv0
  clear m0 sv0 en0 PL
  go_wp2_with fail
  refine (slive_any M1.out (by have := SV.out.val.len; omega)).mono ?_
  rintro e X1 ⟨vl, rfl, AL, nL, cL, rfl, RL, _, NL, kl⟩
  have ln := RL.len
  have lv := SV.out.val.len
  by_cases n0 : nL = 0
  · subst n0
    have MA := Lib.hid (M1.out.old kl)
    clear RL NL kl ln
    go_wp2_with fail
    refine (Shp.awake_any _).mono ?_
    rintro e X2 ⟨rfl, k2⟩
    have KE := Lib.hid (MA.out.ff.kept.trans k2)
    clear k2
    go_wp2_with fail
    go_ret
    exact ⟨rfl, KE.out⟩
  · have hn0 : ¬ (nL : Int) = 0 := by omega
    obtain ⟨q, hq, hqn⟩ : ∃ q : Nat, b % nL = q ∧ q < nL := ⟨_, rfl, Nat.mod_lt _ (by omega)⟩
    have hq2 : (b : Int) % (nL : Int) = (q : Int) := by omega
    have hqn2 : (q : Int) < (nL : Int) := by omega
    obtain ⟨g3, o3, xx, rfl, hg3, hx, _, y0, y1, y2⟩ := RL.get hqn
    obtain ⟨hh, ec⟩ := SV.out.class_at hx
    obtain ⟨_, _, _, _, _, _, a0', _, c0', c7'⟩ := SV.out.at_ hh
    rw [ec] at c0' c7'
    obtain ⟨cn, hcn⟩ : ∃ cn : Nat, xx.n = (cn : Int) := ⟨xx.n.toNat, by omega⟩
    rw [hcn] at y1 c0' c7'
    have KA : Kept Old X1 (X1.alloc (.cells #[.int .i64 xx.a, .int .i64 (cn : Int), .int .i64 xx.c] 52)) := (Kept.refl Old X1).alloc _
    have XB := Blk.new X1 52 [.int .i64 xx.a, .int .i64 (cn : Int), .int .i64 xx.c]
    have MA := Lib.hid (M1.out.more (G := fun b => b = X1.heap.size) (kl.trans KA) (fun b hb => .inr ⟨by rw [hb]; exact kl.size, by rw [hb]; exact XB.lt⟩))
    have z0 := XB.cell 0
    have z1' := XB.cell 1
    simp only [List.getElem?_cons_succ, List.getElem?_cons_zero] at z0 z1'
    have XB := Lib.hid XB
    have WD := Lib.hid (fun X => rwords_any (cn : Int) X)
    have SM := Lib.hid (fun X => rsmall_any (cn : Int) X)
    have KC := Lib.hid (fun X => rcap_any (cn : Int) X)
    have hxq := Lib.hid hx
    obtain ⟨cw, cb⟩ := words_class (c := (cn : Int)) (by omega) (by omega)
    have lw := wordsI_lim (cn : Int)
    have hxl := Lib.hid XB.out.lt
    clear hx KA RL NL kl M1 lv
    go_wp2_with fail
    generalize hxb : X1.heap.size = xb at *
    generalize X1.alloc (.cells #[.int .i64 xx.a, .int .i64 (cn : Int), .int .i64 xx.c] 52) = X2 at *
    clear hxb y0 y1 y2
    have ENA := Lib.hid (show (pl0.re W1.heap.size 98).nw = nw from EN.out)
    generalize pl0.re W1.heap.size 98 = plA at *
    have CQ := Lib.hid (fun X (q : Kept Old X2 X) => cached_at (pl := plA.re X2.heap.size 97) (w := t) (c := cn) htl ENA.out (MA.out.old q) SV.out)
    obtain ⟨LL, hLL⟩ : ∃ LL, (ca t cn).length = LL := ⟨_, rfl⟩
    obtain ⟨cp, hcp⟩ : ∃ cp, capI (cn : Int) = cp := ⟨_, rfl⟩
    rw [hcp] at KC
    by_cases hf : cp ≤ (LL : Int)
    · go_wp2_with fail
      refine wp_region_held_drew (S := (fun w' => w'.cell? ⟨xb, 1, none⟩ = some (.int .i64 (cn : Int)))) (by kernel_rfl) z1' (fun hHeld => ?_)
      refine wpAnyH_take (i := 0) (v := ptr s) rfl (by kernel_rfl) (by decide +kernel) (by decide +kernel) (fun _ _ _ h => h) (Or.inl ⟨by rfl, fun w' hSw => ?_⟩) hHeld ?_
      · (go_simp)
      simp only [Act.put, List.getElem_toArray, List.getElem_cons_zero, List.setIfInBounds_toArray, List.set_cons_zero, List.set_cons_succ]
      refine wpAnyH_take (i := 1) (v := .int .i64 (t : Int)) rfl (by kernel_rfl) (by decide +kernel) (by decide +kernel) (fun _ _ _ h => h) (Or.inl ⟨by rfl, fun w' hSw => ?_⟩) hHeld ?_
      · (go_simp)
      simp only [Act.put, List.getElem_toArray, List.getElem_cons_succ, List.getElem_cons_zero, List.setIfInBounds_toArray, List.set_cons_zero, List.set_cons_succ]
      refine wpAnyH_take (i := 2) (v := .pointer (some ⟨xb, 1, none⟩)) rfl (by kernel_rfl) (by decide +kernel) (by decide +kernel) (fun _ _ _ h => h) (Or.inl ⟨by rfl, fun w' hSw => ?_⟩) hHeld ?_
      · (go_simp)
      simp only [Act.put, List.getElem_toArray, List.getElem_cons_succ, List.getElem_cons_zero, List.setIfInBounds_toArray, List.set_cons_zero, List.set_cons_succ]
      refine wpAnyH_take (i := 3) (v := .int .i64 (cn : Int)) rfl (by kernel_rfl) (by decide +kernel) (by decide +kernel) (fun _ _ _ h => h) (Or.inl ⟨by rfl, fun w' hSw => ?_⟩) hHeld ?_
      · (go_simp)
      simp only [Act.put, List.getElem_toArray, List.getElem_cons_succ, List.getElem_cons_zero, List.setIfInBounds_toArray, List.set_cons_zero, List.set_cons_succ]
      refine wpAnyH_take (i := 6) (v := .pointer (some ⟨xb, 1, none⟩)) rfl (by kernel_rfl) (by decide +kernel) (by decide +kernel) (fun _ _ _ h => h) (Or.inl ⟨by rfl, fun w' hSw => ?_⟩) hHeld ?_
      · (go_simp)
      simp only [Act.put, List.getElem_toArray, List.getElem_cons_succ, List.getElem_cons_zero, List.setIfInBounds_toArray, List.set_cons_zero, List.set_cons_succ]
      refine wpAnyH_take (i := 7) (v := .int .i64 (cn : Int)) rfl (by kernel_rfl) (by decide +kernel) (by decide +kernel) (fun _ _ _ h => h) (Or.inl ⟨by rfl, fun w' hSw => ?_⟩) hHeld ?_
      · (go_simp)
      simp only [Act.put, List.getElem_toArray, List.getElem_cons_succ, List.getElem_cons_zero, List.setIfInBounds_toArray, List.set_cons_zero, List.set_cons_succ]
      refine wpAnyH_ready (rs := [4]) (by decide +kernel) (by simp) (AllReadyH.cons rfl (fun K hK => ?_) AllReadyH.nil)
      simp only [List.getElem_toArray, List.getElem_cons_succ, List.getElem_cons_zero]
      rw [if_pos (by rfl)]
      go_simp
      go_at_call 24
      refine (CQ.out _ (Kept.refl Old X2).drew).mono ?_
      rintro e X3 ⟨v, rfl, A1, n1, c1, rfl, R1, _, _, k1⟩
      obtain rfl : n1 = LL := R1.lenN.symm.trans hLL
      have K1 := Lib.hid (show Kept Old X2 X3 from (Kept.refl Old X2).drew.trans k1)
      refine hK.out _ _ (Bg.cell_on k1 hHeld) (fun hHeld => ?_)
      clear hK K k1 R1
      refine wpAnyH_take (i := 5) (v := .int .i64 (n1 : Int)) rfl (by kernel_rfl) (by decide +kernel) (by decide +kernel) (fun _ _ _ h => h) (Or.inl ⟨by rfl, fun w' hSw => ?_⟩) hHeld ?_
      · (go_simp)
      simp only [Act.put, List.getElem_toArray, List.getElem_cons_succ, List.getElem_cons_zero, List.setIfInBounds_toArray, List.set_cons_zero, List.set_cons_succ]
      refine wpAnyH_ready (rs := [8]) (by decide +kernel) (by simp) (AllReadyH.cons rfl (fun K hK => ?_) AllReadyH.nil)
      simp only [List.getElem_toArray, List.getElem_cons_succ, List.getElem_cons_zero]
      rw [if_pos (by rfl)]
      go_simp
      go_at_call 31
      refine (KC.out _).mono ?_
      rintro e w' ⟨rfl, rfl⟩
      refine hK.out _ _ hHeld (fun hHeld => ?_)
      clear hK K
      refine wpAnyH_take (i := 9) (v := .bool true) rfl (by kernel_rfl) (by decide +kernel) (by decide +kernel) (fun _ _ _ h => h) (Or.inl ⟨by rfl, fun w' hSw => ?_⟩) hHeld ?_
      · (go_simp)
      simp only [Act.put, List.getElem_toArray, List.getElem_cons_succ, List.getElem_cons_zero, List.setIfInBounds_toArray, List.set_cons_zero, List.set_cons_succ]
      refine wpAnyH_take (i := 10) (v := .bool true) rfl (by kernel_rfl) (by decide +kernel) (by decide +kernel) (fun _ _ _ h => h) (Or.inl ⟨by rfl, fun w' hSw => ?_⟩) hHeld ?_
      · (go_simp)
      simp only [Act.put, List.getElem_toArray, List.getElem_cons_succ, List.getElem_cons_zero, List.setIfInBounds_toArray, List.set_cons_zero, List.set_cons_succ]
      refine wpAnyH_done (by decide +kernel) ?_ _
      have FC := free_yes (k := k) (ca := ca) hh t
      obtain ⟨fk, fc, fl, fe, hfr⟩ : ∃ fk fc fl fe, freeW k ca live t xx.a = (fk, fc, fl, fe) := ⟨_, _, _, _, rfl⟩
      rw [hfr] at FC
      obtain rfl : fe = 0 := FC
      have F1 := sfree_any (w := t) (pl := plA.re X2.heap.size 97) (by have := ENA.out; show t < plA.nw; omega) xx.a (MA.out.old K1.out) (by show Sq P plA.nw k ca live; rw [ENA.out]; exact SV.out)
      unfold FreePost at F1
      rw [hfr] at F1
      have F1 := Lib.hid F1
      have XC := Lib.hid (XB.out.kept (D := Old) K1.out (fun z => z))
      have z0 := XC.out.cell 0
      have z1' := XC.out.cell 1
      simp only [List.getElem?_cons_succ, List.getElem?_cons_zero] at z0 z1'
      clear XC hHeld hfr
      cases hs : smallB (cn : Int) with
      | true =>
        rw [hs] at SM
        go_wp2_with fail
        refine (SM.out _).mono ?_
        rintro e w' ⟨rfl, rfl⟩
        go_wp2_with fail
        refine F1.out.mono ?_
        rintro e X4 ⟨rfl, ⟨pl4, m4, _⟩, f4⟩
        have M4 := Lib.hid m4
        clear m4 f4
        go_wp2_with fail
        refine (Shp.awake_any _).mono ?_
        rintro e X5 ⟨rfl, k5⟩
        have KE := Lib.hid (M4.out.ff.kept.trans k5)
        clear k5
        go_wp2_with fail
        go_ret
        exact ⟨rfl, KE.out⟩
      | false =>
        rw [hs] at SM
        go_wp2_with fail
        refine (SM.out _).mono ?_
        rintro e w' ⟨rfl, rfl⟩
        go_wp2_with fail
        refine F1.out.mono ?_
        rintro e X4 ⟨rfl, ⟨pl4, m4, _⟩, f4⟩
        have M4 := Lib.hid m4
        clear m4 f4
        go_wp2_with fail
        refine (Shp.awake_any _).mono ?_
        rintro e X5 ⟨rfl, k5⟩
        have KE := Lib.hid (M4.out.ff.kept.trans k5)
        clear k5
        go_wp2_with fail
        go_ret
        exact ⟨rfl, KE.out⟩
    · go_wp2_with fail
      refine wp_region_held_drew (S := (fun w' => w'.cell? ⟨xb, 1, none⟩ = some (.int .i64 (cn : Int)))) (by kernel_rfl) z1' (fun hHeld => ?_)
      refine wpAnyH_take (i := 0) (v := ptr s) rfl (by kernel_rfl) (by decide +kernel) (by decide +kernel) (fun _ _ _ h => h) (Or.inl ⟨by rfl, fun w' hSw => ?_⟩) hHeld ?_
      · (go_simp)
      simp only [Act.put, List.getElem_toArray, List.getElem_cons_zero, List.setIfInBounds_toArray, List.set_cons_zero, List.set_cons_succ]
      refine wpAnyH_take (i := 1) (v := .int .i64 (t : Int)) rfl (by kernel_rfl) (by decide +kernel) (by decide +kernel) (fun _ _ _ h => h) (Or.inl ⟨by rfl, fun w' hSw => ?_⟩) hHeld ?_
      · (go_simp)
      simp only [Act.put, List.getElem_toArray, List.getElem_cons_succ, List.getElem_cons_zero, List.setIfInBounds_toArray, List.set_cons_zero, List.set_cons_succ]
      refine wpAnyH_take (i := 2) (v := .pointer (some ⟨xb, 1, none⟩)) rfl (by kernel_rfl) (by decide +kernel) (by decide +kernel) (fun _ _ _ h => h) (Or.inl ⟨by rfl, fun w' hSw => ?_⟩) hHeld ?_
      · (go_simp)
      simp only [Act.put, List.getElem_toArray, List.getElem_cons_succ, List.getElem_cons_zero, List.setIfInBounds_toArray, List.set_cons_zero, List.set_cons_succ]
      refine wpAnyH_take (i := 3) (v := .int .i64 (cn : Int)) rfl (by kernel_rfl) (by decide +kernel) (by decide +kernel) (fun _ _ _ h => h) (Or.inl ⟨by rfl, fun w' hSw => ?_⟩) hHeld ?_
      · (go_simp)
      simp only [Act.put, List.getElem_toArray, List.getElem_cons_succ, List.getElem_cons_zero, List.setIfInBounds_toArray, List.set_cons_zero, List.set_cons_succ]
      refine wpAnyH_take (i := 6) (v := .pointer (some ⟨xb, 1, none⟩)) rfl (by kernel_rfl) (by decide +kernel) (by decide +kernel) (fun _ _ _ h => h) (Or.inl ⟨by rfl, fun w' hSw => ?_⟩) hHeld ?_
      · (go_simp)
      simp only [Act.put, List.getElem_toArray, List.getElem_cons_succ, List.getElem_cons_zero, List.setIfInBounds_toArray, List.set_cons_zero, List.set_cons_succ]
      refine wpAnyH_take (i := 7) (v := .int .i64 (cn : Int)) rfl (by kernel_rfl) (by decide +kernel) (by decide +kernel) (fun _ _ _ h => h) (Or.inl ⟨by rfl, fun w' hSw => ?_⟩) hHeld ?_
      · (go_simp)
      simp only [Act.put, List.getElem_toArray, List.getElem_cons_succ, List.getElem_cons_zero, List.setIfInBounds_toArray, List.set_cons_zero, List.set_cons_succ]
      refine wpAnyH_ready (rs := [4]) (by decide +kernel) (by simp) (AllReadyH.cons rfl (fun K hK => ?_) AllReadyH.nil)
      simp only [List.getElem_toArray, List.getElem_cons_succ, List.getElem_cons_zero]
      rw [if_pos (by rfl)]
      go_simp
      go_at_call 24
      refine (CQ.out _ (Kept.refl Old X2).drew).mono ?_
      rintro e X3 ⟨v, rfl, A1, n1, c1, rfl, R1, _, _, k1⟩
      obtain rfl : n1 = LL := R1.lenN.symm.trans hLL
      have K1 := Lib.hid (show Kept Old X2 X3 from (Kept.refl Old X2).drew.trans k1)
      refine hK.out _ _ (Bg.cell_on k1 hHeld) (fun hHeld => ?_)
      clear hK K k1 R1
      refine wpAnyH_take (i := 5) (v := .int .i64 (n1 : Int)) rfl (by kernel_rfl) (by decide +kernel) (by decide +kernel) (fun _ _ _ h => h) (Or.inl ⟨by rfl, fun w' hSw => ?_⟩) hHeld ?_
      · (go_simp)
      simp only [Act.put, List.getElem_toArray, List.getElem_cons_succ, List.getElem_cons_zero, List.setIfInBounds_toArray, List.set_cons_zero, List.set_cons_succ]
      refine wpAnyH_ready (rs := [8]) (by decide +kernel) (by simp) (AllReadyH.cons rfl (fun K hK => ?_) AllReadyH.nil)
      simp only [List.getElem_toArray, List.getElem_cons_succ, List.getElem_cons_zero]
      rw [if_pos (by rfl)]
      go_simp
      go_at_call 31
      refine (KC.out _).mono ?_
      rintro e w' ⟨rfl, rfl⟩
      refine hK.out _ _ hHeld (fun hHeld => ?_)
      clear hK K
      refine wpAnyH_take (i := 9) (v := .bool false) rfl (by kernel_rfl) (by decide +kernel) (by decide +kernel) (fun _ _ _ h => h) (Or.inl ⟨by rfl, fun w' hSw => ?_⟩) hHeld ?_
      · (go_simp)
      simp only [Act.put, List.getElem_toArray, List.getElem_cons_succ, List.getElem_cons_zero, List.setIfInBounds_toArray, List.set_cons_zero, List.set_cons_succ]
      refine wpAnyH_take (i := 10) (v := .bool false) rfl (by kernel_rfl) (by decide +kernel) (by decide +kernel) (fun _ _ _ h => h) (Or.inl ⟨by rfl, fun w' hSw => ?_⟩) hHeld ?_
      · (go_simp)
      simp only [Act.put, List.getElem_toArray, List.getElem_cons_succ, List.getElem_cons_zero, List.setIfInBounds_toArray, List.set_cons_zero, List.set_cons_succ]
      refine wpAnyH_done (by decide +kernel) ?_ _
      cases hs : smallB (cn : Int) with
      | false =>
        have FC := free_yes (k := k) (ca := ca) hh t
        obtain ⟨fk, fc, fl, fe, hfr⟩ : ∃ fk fc fl fe, freeW k ca live t xx.a = (fk, fc, fl, fe) := ⟨_, _, _, _, rfl⟩
        rw [hfr] at FC
        obtain rfl : fe = 0 := FC
        have F1 := sfree_any (w := t) (pl := plA.re X2.heap.size 97) (by have := ENA.out; show t < plA.nw; omega) xx.a (MA.out.old K1.out) (by show Sq P plA.nw k ca live; rw [ENA.out]; exact SV.out)
        unfold FreePost at F1
        rw [hfr] at F1
        have F1 := Lib.hid F1
        have XC := Lib.hid (XB.out.kept (D := Old) K1.out (fun z => z))
        have z0 := XC.out.cell 0
        have z1' := XC.out.cell 1
        simp only [List.getElem?_cons_succ, List.getElem?_cons_zero] at z0 z1'
        clear XC hHeld hfr
        rw [hs] at SM
        go_wp2_with fail
        refine (SM.out _).mono ?_
        rintro e w' ⟨rfl, rfl⟩
        go_wp2_with fail
        refine F1.out.mono ?_
        rintro e X4 ⟨rfl, ⟨pl4, m4, _⟩, f4⟩
        have M4 := Lib.hid m4
        clear m4 f4
        go_wp2_with fail
        refine (Shp.awake_any _).mono ?_
        rintro e X5 ⟨rfl, k5⟩
        have KE := Lib.hid (M4.out.ff.kept.trans k5)
        clear k5
        go_wp2_with fail
        go_ret
        exact ⟨rfl, KE.out⟩
      | true =>
        rw [hs] at SM
        have c4 : cn < 4 := by have q := of_decide_eq_true hs; omega
        have ecap := cap_i c4
        rw [hcp] at ecap
        obtain ⟨an, ean, hfr⟩ := cached_free SV.out hxq.out (w := t) hcn c4 (by rw [hLL]; omega)
        rw [ean] at hfr
        have XC := Lib.hid (XB.out.kept (D := Old) K1.out (fun z => z))
        have z0 := XC.out.cell 0
        have z1' := XC.out.cell 1
        simp only [List.getElem?_cons_succ, List.getElem?_cons_zero] at z0 z1'
        clear hHeld
        go_wp2_with fail
        refine (SM.out _).mono ?_
        rintro e w' ⟨rfl, rfl⟩
        go_wp2_with fail
        refine (CQ.out _ K1.out).mono ?_
        rintro e X4 ⟨v2, rfl, MD⟩
        have MD := Lib.hid MD
        obtain ⟨A2, n2, c2, rfl, R2, _, _, k2⟩ := MD.out
        obtain rfl : n2 = n1 := R2.lenN.symm.trans hLL
        have R2 := Lib.hid R2
        have XD := Lib.hid (XC.out.kept (D := Old) k2 (fun z => z))
        have M4 := Lib.hid ((MA.out.old K1.out).more (G := fun b => b = xb ∨ FV (.slice A2 n2 c2) b) k2 (fun b hb => hb.elim .inl (fun f => .inr (made_fv MD.out f))))
        have F1 := sfree_any (w := t) (by have := ENA.out; show t < plA.nw; omega) (an : Int) M4.out (by show Sq P plA.nw k ca live; rw [ENA.out]; exact SV.out)
        unfold FreePost at F1
        rw [hfr] at F1
        have F1 := Lib.hid F1
        have V4 := SV.out.freeW htl (an : Int)
        rw [hfr] at V4
        have V4 := Lib.hid V4
        have U4 := Lib.hid (up_at ca t cn (an :: ca t cn))
        generalize hca : up ca t cn (an :: ca t cn) = ca4 at *
        generalize Lm.delL live (an : Int) = live4 at *
        clear MA K1 CQ XC z0 z1' k2 hfr hca SV
        have z0 := XD.out.cell 0
        have z1' := XD.out.cell 1
        simp only [List.getElem?_cons_succ, List.getElem?_cons_zero] at z0 z1'
        go_wp2_with fail
        refine F1.out.mono ?_
        rintro e X5 ⟨rfl, ⟨pl5, m5, e5⟩, f5⟩
        have M5 := Lib.hid m5
        have E5 := Lib.hid (show pl5.nw = nw from e5.nw.trans ENA.out)
        have XE := Lib.hid (XD.out.kept f5 (fun z => z (.inl rfl)))
        have R5 := Lib.hid (int_fr R2.out f5 (fun b _ fb z => z (.inr ⟨_, _, _, rfl, fb⟩)))
        clear m5 e5 f5 F1 M4 XD R2 z0 z1' MD
        have z0 := XE.out.cell 0
        have z1' := XE.out.cell 1
        simp only [List.getElem?_cons_succ, List.getElem?_cons_zero] at z0 z1'
        rw [ean] at z0
        have CN := Lib.hid (cached_at (w := t) (c := cn) htl E5.out M5.out V4.out)
        go_wp2_with fail
        refine CN.out.mono ?_
        rintro e X6 ⟨v3, rfl, A6, n6, c6, rfl, R6, hc6, NN6, k6⟩
        rw [U4.out] at R6
        obtain rfl : n6 = n2 + 1 := by have := R6.lenN; rw [List.length_cons, hLL] at this; exact this.symm
        obtain ⟨g6, o6, y6, rfl, hg6, hy6, _, w0'⟩ := R6.getN (k := 0) (by omega)
        obtain rfl : an = y6 := by injection hy6
        simp only [Nat.add_zero] at w0'
        have M6 := Lib.hid (M5.out.old k6)
        have XF := Lib.hid (XE.out.kept (D := Old) k6 (fun z => z))
        have R26 := Lib.hid (R5.out.old k6)
        have RT := Lib.hid (fun A' hA => Lq.rs_tail (g := g6) (o := o6) (n := n2) (x := (an : Int)) (t := NI (ca t cn)) R6 A' hA)
        clear z0 z1' CN M5 XE R5 k6 hy6 NN6
        have z0 := XF.out.cell 0
        have z1' := XF.out.cell 1
        simp only [List.getElem?_cons_succ, List.getElem?_cons_zero] at z0 z1'
        rw [ean] at z0
        have z01 := Lib.hid z0
        have hbat : 2 * batN cn ≤ 8 := by unfold batN; omega
        have wn : IntKind.i64.wrap ((n2 : Int) + 1) = (n2 : Int) + 1 := IntWalk.i64_in _ (by omega)
        go_wp2_with fail
        have n61 : (1 : Int) ≤ (n2 : Int) + 1 := by omega
        by_cases hc61 : c6 = 1
        · have SI := Lib.hid (fun X (q : Kept Old X6 X) => sameInts_any (some ⟨g6, o6, none⟩) A2 n2 0 c2 _ X ((RT.out (some ⟨g6, o6, none⟩) (fun h => by first | rfl | omega)).old q) (R26.out.old q) (by have := R26.out.lenN; omega))
          refine wp_region_held_drew (S := (fun w' => w'.cell? ⟨xb, 0, none⟩ = some (.int .i64 (an : Int)) ∧ w'.cell? ⟨g6, o6, none⟩ = some (.int .i64 (an : Int)))) (by kernel_rfl) ⟨z0, w0'⟩ (fun hHeld => ?_)
          refine wpAnyH_take (i := 0) (v := .slice (some ⟨g6, o6, none⟩) (n2 + 1) c6) rfl (by kernel_rfl) (by decide +kernel) (by decide +kernel) (fun _ _ _ h => h) (Or.inl ⟨by rfl, fun w' hSw => ?_⟩) hHeld ?_
          · (go_simp)
          simp only [Act.put, List.getElem_toArray, List.getElem_cons_zero, List.setIfInBounds_toArray, List.set_cons_zero, List.set_cons_succ]
          refine wpAnyH_take (i := 1) (v := .int .i64 ((n2 : Int) + 1)) rfl (by kernel_rfl) (by decide +kernel) (by decide +kernel) (fun _ _ _ h => h) (Or.inl ⟨by rfl, fun w' hSw => ?_⟩) hHeld ?_
          · (go_simp)
          simp only [Act.put, List.getElem_toArray, List.getElem_cons_succ, List.getElem_cons_zero, List.setIfInBounds_toArray, List.set_cons_zero, List.set_cons_succ]
          refine wpAnyH_take (i := 2) (v := .slice A2 n2 c2) rfl (by kernel_rfl) (by decide +kernel) (by decide +kernel) (fun _ _ _ h => h) (Or.inl ⟨by rfl, fun w' hSw => ?_⟩) hHeld ?_
          · (go_simp)
          simp only [Act.put, List.getElem_toArray, List.getElem_cons_succ, List.getElem_cons_zero, List.setIfInBounds_toArray, List.set_cons_zero, List.set_cons_succ]
          refine wpAnyH_take (i := 3) (v := .int .i64 (n2 : Int)) rfl (by kernel_rfl) (by decide +kernel) (by decide +kernel) (fun _ _ _ h => h) (Or.inl ⟨by rfl, fun w' hSw => ?_⟩) hHeld ?_
          · (go_simp)
          simp only [Act.put, List.getElem_toArray, List.getElem_cons_succ, List.getElem_cons_zero, List.setIfInBounds_toArray, List.set_cons_zero, List.set_cons_succ]
          refine wpAnyH_take (i := 4) (v := .int .i64 ((n2 : Int) + 1)) rfl (by kernel_rfl) (by decide +kernel) (by decide +kernel) (fun _ _ _ h => h) (Or.inl ⟨by rfl, fun w' hSw => ?_⟩) hHeld ?_
          · (go_simp)
          simp only [Act.put, List.getElem_toArray, List.getElem_cons_succ, List.getElem_cons_zero, List.setIfInBounds_toArray, List.set_cons_zero, List.set_cons_succ]
          refine wpAnyH_take (i := 5) (v := .bool false) rfl (by kernel_rfl) (by decide +kernel) (by decide +kernel) (fun _ _ _ h => h) (Or.inl ⟨by rfl, fun w' hSw => ?_⟩) hHeld ?_
          · (go_simp)
          simp only [Act.put, List.getElem_toArray, List.getElem_cons_succ, List.getElem_cons_zero, List.setIfInBounds_toArray, List.set_cons_zero, List.set_cons_succ]
          refine wpAnyH_take (i := 6) (v := .bool false) rfl (by kernel_rfl) (by decide +kernel) (by decide +kernel) (fun _ _ _ h => h) (Or.inl ⟨by rfl, fun w' hSw => ?_⟩) hHeld ?_
          · (go_simp)
          simp only [Act.put, List.getElem_toArray, List.getElem_cons_succ, List.getElem_cons_zero, List.setIfInBounds_toArray, List.set_cons_zero, List.set_cons_succ]
          refine wpAnyH_take (i := 7) (v := .slice (some ⟨g6, o6, none⟩) (n2 + 1) c6) rfl (by kernel_rfl) (by decide +kernel) (by decide +kernel) (fun _ _ _ h => h) (Or.inl ⟨by rfl, fun w' hSw => ?_⟩) hHeld ?_
          · (go_simp)
          simp only [Act.put, List.getElem_toArray, List.getElem_cons_succ, List.getElem_cons_zero, List.setIfInBounds_toArray, List.set_cons_zero, List.set_cons_succ]
          refine wpAnyH_take (i := 8) (v := .pointer (some ⟨g6, o6, none⟩)) rfl (by kernel_rfl) (by decide +kernel) (by decide +kernel) (fun _ _ _ h => h) (Or.inl ⟨by rfl, fun w' hSw => ?_⟩) hHeld ?_
          · (go_simp)
          simp only [Act.put, List.getElem_toArray, List.getElem_cons_succ, List.getElem_cons_zero, List.setIfInBounds_toArray, List.set_cons_zero, List.set_cons_succ]
          refine wpAnyH_take (i := 9) (v := .int .i64 (an : Int)) rfl (by kernel_rfl) (by decide +kernel) (by decide +kernel) (fun _ _ _ h => h) (Or.inl ⟨by rfl, fun w' hSw => ?_⟩) hHeld ?_
          · (go_simp)
          simp only [Act.put, List.getElem_toArray, List.getElem_cons_succ, List.getElem_cons_zero, List.setIfInBounds_toArray, List.set_cons_zero, List.set_cons_succ]
          refine wpAnyH_take (i := 10) (v := .pointer (some ⟨xb, 0, none⟩)) rfl (by kernel_rfl) (by decide +kernel) (by decide +kernel) (fun _ _ _ h => h) (Or.inl ⟨by rfl, fun w' hSw => ?_⟩) hHeld ?_
          · (go_simp)
          simp only [Act.put, List.getElem_toArray, List.getElem_cons_succ, List.getElem_cons_zero, List.setIfInBounds_toArray, List.set_cons_zero, List.set_cons_succ]
          refine wpAnyH_take (i := 11) (v := .int .i64 (an : Int)) rfl (by kernel_rfl) (by decide +kernel) (by decide +kernel) (fun _ _ _ h => h) (Or.inl ⟨by rfl, fun w' hSw => ?_⟩) hHeld ?_
          · (go_simp)
          simp only [Act.put, List.getElem_toArray, List.getElem_cons_succ, List.getElem_cons_zero, List.setIfInBounds_toArray, List.set_cons_zero, List.set_cons_succ]
          refine wpAnyH_take (i := 12) (v := .bool false) rfl (by kernel_rfl) (by decide +kernel) (by decide +kernel) (fun _ _ _ h => h) (Or.inl ⟨by rfl, fun w' hSw => ?_⟩) hHeld ?_
          · (go_simp)
          simp only [Act.put, List.getElem_toArray, List.getElem_cons_succ, List.getElem_cons_zero, List.setIfInBounds_toArray, List.set_cons_zero, List.set_cons_succ]
          refine wpAnyH_take (i := 13) (v := .bool false) rfl (by kernel_rfl) (by decide +kernel) (by decide +kernel) (fun _ _ _ h => h) (Or.inl ⟨by rfl, fun w' hSw => ?_⟩) hHeld ?_
          · (go_simp)
          simp only [Act.put, List.getElem_toArray, List.getElem_cons_succ, List.getElem_cons_zero, List.setIfInBounds_toArray, List.set_cons_zero, List.set_cons_succ]
          refine wpAnyH_take (i := 14) (v := .bool false) rfl (by kernel_rfl) (by decide +kernel) (by decide +kernel) (fun _ _ _ h => h) (Or.inl ⟨by rfl, fun w' hSw => ?_⟩) hHeld ?_
          · (go_simp)
          simp only [Act.put, List.getElem_toArray, List.getElem_cons_succ, List.getElem_cons_zero, List.setIfInBounds_toArray, List.set_cons_zero, List.set_cons_succ]
          refine wpAnyH_take (i := 15) (v := .slice (some ⟨g6, o6, none⟩) (n2 + 1) c6) rfl (by kernel_rfl) (by decide +kernel) (by decide +kernel) (fun _ _ _ h => h) (Or.inl ⟨by rfl, fun w' hSw => ?_⟩) hHeld ?_
          · (go_simp)
          simp only [Act.put, List.getElem_toArray, List.getElem_cons_succ, List.getElem_cons_zero, List.setIfInBounds_toArray, List.set_cons_zero, List.set_cons_succ]
          refine wpAnyH_take (i := 16) (v := .slice (some ⟨g6, o6, none⟩) n2 0) rfl (by kernel_rfl) (by decide +kernel) (by decide +kernel) (fun _ _ _ h => h) (Or.inl ⟨by rfl, fun w' hSw => ?_⟩) hHeld ?_
          · (go_simp)
          simp only [Act.put, List.getElem_toArray, List.getElem_cons_succ, List.getElem_cons_zero, List.setIfInBounds_toArray, List.set_cons_zero, List.set_cons_succ]
          refine wpAnyH_take (i := 17) (v := .slice A2 n2 c2) rfl (by kernel_rfl) (by decide +kernel) (by decide +kernel) (fun _ _ _ h => h) (Or.inl ⟨by rfl, fun w' hSw => ?_⟩) hHeld ?_
          · (go_simp)
          simp only [Act.put, List.getElem_toArray, List.getElem_cons_succ, List.getElem_cons_zero, List.setIfInBounds_toArray, List.set_cons_zero, List.set_cons_succ]
          refine wpAnyH_ready (rs := [18]) (by decide +kernel) (by simp) (AllReadyH.cons rfl (fun K hK => ?_) AllReadyH.nil)
          simp only [List.getElem_toArray, List.getElem_cons_succ, List.getElem_cons_zero]
          rw [if_pos (by rfl)]
          go_simp
          go_at_call 32
          refine (SI.out _ (Kept.refl Old X6).drew).mono ?_
          rintro e X7 ⟨rfl, k7⟩
          have K7 := Lib.hid (show Kept Old X6 X7 from (Kept.refl Old X6).drew.trans k7)
          refine hK.out _ _ ⟨Bg.cell_on k7 hHeld.1, Bg.cell_on k7 hHeld.2⟩ (fun hHeld => ?_)
          clear hK K k7
          refine wpAnyH_take (i := 19) (v := .bool false) rfl (by kernel_rfl) (by decide +kernel) (by decide +kernel) (fun _ _ _ h => h) (Or.inl ⟨by rfl, fun w' hSw => ?_⟩) hHeld ?_
          · (go_simp)
          simp only [Act.put, List.getElem_toArray, List.getElem_cons_succ, List.getElem_cons_zero, List.setIfInBounds_toArray, List.set_cons_zero, List.set_cons_succ]
          refine wpAnyH_take (i := 20) (v := .bool false) rfl (by kernel_rfl) (by decide +kernel) (by decide +kernel) (fun _ _ _ h => h) (Or.inl ⟨by rfl, fun w' hSw => ?_⟩) hHeld ?_
          · (go_simp)
          simp only [Act.put, List.getElem_toArray, List.getElem_cons_succ, List.getElem_cons_zero, List.setIfInBounds_toArray, List.set_cons_zero, List.set_cons_succ]
          refine wpAnyH_done (by decide +kernel) ?_ _
          have M7 := Lib.hid (M6.out.old K7.out)
          have XG := Lib.hid (XF.out.kept (D := Old) K7.out (fun z => z))
          have R7 := Lib.hid (R26.out.old K7.out)
          clear SI RT M6 XF R26 K7 hHeld z0 z1' w0' z01
          have z0 := XG.out.cell 0
          have z1' := XG.out.cell 1
          simp only [List.getElem?_cons_succ, List.getElem?_cons_zero] at z0 z1'
          rw [ean] at z0
          by_cases k1 : nw = 1
          · have k1' : ¬ (1 : Int) < (nw : Int) := by omega
            obtain ⟨plZ, hpz⟩ : ∃ p, p = (pl5.re X5.heap.size 97).re X6.heap.size 97 := ⟨_, rfl⟩
            have MZ := M7
            rw [← hpz] at MZ
            have EZ := Lib.hid (show plZ.nw = nw from by rw [hpz]; exact E5.out)
            have VZ := V4
            have UZ := U4
            have XZ := XG
            have RZ := R7
            obtain ⟨kZ, hkZ⟩ : ∃ z, z = k := ⟨_, rfl⟩
            obtain ⟨lZ, hlZ⟩ : ∃ z, z = live4 := ⟨_, rfl⟩
            obtain ⟨caZ, hcZ⟩ : ∃ z, z = ca4 := ⟨_, rfl⟩
            rw [← hkZ, ← hlZ, ← hcZ] at MZ VZ
            rw [← hcZ] at UZ
            clear M7 V4 U4 XG R7 hpz E5 hkZ hlZ hcZ
            have AS := alloc_same (P := P) (k := kZ) (live := lZ) c4 UZ.out cb cw
            have AL := salloc_any (w := t) (by have := EZ.out; omega) (wordsI (cn : Int)) MZ.out (by rw [EZ.out]; exact VZ.out)
            unfold AllocPost at AL
            rw [AS] at AL
            have VV := VZ.out.allocW htl (wordsI (cn : Int))
            rw [AS] at VV
            have VV := Lib.hid VV
            have UU := Lib.hid (up_at caZ t cn (ca t cn))
            have AL := Lib.hid AL
            generalize up caZ t cn (ca t cn) = ca9 at *
            generalize Lm.insL lZ (Lm.newS (wordsI (cn : Int)) (an : Int)) = l9 at *
            clear AS
            go_wp2_with fail
            refine (WD.out _).mono ?_
            rintro e w' ⟨rfl, rfl⟩
            go_wp2_with fail
            refine AL.out.mono ?_
            rintro e X9 ⟨rfl, ⟨pl9, m9, e9⟩, f9⟩
            have M9 := Lib.hid m9
            have E9 := Lib.hid (show pl9.nw = nw from e9.nw.trans EZ.out)
            have XI := Lib.hid (XZ.out.kept f9 (fun z => z (.inl rfl)))
            have R9 := Lib.hid (int_fr RZ.out f9 (fun b _ fb z => z (.inr ⟨_, _, _, rfl, fb⟩)))
            clear m9 e9 f9 AL MZ XZ RZ z0 z1'
            have z0 := XI.out.cell 0
            have z1' := XI.out.cell 1
            simp only [List.getElem?_cons_succ, List.getElem?_cons_zero] at z0 z1'
            rw [ean] at z0
            have C9 : Calls Tryz.prog 24 #[ptr s, .int .i64 (t : Int), .int .i64 (cn : Int)] X9 (CachedPost (ca9 t cn) X9) := cached_at (w := t) (c := cn) htl E9.out M9.out VV.out
            rw [UU.out] at C9
            have C9 := Lib.hid C9
            go_wp2_with fail
            refine C9.out.mono ?_
            rintro e Xa ⟨v4, rfl, Aa, na, cna, rfl, Ra, _, _, ka⟩
            obtain rfl : na = n2 := Ra.lenN.symm.trans hLL
            have SI := Lib.hid (sameInts_any Aa A2 na cna c2 _ Xa Ra (R9.out.old ka) (by have := R9.out.lenN; omega))
            have Ma := Lib.hid (M9.out.old ka)
            clear Ra ka
            go_wp2_with fail
            refine SI.out.mono ?_
            rintro e Xb ⟨rfl, kb⟩
            have Mb := Lib.hid (Ma.out.old kb)
            clear kb
            go_wp2_with fail
            refine (Shp.awake_any _).mono ?_
            rintro e Xc ⟨rfl, kc⟩
            have KE := Lib.hid (Mb.out.ff.kept.trans kc)
            clear kc
            go_wp2_with fail
            go_ret
            exact ⟨rfl, KE.out⟩
          · have k1' : (1 : Int) < (nw : Int) := by omega
            obtain ⟨t2, ht2, ht2l⟩ : ∃ t2, (t + 1) % nw = t2 ∧ t2 < nw := ⟨_, rfl, Nat.mod_lt _ N1⟩
            have ht2i : ((t : Int) + 1) % (nw : Int) = (t2 : Int) := by rw [← ht2, Int.natCast_emod, Int.natCast_add]; rfl
            have nzn : ¬ nw = 0 := by omega
            have ht2t : Int.tmod ((t : Int) + 1) (nw : Int) = (t2 : Int) := by rw [Int.tmod_eq_emod_of_nonneg (by omega)]; exact ht2i
            have tne : t2 ≠ t := by
              intro e
              by_cases q : t + 1 < nw
              · rw [Nat.mod_eq_of_lt q] at ht2; omega
              · rw [show t + 1 = nw by omega, Nat.mod_self] at ht2; omega
            have wt : IntKind.i64.wrap ((t : Int) + 1) = (t : Int) + 1 := IntWalk.i64_in _ (by omega)
            have AO := alloc_other (k := k) (live := live4) V4.out htl ht2l tne c4 (a := an) (by rw [U4.out]; exact List.mem_cons_self) cb cw
            have VZ := V4.out.allocW ht2l (wordsI (cn : Int))
            obtain ⟨kZ, caZ, lZ, aZ, eZ, hZ⟩ : ∃ kZ caZ lZ aZ eZ, allocW P k ca4 live4 t2 (wordsI (cn : Int)) = (kZ, caZ, lZ, aZ, eZ) := ⟨_, _, _, _, _, rfl⟩
            rw [hZ] at AO VZ
            have UZ := Lib.hid (show caZ t cn = an :: ca t cn from AO.1.trans U4.out)
            have AO2 := Lib.hid (show eZ = 0 → aZ ≠ (an : Int) from AO.2)
            have AL := Lib.hid (fun X (q : Kept Old X7 X) => (show Calls Tryz.prog 19 #[ptr s, .int .i64 (t2 : Int), .int .i64 (wordsI (cn : Int))] X (fun e W' => e = .returned (.tuple #[.int .i64 aZ, .int .i64 eZ]) ∧ Shp.Left w X W' s P kZ caZ lZ (fun b => b = xb ∨ FV (.slice A2 n2 c2) b) (((pl5.re X5.heap.size 97).re X6.heap.size 97).re X7.heap.size 97)) from by have h := salloc_any (w := t2) (pl := ((pl5.re X5.heap.size 97).re X6.heap.size 97).re X7.heap.size 97) (by have := E5.out; show t2 < pl5.nw; omega) (wordsI (cn : Int)) (M7.out.old q) (by show Sq P pl5.nw _ _ _; rw [E5.out]; exact V4.out); unfold AllocPost at h; rw [hZ] at h; exact h))
            have VZ := Lib.hid (show Sq P nw kZ caZ lZ from VZ)
            clear AO hZ
            go_wp2_with fail
            refine wp_region_held_drew (S := (fun w' => w'.cell? ⟨xb, 1, none⟩ = some (.int .i64 (cn : Int)))) (by kernel_rfl) z1' (fun hHeld => ?_)
            refine wpAnyH_take (i := 0) (v := ptr s) rfl (by kernel_rfl) (by decide +kernel) (by decide +kernel) (fun _ _ _ h => h) (Or.inl ⟨by rfl, fun w' hSw => ?_⟩) hHeld ?_
            · (go_simp)
            simp only [Act.put, List.getElem_toArray, List.getElem_cons_zero, List.setIfInBounds_toArray, List.set_cons_zero, List.set_cons_succ]
            refine wpAnyH_take (i := 1) (v := .int .i64 (t : Int)) rfl (by kernel_rfl) (by decide +kernel) (by decide +kernel) (fun _ _ _ h => h) (Or.inl ⟨by rfl, fun w' hSw => ?_⟩) hHeld ?_
            · (go_simp)
            simp only [Act.put, List.getElem_toArray, List.getElem_cons_succ, List.getElem_cons_zero, List.setIfInBounds_toArray, List.set_cons_zero, List.set_cons_succ]
            refine wpAnyH_take (i := 2) (v := .int .i64 ((t : Int) + 1)) rfl (by kernel_rfl) (by decide +kernel) (by decide +kernel) (fun _ _ _ h => h) (Or.inl ⟨by rfl, fun w' hSw => ?_⟩) hHeld ?_
            · (go_simp)
            simp only [Act.put, List.getElem_toArray, List.getElem_cons_succ, List.getElem_cons_zero, List.setIfInBounds_toArray, List.set_cons_zero, List.set_cons_succ]
            refine wpAnyH_take (i := 3) (v := .int .i64 (nw : Int)) rfl (by kernel_rfl) (by decide +kernel) (by decide +kernel) (fun _ _ _ h => h) (Or.inl ⟨by rfl, fun w' hSw => ?_⟩) hHeld ?_
            · (go_simp)
            simp only [Act.put, List.getElem_toArray, List.getElem_cons_succ, List.getElem_cons_zero, List.setIfInBounds_toArray, List.set_cons_zero, List.set_cons_succ]
            refine wpAnyH_take (i := 4) (v := .int .i64 (t2 : Int)) rfl (by kernel_rfl) (by decide +kernel) (by decide +kernel) (fun _ _ _ h => h) (Or.inl ⟨by rfl, fun w' hSw => ?_⟩) hHeld ?_
            · (go_simp)
            simp only [Act.put, List.getElem_toArray, List.getElem_cons_succ, List.getElem_cons_zero, List.setIfInBounds_toArray, List.set_cons_zero, List.set_cons_succ]
            refine wpAnyH_take (i := 5) (v := .pointer (some ⟨xb, 1, none⟩)) rfl (by kernel_rfl) (by decide +kernel) (by decide +kernel) (fun _ _ _ h => h) (Or.inl ⟨by rfl, fun w' hSw => ?_⟩) hHeld ?_
            · (go_simp)
            simp only [Act.put, List.getElem_toArray, List.getElem_cons_succ, List.getElem_cons_zero, List.setIfInBounds_toArray, List.set_cons_zero, List.set_cons_succ]
            refine wpAnyH_take (i := 6) (v := .int .i64 (cn : Int)) rfl (by kernel_rfl) (by decide +kernel) (by decide +kernel) (fun _ _ _ h => h) (Or.inl ⟨by rfl, fun w' hSw => ?_⟩) hHeld ?_
            · (go_simp)
            simp only [Act.put, List.getElem_toArray, List.getElem_cons_succ, List.getElem_cons_zero, List.setIfInBounds_toArray, List.set_cons_zero, List.set_cons_succ]
            refine wpAnyH_ready (rs := [7]) (by decide +kernel) (by simp) (AllReadyH.cons rfl (fun K hK => ?_) AllReadyH.nil)
            simp only [List.getElem_toArray, List.getElem_cons_succ, List.getElem_cons_zero]
            rw [if_pos (by rfl)]
            go_simp
            go_at_call 40
            refine (WD.out _).mono ?_
            rintro e w' ⟨rfl, rfl⟩
            refine hK.out _ _ hHeld (fun hHeld => ?_)
            clear hK K
            refine wpAnyH_ready (rs := [8]) (by decide +kernel) (by simp) (AllReadyH.cons rfl (fun K hK => ?_) AllReadyH.nil)
            simp only [List.getElem_toArray, List.getElem_cons_succ, List.getElem_cons_zero]
            rw [if_pos (by rfl)]
            go_simp
            go_at_call 19
            refine (AL.out _ (Kept.refl Old X7).drew).mono ?_
            rintro e X8 ⟨rfl, ⟨plZ, mZ, eZ'⟩, fZ⟩
            have MZ := Lib.hid mZ
            have EZ := Lib.hid (show plZ.nw = nw from eZ'.nw.trans E5.out)
            have XZ := Lib.hid ((XG.out.kept (D := Old) (Kept.refl Old X7).drew (fun z => z)).kept fZ (fun z => z (.inl rfl)))
            have RZ := Lib.hid (int_fr (R7.out.old (Kept.refl Old X7).drew) fZ (fun b _ fb z => z (.inr ⟨_, _, _, rfl, fb⟩)))
            clear mZ eZ' fZ
            have z1'' := XZ.out.cell 1
            simp only [List.getElem?_cons_succ, List.getElem?_cons_zero] at z1''
            refine hK.out _ _ z1'' (fun hHeld => ?_)
            clear hK K
            refine wpAnyH_take (i := 9) (v := .tuple #[.int .i64 aZ, .int .i64 eZ]) rfl (by kernel_rfl) (by decide +kernel) (by decide +kernel) (fun _ _ _ h => h) (Or.inl ⟨by rfl, fun w' hSw => ?_⟩) hHeld ?_
            · (go_simp)
            simp only [Act.put, List.getElem_toArray, List.getElem_cons_succ, List.getElem_cons_zero, List.setIfInBounds_toArray, List.set_cons_zero, List.set_cons_succ]
            refine wpAnyH_take (i := 10) (v := .int .i64 aZ) rfl (by kernel_rfl) (by decide +kernel) (by decide +kernel) (fun _ _ _ h => h) (Or.inl ⟨by rfl, fun w' hSw => ?_⟩) hHeld ?_
            · (go_simp)
            simp only [Act.put, List.getElem_toArray, List.getElem_cons_succ, List.getElem_cons_zero, List.setIfInBounds_toArray, List.set_cons_zero, List.set_cons_succ]
            refine wpAnyH_take (i := 11) (v := .int .i64 eZ) rfl (by kernel_rfl) (by decide +kernel) (by decide +kernel) (fun _ _ _ h => h) (Or.inl ⟨by rfl, fun w' hSw => ?_⟩) hHeld ?_
            · (go_simp)
            simp only [Act.put, List.getElem_toArray, List.getElem_cons_succ, List.getElem_cons_zero, List.setIfInBounds_toArray, List.set_cons_zero, List.set_cons_succ]
            refine wpAnyH_take (i := 12) (v := .int .i64 aZ) rfl (by kernel_rfl) (by decide +kernel) (by decide +kernel) (fun _ _ _ h => h) (Or.inl ⟨by rfl, fun w' hSw => ?_⟩) hHeld ?_
            · (go_simp)
            simp only [Act.put, List.getElem_toArray, List.getElem_cons_succ, List.getElem_cons_zero, List.setIfInBounds_toArray, List.set_cons_zero, List.set_cons_succ]
            refine wpAnyH_take (i := 13) (v := .int .i64 eZ) rfl (by kernel_rfl) (by decide +kernel) (by decide +kernel) (fun _ _ _ h => h) (Or.inl ⟨by rfl, fun w' hSw => ?_⟩) hHeld ?_
            · (go_simp)
            simp only [Act.put, List.getElem_toArray, List.getElem_cons_succ, List.getElem_cons_zero, List.setIfInBounds_toArray, List.set_cons_zero, List.set_cons_succ]
            refine wpAnyH_done (by decide +kernel) ?_ _
            clear M7 XG R7 AL z0 z1' hHeld z1'' V4 U4 E5
            have z0 := XZ.out.cell 0
            have z1' := XZ.out.cell 1
            simp only [List.getElem?_cons_succ, List.getElem?_cons_zero] at z0 z1'
            rw [ean] at z0
            by_cases ez : eZ = 0
            · have az : ¬ aZ = (an : Int) := AO2.out ez
              have AS := alloc_same (P := P) (k := kZ) (live := lZ) c4 UZ.out cb cw
              have AL := salloc_any (w := t) (by have := EZ.out; omega) (wordsI (cn : Int)) MZ.out (by rw [EZ.out]; exact VZ.out)
              unfold AllocPost at AL
              rw [AS] at AL
              have VV := VZ.out.allocW htl (wordsI (cn : Int))
              rw [AS] at VV
              have VV := Lib.hid VV
              have UU := Lib.hid (up_at caZ t cn (ca t cn))
              have AL := Lib.hid AL
              generalize up caZ t cn (ca t cn) = ca9 at *
              generalize Lm.insL lZ (Lm.newS (wordsI (cn : Int)) (an : Int)) = l9 at *
              clear AS
              go_wp2_with fail
              refine (WD.out _).mono ?_
              rintro e w' ⟨rfl, rfl⟩
              go_wp2_with fail
              refine AL.out.mono ?_
              rintro e X9 ⟨rfl, ⟨pl9, m9, e9⟩, f9⟩
              have M9 := Lib.hid m9
              have E9 := Lib.hid (show pl9.nw = nw from e9.nw.trans EZ.out)
              have XI := Lib.hid (XZ.out.kept f9 (fun z => z (.inl rfl)))
              have R9 := Lib.hid (int_fr RZ.out f9 (fun b _ fb z => z (.inr ⟨_, _, _, rfl, fb⟩)))
              clear m9 e9 f9 AL MZ XZ RZ z0 z1'
              have z0 := XI.out.cell 0
              have z1' := XI.out.cell 1
              simp only [List.getElem?_cons_succ, List.getElem?_cons_zero] at z0 z1'
              rw [ean] at z0
              have C9 : Calls Tryz.prog 24 #[ptr s, .int .i64 (t : Int), .int .i64 (cn : Int)] X9 (CachedPost (ca9 t cn) X9) := cached_at (w := t) (c := cn) htl E9.out M9.out VV.out
              rw [UU.out] at C9
              have C9 := Lib.hid C9
              go_wp2_with fail
              refine C9.out.mono ?_
              rintro e Xa ⟨v4, rfl, Aa, na, cna, rfl, Ra, _, _, ka⟩
              obtain rfl : na = n2 := Ra.lenN.symm.trans hLL
              have SI := Lib.hid (sameInts_any Aa A2 na cna c2 _ Xa Ra (R9.out.old ka) (by have := R9.out.lenN; omega))
              have Ma := Lib.hid (M9.out.old ka)
              clear Ra ka
              go_wp2_with fail
              refine SI.out.mono ?_
              rintro e Xb ⟨rfl, kb⟩
              have Mb := Lib.hid (Ma.out.old kb)
              clear kb
              go_wp2_with fail
              refine (Shp.awake_any _).mono ?_
              rintro e Xc ⟨rfl, kc⟩
              have KE := Lib.hid (Mb.out.ff.kept.trans kc)
              clear kc
              go_wp2_with fail
              go_ret
              exact ⟨rfl, KE.out⟩
            · have AS := alloc_same (P := P) (k := kZ) (live := lZ) c4 UZ.out cb cw
              have AL := salloc_any (w := t) (by have := EZ.out; omega) (wordsI (cn : Int)) MZ.out (by rw [EZ.out]; exact VZ.out)
              unfold AllocPost at AL
              rw [AS] at AL
              have VV := VZ.out.allocW htl (wordsI (cn : Int))
              rw [AS] at VV
              have VV := Lib.hid VV
              have UU := Lib.hid (up_at caZ t cn (ca t cn))
              have AL := Lib.hid AL
              generalize up caZ t cn (ca t cn) = ca9 at *
              generalize Lm.insL lZ (Lm.newS (wordsI (cn : Int)) (an : Int)) = l9 at *
              clear AS
              go_wp2_with fail
              refine (WD.out _).mono ?_
              rintro e w' ⟨rfl, rfl⟩
              go_wp2_with fail
              refine AL.out.mono ?_
              rintro e X9 ⟨rfl, ⟨pl9, m9, e9⟩, f9⟩
              have M9 := Lib.hid m9
              have E9 := Lib.hid (show pl9.nw = nw from e9.nw.trans EZ.out)
              have XI := Lib.hid (XZ.out.kept f9 (fun z => z (.inl rfl)))
              have R9 := Lib.hid (int_fr RZ.out f9 (fun b _ fb z => z (.inr ⟨_, _, _, rfl, fb⟩)))
              clear m9 e9 f9 AL MZ XZ RZ z0 z1'
              have z0 := XI.out.cell 0
              have z1' := XI.out.cell 1
              simp only [List.getElem?_cons_succ, List.getElem?_cons_zero] at z0 z1'
              rw [ean] at z0
              have C9 : Calls Tryz.prog 24 #[ptr s, .int .i64 (t : Int), .int .i64 (cn : Int)] X9 (CachedPost (ca9 t cn) X9) := cached_at (w := t) (c := cn) htl E9.out M9.out VV.out
              rw [UU.out] at C9
              have C9 := Lib.hid C9
              go_wp2_with fail
              refine C9.out.mono ?_
              rintro e Xa ⟨v4, rfl, Aa, na, cna, rfl, Ra, _, _, ka⟩
              obtain rfl : na = n2 := Ra.lenN.symm.trans hLL
              have SI := Lib.hid (sameInts_any Aa A2 na cna c2 _ Xa Ra (R9.out.old ka) (by have := R9.out.lenN; omega))
              have Ma := Lib.hid (M9.out.old ka)
              clear Ra ka
              go_wp2_with fail
              refine SI.out.mono ?_
              rintro e Xb ⟨rfl, kb⟩
              have Mb := Lib.hid (Ma.out.old kb)
              clear kb
              go_wp2_with fail
              refine (Shp.awake_any _).mono ?_
              rintro e Xc ⟨rfl, kc⟩
              have KE := Lib.hid (Mb.out.ff.kept.trans kc)
              clear kc
              go_wp2_with fail
              go_ret
              exact ⟨rfl, KE.out⟩
        · have SI := Lib.hid (fun X (q : Kept Old X6 X) => sameInts_any (some ⟨g6, o6 + 1, none⟩) A2 n2 (c6 - 1) c2 _ X ((RT.out (some ⟨g6, o6 + 1, none⟩) (fun h => by first | rfl | omega)).old q) (R26.out.old q) (by have := R26.out.lenN; omega))
          refine wp_region_held_drew (S := (fun w' => w'.cell? ⟨xb, 0, none⟩ = some (.int .i64 (an : Int)) ∧ w'.cell? ⟨g6, o6, none⟩ = some (.int .i64 (an : Int)))) (by kernel_rfl) ⟨z0, w0'⟩ (fun hHeld => ?_)
          refine wpAnyH_take (i := 0) (v := .slice (some ⟨g6, o6, none⟩) (n2 + 1) c6) rfl (by kernel_rfl) (by decide +kernel) (by decide +kernel) (fun _ _ _ h => h) (Or.inl ⟨by rfl, fun w' hSw => ?_⟩) hHeld ?_
          · (go_simp)
          simp only [Act.put, List.getElem_toArray, List.getElem_cons_zero, List.setIfInBounds_toArray, List.set_cons_zero, List.set_cons_succ]
          refine wpAnyH_take (i := 1) (v := .int .i64 ((n2 : Int) + 1)) rfl (by kernel_rfl) (by decide +kernel) (by decide +kernel) (fun _ _ _ h => h) (Or.inl ⟨by rfl, fun w' hSw => ?_⟩) hHeld ?_
          · (go_simp)
          simp only [Act.put, List.getElem_toArray, List.getElem_cons_succ, List.getElem_cons_zero, List.setIfInBounds_toArray, List.set_cons_zero, List.set_cons_succ]
          refine wpAnyH_take (i := 2) (v := .slice A2 n2 c2) rfl (by kernel_rfl) (by decide +kernel) (by decide +kernel) (fun _ _ _ h => h) (Or.inl ⟨by rfl, fun w' hSw => ?_⟩) hHeld ?_
          · (go_simp)
          simp only [Act.put, List.getElem_toArray, List.getElem_cons_succ, List.getElem_cons_zero, List.setIfInBounds_toArray, List.set_cons_zero, List.set_cons_succ]
          refine wpAnyH_take (i := 3) (v := .int .i64 (n2 : Int)) rfl (by kernel_rfl) (by decide +kernel) (by decide +kernel) (fun _ _ _ h => h) (Or.inl ⟨by rfl, fun w' hSw => ?_⟩) hHeld ?_
          · (go_simp)
          simp only [Act.put, List.getElem_toArray, List.getElem_cons_succ, List.getElem_cons_zero, List.setIfInBounds_toArray, List.set_cons_zero, List.set_cons_succ]
          refine wpAnyH_take (i := 4) (v := .int .i64 ((n2 : Int) + 1)) rfl (by kernel_rfl) (by decide +kernel) (by decide +kernel) (fun _ _ _ h => h) (Or.inl ⟨by rfl, fun w' hSw => ?_⟩) hHeld ?_
          · (go_simp)
          simp only [Act.put, List.getElem_toArray, List.getElem_cons_succ, List.getElem_cons_zero, List.setIfInBounds_toArray, List.set_cons_zero, List.set_cons_succ]
          refine wpAnyH_take (i := 5) (v := .bool false) rfl (by kernel_rfl) (by decide +kernel) (by decide +kernel) (fun _ _ _ h => h) (Or.inl ⟨by rfl, fun w' hSw => ?_⟩) hHeld ?_
          · (go_simp)
          simp only [Act.put, List.getElem_toArray, List.getElem_cons_succ, List.getElem_cons_zero, List.setIfInBounds_toArray, List.set_cons_zero, List.set_cons_succ]
          refine wpAnyH_take (i := 6) (v := .bool false) rfl (by kernel_rfl) (by decide +kernel) (by decide +kernel) (fun _ _ _ h => h) (Or.inl ⟨by rfl, fun w' hSw => ?_⟩) hHeld ?_
          · (go_simp)
          simp only [Act.put, List.getElem_toArray, List.getElem_cons_succ, List.getElem_cons_zero, List.setIfInBounds_toArray, List.set_cons_zero, List.set_cons_succ]
          refine wpAnyH_take (i := 7) (v := .slice (some ⟨g6, o6, none⟩) (n2 + 1) c6) rfl (by kernel_rfl) (by decide +kernel) (by decide +kernel) (fun _ _ _ h => h) (Or.inl ⟨by rfl, fun w' hSw => ?_⟩) hHeld ?_
          · (go_simp)
          simp only [Act.put, List.getElem_toArray, List.getElem_cons_succ, List.getElem_cons_zero, List.setIfInBounds_toArray, List.set_cons_zero, List.set_cons_succ]
          refine wpAnyH_take (i := 8) (v := .pointer (some ⟨g6, o6, none⟩)) rfl (by kernel_rfl) (by decide +kernel) (by decide +kernel) (fun _ _ _ h => h) (Or.inl ⟨by rfl, fun w' hSw => ?_⟩) hHeld ?_
          · (go_simp)
          simp only [Act.put, List.getElem_toArray, List.getElem_cons_succ, List.getElem_cons_zero, List.setIfInBounds_toArray, List.set_cons_zero, List.set_cons_succ]
          refine wpAnyH_take (i := 9) (v := .int .i64 (an : Int)) rfl (by kernel_rfl) (by decide +kernel) (by decide +kernel) (fun _ _ _ h => h) (Or.inl ⟨by rfl, fun w' hSw => ?_⟩) hHeld ?_
          · (go_simp)
          simp only [Act.put, List.getElem_toArray, List.getElem_cons_succ, List.getElem_cons_zero, List.setIfInBounds_toArray, List.set_cons_zero, List.set_cons_succ]
          refine wpAnyH_take (i := 10) (v := .pointer (some ⟨xb, 0, none⟩)) rfl (by kernel_rfl) (by decide +kernel) (by decide +kernel) (fun _ _ _ h => h) (Or.inl ⟨by rfl, fun w' hSw => ?_⟩) hHeld ?_
          · (go_simp)
          simp only [Act.put, List.getElem_toArray, List.getElem_cons_succ, List.getElem_cons_zero, List.setIfInBounds_toArray, List.set_cons_zero, List.set_cons_succ]
          refine wpAnyH_take (i := 11) (v := .int .i64 (an : Int)) rfl (by kernel_rfl) (by decide +kernel) (by decide +kernel) (fun _ _ _ h => h) (Or.inl ⟨by rfl, fun w' hSw => ?_⟩) hHeld ?_
          · (go_simp)
          simp only [Act.put, List.getElem_toArray, List.getElem_cons_succ, List.getElem_cons_zero, List.setIfInBounds_toArray, List.set_cons_zero, List.set_cons_succ]
          refine wpAnyH_take (i := 12) (v := .bool false) rfl (by kernel_rfl) (by decide +kernel) (by decide +kernel) (fun _ _ _ h => h) (Or.inl ⟨by rfl, fun w' hSw => ?_⟩) hHeld ?_
          · (go_simp)
          simp only [Act.put, List.getElem_toArray, List.getElem_cons_succ, List.getElem_cons_zero, List.setIfInBounds_toArray, List.set_cons_zero, List.set_cons_succ]
          refine wpAnyH_take (i := 13) (v := .bool false) rfl (by kernel_rfl) (by decide +kernel) (by decide +kernel) (fun _ _ _ h => h) (Or.inl ⟨by rfl, fun w' hSw => ?_⟩) hHeld ?_
          · (go_simp)
          simp only [Act.put, List.getElem_toArray, List.getElem_cons_succ, List.getElem_cons_zero, List.setIfInBounds_toArray, List.set_cons_zero, List.set_cons_succ]
          refine wpAnyH_take (i := 14) (v := .bool false) rfl (by kernel_rfl) (by decide +kernel) (by decide +kernel) (fun _ _ _ h => h) (Or.inl ⟨by rfl, fun w' hSw => ?_⟩) hHeld ?_
          · (go_simp)
          simp only [Act.put, List.getElem_toArray, List.getElem_cons_succ, List.getElem_cons_zero, List.setIfInBounds_toArray, List.set_cons_zero, List.set_cons_succ]
          refine wpAnyH_take (i := 15) (v := .slice (some ⟨g6, o6, none⟩) (n2 + 1) c6) rfl (by kernel_rfl) (by decide +kernel) (by decide +kernel) (fun _ _ _ h => h) (Or.inl ⟨by rfl, fun w' hSw => ?_⟩) hHeld ?_
          · (go_simp)
          simp only [Act.put, List.getElem_toArray, List.getElem_cons_succ, List.getElem_cons_zero, List.setIfInBounds_toArray, List.set_cons_zero, List.set_cons_succ]
          refine wpAnyH_take (i := 16) (v := .slice (some ⟨g6, o6 + 1, none⟩) n2 (c6 - 1)) rfl (by kernel_rfl) (by decide +kernel) (by decide +kernel) (fun _ _ _ h => h) (Or.inl ⟨by rfl, fun w' hSw => ?_⟩) hHeld ?_
          · (go_simp)
          simp only [Act.put, List.getElem_toArray, List.getElem_cons_succ, List.getElem_cons_zero, List.setIfInBounds_toArray, List.set_cons_zero, List.set_cons_succ]
          refine wpAnyH_take (i := 17) (v := .slice A2 n2 c2) rfl (by kernel_rfl) (by decide +kernel) (by decide +kernel) (fun _ _ _ h => h) (Or.inl ⟨by rfl, fun w' hSw => ?_⟩) hHeld ?_
          · (go_simp)
          simp only [Act.put, List.getElem_toArray, List.getElem_cons_succ, List.getElem_cons_zero, List.setIfInBounds_toArray, List.set_cons_zero, List.set_cons_succ]
          refine wpAnyH_ready (rs := [18]) (by decide +kernel) (by simp) (AllReadyH.cons rfl (fun K hK => ?_) AllReadyH.nil)
          simp only [List.getElem_toArray, List.getElem_cons_succ, List.getElem_cons_zero]
          rw [if_pos (by rfl)]
          go_simp
          go_at_call 32
          refine (SI.out _ (Kept.refl Old X6).drew).mono ?_
          rintro e X7 ⟨rfl, k7⟩
          have K7 := Lib.hid (show Kept Old X6 X7 from (Kept.refl Old X6).drew.trans k7)
          refine hK.out _ _ ⟨Bg.cell_on k7 hHeld.1, Bg.cell_on k7 hHeld.2⟩ (fun hHeld => ?_)
          clear hK K k7
          refine wpAnyH_take (i := 19) (v := .bool false) rfl (by kernel_rfl) (by decide +kernel) (by decide +kernel) (fun _ _ _ h => h) (Or.inl ⟨by rfl, fun w' hSw => ?_⟩) hHeld ?_
          · (go_simp)
          simp only [Act.put, List.getElem_toArray, List.getElem_cons_succ, List.getElem_cons_zero, List.setIfInBounds_toArray, List.set_cons_zero, List.set_cons_succ]
          refine wpAnyH_take (i := 20) (v := .bool false) rfl (by kernel_rfl) (by decide +kernel) (by decide +kernel) (fun _ _ _ h => h) (Or.inl ⟨by rfl, fun w' hSw => ?_⟩) hHeld ?_
          · (go_simp)
          simp only [Act.put, List.getElem_toArray, List.getElem_cons_succ, List.getElem_cons_zero, List.setIfInBounds_toArray, List.set_cons_zero, List.set_cons_succ]
          refine wpAnyH_done (by decide +kernel) ?_ _
          have M7 := Lib.hid (M6.out.old K7.out)
          have XG := Lib.hid (XF.out.kept (D := Old) K7.out (fun z => z))
          have R7 := Lib.hid (R26.out.old K7.out)
          clear SI RT M6 XF R26 K7 hHeld z0 z1' w0' z01
          have z0 := XG.out.cell 0
          have z1' := XG.out.cell 1
          simp only [List.getElem?_cons_succ, List.getElem?_cons_zero] at z0 z1'
          rw [ean] at z0
          by_cases k1 : nw = 1
          · have k1' : ¬ (1 : Int) < (nw : Int) := by omega
            obtain ⟨plZ, hpz⟩ : ∃ p, p = (pl5.re X5.heap.size 97).re X6.heap.size 97 := ⟨_, rfl⟩
            have MZ := M7
            rw [← hpz] at MZ
            have EZ := Lib.hid (show plZ.nw = nw from by rw [hpz]; exact E5.out)
            have VZ := V4
            have UZ := U4
            have XZ := XG
            have RZ := R7
            obtain ⟨kZ, hkZ⟩ : ∃ z, z = k := ⟨_, rfl⟩
            obtain ⟨lZ, hlZ⟩ : ∃ z, z = live4 := ⟨_, rfl⟩
            obtain ⟨caZ, hcZ⟩ : ∃ z, z = ca4 := ⟨_, rfl⟩
            rw [← hkZ, ← hlZ, ← hcZ] at MZ VZ
            rw [← hcZ] at UZ
            clear M7 V4 U4 XG R7 hpz E5 hkZ hlZ hcZ
            have AS := alloc_same (P := P) (k := kZ) (live := lZ) c4 UZ.out cb cw
            have AL := salloc_any (w := t) (by have := EZ.out; omega) (wordsI (cn : Int)) MZ.out (by rw [EZ.out]; exact VZ.out)
            unfold AllocPost at AL
            rw [AS] at AL
            have VV := VZ.out.allocW htl (wordsI (cn : Int))
            rw [AS] at VV
            have VV := Lib.hid VV
            have UU := Lib.hid (up_at caZ t cn (ca t cn))
            have AL := Lib.hid AL
            generalize up caZ t cn (ca t cn) = ca9 at *
            generalize Lm.insL lZ (Lm.newS (wordsI (cn : Int)) (an : Int)) = l9 at *
            clear AS
            go_wp2_with fail
            refine (WD.out _).mono ?_
            rintro e w' ⟨rfl, rfl⟩
            go_wp2_with fail
            refine AL.out.mono ?_
            rintro e X9 ⟨rfl, ⟨pl9, m9, e9⟩, f9⟩
            have M9 := Lib.hid m9
            have E9 := Lib.hid (show pl9.nw = nw from e9.nw.trans EZ.out)
            have XI := Lib.hid (XZ.out.kept f9 (fun z => z (.inl rfl)))
            have R9 := Lib.hid (int_fr RZ.out f9 (fun b _ fb z => z (.inr ⟨_, _, _, rfl, fb⟩)))
            clear m9 e9 f9 AL MZ XZ RZ z0 z1'
            have z0 := XI.out.cell 0
            have z1' := XI.out.cell 1
            simp only [List.getElem?_cons_succ, List.getElem?_cons_zero] at z0 z1'
            rw [ean] at z0
            have C9 : Calls Tryz.prog 24 #[ptr s, .int .i64 (t : Int), .int .i64 (cn : Int)] X9 (CachedPost (ca9 t cn) X9) := cached_at (w := t) (c := cn) htl E9.out M9.out VV.out
            rw [UU.out] at C9
            have C9 := Lib.hid C9
            go_wp2_with fail
            refine C9.out.mono ?_
            rintro e Xa ⟨v4, rfl, Aa, na, cna, rfl, Ra, _, _, ka⟩
            obtain rfl : na = n2 := Ra.lenN.symm.trans hLL
            have SI := Lib.hid (sameInts_any Aa A2 na cna c2 _ Xa Ra (R9.out.old ka) (by have := R9.out.lenN; omega))
            have Ma := Lib.hid (M9.out.old ka)
            clear Ra ka
            go_wp2_with fail
            refine SI.out.mono ?_
            rintro e Xb ⟨rfl, kb⟩
            have Mb := Lib.hid (Ma.out.old kb)
            clear kb
            go_wp2_with fail
            refine (Shp.awake_any _).mono ?_
            rintro e Xc ⟨rfl, kc⟩
            have KE := Lib.hid (Mb.out.ff.kept.trans kc)
            clear kc
            go_wp2_with fail
            go_ret
            exact ⟨rfl, KE.out⟩
          · have k1' : (1 : Int) < (nw : Int) := by omega
            obtain ⟨t2, ht2, ht2l⟩ : ∃ t2, (t + 1) % nw = t2 ∧ t2 < nw := ⟨_, rfl, Nat.mod_lt _ N1⟩
            have ht2i : ((t : Int) + 1) % (nw : Int) = (t2 : Int) := by rw [← ht2, Int.natCast_emod, Int.natCast_add]; rfl
            have nzn : ¬ nw = 0 := by omega
            have ht2t : Int.tmod ((t : Int) + 1) (nw : Int) = (t2 : Int) := by rw [Int.tmod_eq_emod_of_nonneg (by omega)]; exact ht2i
            have tne : t2 ≠ t := by
              intro e
              by_cases q : t + 1 < nw
              · rw [Nat.mod_eq_of_lt q] at ht2; omega
              · rw [show t + 1 = nw by omega, Nat.mod_self] at ht2; omega
            have wt : IntKind.i64.wrap ((t : Int) + 1) = (t : Int) + 1 := IntWalk.i64_in _ (by omega)
            have AO := alloc_other (k := k) (live := live4) V4.out htl ht2l tne c4 (a := an) (by rw [U4.out]; exact List.mem_cons_self) cb cw
            have VZ := V4.out.allocW ht2l (wordsI (cn : Int))
            obtain ⟨kZ, caZ, lZ, aZ, eZ, hZ⟩ : ∃ kZ caZ lZ aZ eZ, allocW P k ca4 live4 t2 (wordsI (cn : Int)) = (kZ, caZ, lZ, aZ, eZ) := ⟨_, _, _, _, _, rfl⟩
            rw [hZ] at AO VZ
            have UZ := Lib.hid (show caZ t cn = an :: ca t cn from AO.1.trans U4.out)
            have AO2 := Lib.hid (show eZ = 0 → aZ ≠ (an : Int) from AO.2)
            have AL := Lib.hid (fun X (q : Kept Old X7 X) => (show Calls Tryz.prog 19 #[ptr s, .int .i64 (t2 : Int), .int .i64 (wordsI (cn : Int))] X (fun e W' => e = .returned (.tuple #[.int .i64 aZ, .int .i64 eZ]) ∧ Shp.Left w X W' s P kZ caZ lZ (fun b => b = xb ∨ FV (.slice A2 n2 c2) b) (((pl5.re X5.heap.size 97).re X6.heap.size 97).re X7.heap.size 97)) from by have h := salloc_any (w := t2) (pl := ((pl5.re X5.heap.size 97).re X6.heap.size 97).re X7.heap.size 97) (by have := E5.out; show t2 < pl5.nw; omega) (wordsI (cn : Int)) (M7.out.old q) (by show Sq P pl5.nw _ _ _; rw [E5.out]; exact V4.out); unfold AllocPost at h; rw [hZ] at h; exact h))
            have VZ := Lib.hid (show Sq P nw kZ caZ lZ from VZ)
            clear AO hZ
            go_wp2_with fail
            refine wp_region_held_drew (S := (fun w' => w'.cell? ⟨xb, 1, none⟩ = some (.int .i64 (cn : Int)))) (by kernel_rfl) z1' (fun hHeld => ?_)
            refine wpAnyH_take (i := 0) (v := ptr s) rfl (by kernel_rfl) (by decide +kernel) (by decide +kernel) (fun _ _ _ h => h) (Or.inl ⟨by rfl, fun w' hSw => ?_⟩) hHeld ?_
            · (go_simp)
            simp only [Act.put, List.getElem_toArray, List.getElem_cons_zero, List.setIfInBounds_toArray, List.set_cons_zero, List.set_cons_succ]
            refine wpAnyH_take (i := 1) (v := .int .i64 (t : Int)) rfl (by kernel_rfl) (by decide +kernel) (by decide +kernel) (fun _ _ _ h => h) (Or.inl ⟨by rfl, fun w' hSw => ?_⟩) hHeld ?_
            · (go_simp)
            simp only [Act.put, List.getElem_toArray, List.getElem_cons_succ, List.getElem_cons_zero, List.setIfInBounds_toArray, List.set_cons_zero, List.set_cons_succ]
            refine wpAnyH_take (i := 2) (v := .int .i64 ((t : Int) + 1)) rfl (by kernel_rfl) (by decide +kernel) (by decide +kernel) (fun _ _ _ h => h) (Or.inl ⟨by rfl, fun w' hSw => ?_⟩) hHeld ?_
            · (go_simp)
            simp only [Act.put, List.getElem_toArray, List.getElem_cons_succ, List.getElem_cons_zero, List.setIfInBounds_toArray, List.set_cons_zero, List.set_cons_succ]
            refine wpAnyH_take (i := 3) (v := .int .i64 (nw : Int)) rfl (by kernel_rfl) (by decide +kernel) (by decide +kernel) (fun _ _ _ h => h) (Or.inl ⟨by rfl, fun w' hSw => ?_⟩) hHeld ?_
            · (go_simp)
            simp only [Act.put, List.getElem_toArray, List.getElem_cons_succ, List.getElem_cons_zero, List.setIfInBounds_toArray, List.set_cons_zero, List.set_cons_succ]
            refine wpAnyH_take (i := 4) (v := .int .i64 (t2 : Int)) rfl (by kernel_rfl) (by decide +kernel) (by decide +kernel) (fun _ _ _ h => h) (Or.inl ⟨by rfl, fun w' hSw => ?_⟩) hHeld ?_
            · (go_simp)
            simp only [Act.put, List.getElem_toArray, List.getElem_cons_succ, List.getElem_cons_zero, List.setIfInBounds_toArray, List.set_cons_zero, List.set_cons_succ]
            refine wpAnyH_take (i := 5) (v := .pointer (some ⟨xb, 1, none⟩)) rfl (by kernel_rfl) (by decide +kernel) (by decide +kernel) (fun _ _ _ h => h) (Or.inl ⟨by rfl, fun w' hSw => ?_⟩) hHeld ?_
            · (go_simp)
            simp only [Act.put, List.getElem_toArray, List.getElem_cons_succ, List.getElem_cons_zero, List.setIfInBounds_toArray, List.set_cons_zero, List.set_cons_succ]
            refine wpAnyH_take (i := 6) (v := .int .i64 (cn : Int)) rfl (by kernel_rfl) (by decide +kernel) (by decide +kernel) (fun _ _ _ h => h) (Or.inl ⟨by rfl, fun w' hSw => ?_⟩) hHeld ?_
            · (go_simp)
            simp only [Act.put, List.getElem_toArray, List.getElem_cons_succ, List.getElem_cons_zero, List.setIfInBounds_toArray, List.set_cons_zero, List.set_cons_succ]
            refine wpAnyH_ready (rs := [7]) (by decide +kernel) (by simp) (AllReadyH.cons rfl (fun K hK => ?_) AllReadyH.nil)
            simp only [List.getElem_toArray, List.getElem_cons_succ, List.getElem_cons_zero]
            rw [if_pos (by rfl)]
            go_simp
            go_at_call 40
            refine (WD.out _).mono ?_
            rintro e w' ⟨rfl, rfl⟩
            refine hK.out _ _ hHeld (fun hHeld => ?_)
            clear hK K
            refine wpAnyH_ready (rs := [8]) (by decide +kernel) (by simp) (AllReadyH.cons rfl (fun K hK => ?_) AllReadyH.nil)
            simp only [List.getElem_toArray, List.getElem_cons_succ, List.getElem_cons_zero]
            rw [if_pos (by rfl)]
            go_simp
            go_at_call 19
            refine (AL.out _ (Kept.refl Old X7).drew).mono ?_
            rintro e X8 ⟨rfl, ⟨plZ, mZ, eZ'⟩, fZ⟩
            have MZ := Lib.hid mZ
            have EZ := Lib.hid (show plZ.nw = nw from eZ'.nw.trans E5.out)
            have XZ := Lib.hid ((XG.out.kept (D := Old) (Kept.refl Old X7).drew (fun z => z)).kept fZ (fun z => z (.inl rfl)))
            have RZ := Lib.hid (int_fr (R7.out.old (Kept.refl Old X7).drew) fZ (fun b _ fb z => z (.inr ⟨_, _, _, rfl, fb⟩)))
            clear mZ eZ' fZ
            have z1'' := XZ.out.cell 1
            simp only [List.getElem?_cons_succ, List.getElem?_cons_zero] at z1''
            refine hK.out _ _ z1'' (fun hHeld => ?_)
            clear hK K
            refine wpAnyH_take (i := 9) (v := .tuple #[.int .i64 aZ, .int .i64 eZ]) rfl (by kernel_rfl) (by decide +kernel) (by decide +kernel) (fun _ _ _ h => h) (Or.inl ⟨by rfl, fun w' hSw => ?_⟩) hHeld ?_
            · (go_simp)
            simp only [Act.put, List.getElem_toArray, List.getElem_cons_succ, List.getElem_cons_zero, List.setIfInBounds_toArray, List.set_cons_zero, List.set_cons_succ]
            refine wpAnyH_take (i := 10) (v := .int .i64 aZ) rfl (by kernel_rfl) (by decide +kernel) (by decide +kernel) (fun _ _ _ h => h) (Or.inl ⟨by rfl, fun w' hSw => ?_⟩) hHeld ?_
            · (go_simp)
            simp only [Act.put, List.getElem_toArray, List.getElem_cons_succ, List.getElem_cons_zero, List.setIfInBounds_toArray, List.set_cons_zero, List.set_cons_succ]
            refine wpAnyH_take (i := 11) (v := .int .i64 eZ) rfl (by kernel_rfl) (by decide +kernel) (by decide +kernel) (fun _ _ _ h => h) (Or.inl ⟨by rfl, fun w' hSw => ?_⟩) hHeld ?_
            · (go_simp)
            simp only [Act.put, List.getElem_toArray, List.getElem_cons_succ, List.getElem_cons_zero, List.setIfInBounds_toArray, List.set_cons_zero, List.set_cons_succ]
            refine wpAnyH_take (i := 12) (v := .int .i64 aZ) rfl (by kernel_rfl) (by decide +kernel) (by decide +kernel) (fun _ _ _ h => h) (Or.inl ⟨by rfl, fun w' hSw => ?_⟩) hHeld ?_
            · (go_simp)
            simp only [Act.put, List.getElem_toArray, List.getElem_cons_succ, List.getElem_cons_zero, List.setIfInBounds_toArray, List.set_cons_zero, List.set_cons_succ]
            refine wpAnyH_take (i := 13) (v := .int .i64 eZ) rfl (by kernel_rfl) (by decide +kernel) (by decide +kernel) (fun _ _ _ h => h) (Or.inl ⟨by rfl, fun w' hSw => ?_⟩) hHeld ?_
            · (go_simp)
            simp only [Act.put, List.getElem_toArray, List.getElem_cons_succ, List.getElem_cons_zero, List.setIfInBounds_toArray, List.set_cons_zero, List.set_cons_succ]
            refine wpAnyH_done (by decide +kernel) ?_ _
            clear M7 XG R7 AL z0 z1' hHeld z1'' V4 U4 E5
            have z0 := XZ.out.cell 0
            have z1' := XZ.out.cell 1
            simp only [List.getElem?_cons_succ, List.getElem?_cons_zero] at z0 z1'
            rw [ean] at z0
            by_cases ez : eZ = 0
            · have az : ¬ aZ = (an : Int) := AO2.out ez
              have AS := alloc_same (P := P) (k := kZ) (live := lZ) c4 UZ.out cb cw
              have AL := salloc_any (w := t) (by have := EZ.out; omega) (wordsI (cn : Int)) MZ.out (by rw [EZ.out]; exact VZ.out)
              unfold AllocPost at AL
              rw [AS] at AL
              have VV := VZ.out.allocW htl (wordsI (cn : Int))
              rw [AS] at VV
              have VV := Lib.hid VV
              have UU := Lib.hid (up_at caZ t cn (ca t cn))
              have AL := Lib.hid AL
              generalize up caZ t cn (ca t cn) = ca9 at *
              generalize Lm.insL lZ (Lm.newS (wordsI (cn : Int)) (an : Int)) = l9 at *
              clear AS
              go_wp2_with fail
              refine (WD.out _).mono ?_
              rintro e w' ⟨rfl, rfl⟩
              go_wp2_with fail
              refine AL.out.mono ?_
              rintro e X9 ⟨rfl, ⟨pl9, m9, e9⟩, f9⟩
              have M9 := Lib.hid m9
              have E9 := Lib.hid (show pl9.nw = nw from e9.nw.trans EZ.out)
              have XI := Lib.hid (XZ.out.kept f9 (fun z => z (.inl rfl)))
              have R9 := Lib.hid (int_fr RZ.out f9 (fun b _ fb z => z (.inr ⟨_, _, _, rfl, fb⟩)))
              clear m9 e9 f9 AL MZ XZ RZ z0 z1'
              have z0 := XI.out.cell 0
              have z1' := XI.out.cell 1
              simp only [List.getElem?_cons_succ, List.getElem?_cons_zero] at z0 z1'
              rw [ean] at z0
              have C9 : Calls Tryz.prog 24 #[ptr s, .int .i64 (t : Int), .int .i64 (cn : Int)] X9 (CachedPost (ca9 t cn) X9) := cached_at (w := t) (c := cn) htl E9.out M9.out VV.out
              rw [UU.out] at C9
              have C9 := Lib.hid C9
              go_wp2_with fail
              refine C9.out.mono ?_
              rintro e Xa ⟨v4, rfl, Aa, na, cna, rfl, Ra, _, _, ka⟩
              obtain rfl : na = n2 := Ra.lenN.symm.trans hLL
              have SI := Lib.hid (sameInts_any Aa A2 na cna c2 _ Xa Ra (R9.out.old ka) (by have := R9.out.lenN; omega))
              have Ma := Lib.hid (M9.out.old ka)
              clear Ra ka
              go_wp2_with fail
              refine SI.out.mono ?_
              rintro e Xb ⟨rfl, kb⟩
              have Mb := Lib.hid (Ma.out.old kb)
              clear kb
              go_wp2_with fail
              refine (Shp.awake_any _).mono ?_
              rintro e Xc ⟨rfl, kc⟩
              have KE := Lib.hid (Mb.out.ff.kept.trans kc)
              clear kc
              go_wp2_with fail
              go_ret
              exact ⟨rfl, KE.out⟩
            · have AS := alloc_same (P := P) (k := kZ) (live := lZ) c4 UZ.out cb cw
              have AL := salloc_any (w := t) (by have := EZ.out; omega) (wordsI (cn : Int)) MZ.out (by rw [EZ.out]; exact VZ.out)
              unfold AllocPost at AL
              rw [AS] at AL
              have VV := VZ.out.allocW htl (wordsI (cn : Int))
              rw [AS] at VV
              have VV := Lib.hid VV
              have UU := Lib.hid (up_at caZ t cn (ca t cn))
              have AL := Lib.hid AL
              generalize up caZ t cn (ca t cn) = ca9 at *
              generalize Lm.insL lZ (Lm.newS (wordsI (cn : Int)) (an : Int)) = l9 at *
              clear AS
              go_wp2_with fail
              refine (WD.out _).mono ?_
              rintro e w' ⟨rfl, rfl⟩
              go_wp2_with fail
              refine AL.out.mono ?_
              rintro e X9 ⟨rfl, ⟨pl9, m9, e9⟩, f9⟩
              have M9 := Lib.hid m9
              have E9 := Lib.hid (show pl9.nw = nw from e9.nw.trans EZ.out)
              have XI := Lib.hid (XZ.out.kept f9 (fun z => z (.inl rfl)))
              have R9 := Lib.hid (int_fr RZ.out f9 (fun b _ fb z => z (.inr ⟨_, _, _, rfl, fb⟩)))
              clear m9 e9 f9 AL MZ XZ RZ z0 z1'
              have z0 := XI.out.cell 0
              have z1' := XI.out.cell 1
              simp only [List.getElem?_cons_succ, List.getElem?_cons_zero] at z0 z1'
              rw [ean] at z0
              have C9 : Calls Tryz.prog 24 #[ptr s, .int .i64 (t : Int), .int .i64 (cn : Int)] X9 (CachedPost (ca9 t cn) X9) := cached_at (w := t) (c := cn) htl E9.out M9.out VV.out
              rw [UU.out] at C9
              have C9 := Lib.hid C9
              go_wp2_with fail
              refine C9.out.mono ?_
              rintro e Xa ⟨v4, rfl, Aa, na, cna, rfl, Ra, _, _, ka⟩
              obtain rfl : na = n2 := Ra.lenN.symm.trans hLL
              have SI := Lib.hid (sameInts_any Aa A2 na cna c2 _ Xa Ra (R9.out.old ka) (by have := R9.out.lenN; omega))
              have Ma := Lib.hid (M9.out.old ka)
              clear Ra ka
              go_wp2_with fail
              refine SI.out.mono ?_
              rintro e Xb ⟨rfl, kb⟩
              have Mb := Lib.hid (Ma.out.old kb)
              clear kb
              go_wp2_with fail
              refine (Shp.awake_any _).mono ?_
              rintro e Xc ⟨rfl, kc⟩
              have KE := Lib.hid (Mb.out.ff.kept.trans kc)
              clear kc
              go_wp2_with fail
              go_ret
              exact ⟨rfl, KE.out⟩

/-- The row's step. -/
theorem lifted (os : Os) (started : os.Started) (H : Type) (enc : TypeId × Value → H) :
    ReturnsInHanded {} Tryz.checked os 10 .any (Rows.shopCachedSpec.pre6 enc Tryz.prog Tryz.f10 Rows.shopCachedRow.domain false) (Rows.shopCachedSpec.post enc Tryz.prog Tryz.f10 false true false false) := by
  refine returnsInHanded_of_change_sized (C := Tryz.checked) own started (by kernel_rfl) Tryz.func10
    (ChangeSpec.witness6 (enc := enc) (C := Tryz.checked) false ⟨#[], #[.int .u8 0, .int .u8 0, .slice none 0 0, .int .u8 0, .int .u8 0], []⟩ 8 (by kernel_rfl) (by kernel_rfl) (by kernel_rfl) (by kernel_rfl)) ?_
  intro W base args ds gs before hval0 hW hcnd hsz0 _
  have hsz : (DataW.weightsEach Tryz.prog (Tryz.f10.params.toList ++ Rows.shopCachedSpec.plain.varTypes Tryz.prog) (ds ++ gs)).all (· ≤ reachBytes) = true := hsz0
  have hval : ∀ (j : Nat) t v, Tryz.f10.params[j]? = some t → args[j]? = some v → Value.okWide Tryz.prog W .any base t v := hval0
  have hW' := hW
  obtain ⟨p, q, hA0, hV, rfl, hfz, hnd⟩ := hW
  have hA : DataW.TrodAll enc Tryz.prog W 0 (fun _ => true) true Tryz.f10.params.toList args.toList ds p := hA0
  rw [Tryz.params10] at hA hval hsz
  obtain ⟨v0, vs0, d0, ds0, p0, q0, hargs, rfl, rfl, h0, r0⟩ := trodAll_cons hA
  obtain ⟨v1, vs1, d1, ds1, p1, q1, rfl, rfl, rfl, h1, r1⟩ := trodAll_cons r0
  obtain ⟨v2, vs2, d2, ds2, p2, q2, rfl, rfl, rfl, h2, r2⟩ := trodAll_cons r1
  obtain ⟨v3, vs3, d3, ds3, p3, q3, rfl, rfl, rfl, h3, r3⟩ := trodAll_cons r2
  obtain ⟨v4, vs4, d4, ds4, p4, q4, rfl, rfl, rfl, h4, r4⟩ := trodAll_cons r3
  obtain ⟨rfl, rfl, rfl⟩ := trodAll_nil r4
  obtain rfl : args = #[v0, v1, v2, v3, v4] := by cases args; simp_all
  obtain ⟨rfl, rfl⟩ := trodVars_none hV
  obtain ⟨a0, rfl, rfl, rfl, w0⟩ := open_int Tryz.underlying5 (hval 0 5 v0 rfl rfl) h0
  obtain ⟨a1, rfl, rfl, rfl, w1⟩ := open_int Tryz.underlying5 (hval 1 5 v1 rfl rfl) h1
  have k2 := h2
  have lt2 : ∀ x ∈ p2, x.block < W.heap.size := by obtain ⟨m, hm⟩ := k2; exact DataW.trod_lt m _ _ _ hm
  obtain ⟨a2, len2, cap2, rfl⟩ := okWide_slice Tryz.underlying22 (hval 2 22 v2 rfl rfl)
  obtain ⟨z2, w2⟩ := ints_in Tryz.underlying22 Tryz.underlying5 (by kernel_rfl) h2
  have rch2 := slice_reach (j := 2) Tryz.underlying22 (show Tryz.prog.bytesOf 5 = 1 by kernel_rfl) k2 hsz rfl rfl
  obtain ⟨a3, rfl, rfl, rfl, w3⟩ := open_int Tryz.underlying5 (hval 3 5 v3 rfl rfl) h3
  obtain ⟨a4, rfl, rfl, rfl, w4⟩ := open_int Tryz.underlying5 (hval 4 5 v4 rfl rfl) h4
  clear hA0 hval0
  refine (walk a0 a1 a2 len2 cap2 z2 a3 a4 W w0 w1 w2 rch2 w3 w4).mono fun e W' ⟨he, kept⟩ => ?_
  subst he
  have bel : Below W.heap.size W W' := kept.toBelow (Nat.le_refl _) (fun _ x => x.elim)
  exact ⟨_, rfl, _, _, _, [], _, [], hW', trodAll_mk1 (shut_bool Tryz.underlying4 _), (trodAll_cons_mk (shut_int Tryz.underlying5 w0) (trodAll_cons_mk (shut_int Tryz.underlying5 w1) (trodAll_cons_mk (Below.trod laidOut (by kernel_rfl) (of_decide_eq_true (by kernel_rfl)) k2 bel lt2) (trodAll_cons_mk (shut_int Tryz.underlying5 w3) (trodAll_cons_mk (shut_int Tryz.underlying5 w4) trodAll_mk0))))), rfl, bel.frame _, fun h => by cases h⟩

theorem over : Rows.ShopCachedSaid :=
  OpenClaim.holds_of_wide 10 Tryz.f10 rfl rfl rfl rfl rfl rfl rfl ⟨rfl, rfl, rfl, rfl, rfl⟩ rfl rfl rfl rfl rfl (by kernel_rfl) Tryz.func10 (by kernel_rfl)
    (of_decide_eq_true (by kernel_rfl)) (by unfold Func.isWrapper; first | (rw [if_pos (by decide +kernel)]; kernel_rfl) | (rw [if_neg (by decide +kernel)]; exact ⟨rfl, rfl⟩))
    (fun os started H enc _ => lifted os started H enc)

/-- The statement. -/
theorem proved : Rows.ShopCachedSaid := over
#print axioms proved
end Go.Proofs.YtcndilpaijapkaaGreat.shopCached
