/-
  For every input the law ShopCaps of rickyard/rickyardlaw15 returns true, and its arguments read afterwards as before. The law's own sentence: No cache ever has more than its cap; what a worker does leaves all other ones' caches as they are; behind a flush its own are empty. No further conditions.
-/
import Derived.Test.YtcndilpaijapkaaGreatRows
import Derived.SizedLaws
import Derived.WalkKit
import Derived.ProofKit
import Derived.OpenShut
import Derived.ChangeOld
import Derived.Below
import Derived.Lib.SmallJoins
import Derived.Test.YtcndilpaijapkaaGreatJBase
import Derived.Test.YtcndilpaijapkaaGreatJShpCapsM
import Derived.Test.YtcndilpaijapkaaGreatJShpG
namespace Go.Proofs.YtcndilpaijapkaaGreat.shopCaps
open Go.ChangeShapes Go.WideShapes Go.ChangeAt Go.RowKit
set_option linter.unusedVariables false
set_option maxRecDepth 100000

theorem own : ownKnob Tryz.prog.godebug = none := by kernel_rfl
theorem laidOut : laidOutB Tryz.prog = true := by kernel_rfl
open Sto
open Shp

set_option maxHeartbeats 4000000 in
/-- The walk: the Go text returns true, and nothing that was there has turned. -/
theorem walk (a0 : Int) (a1 : Int) (a2 : Option Addr) (len2 cap2 : Nat) (z2 : Nat → Int) (w : World) (w0 : (Lit.int .u8 a0).wf = true) (w1 : (Lit.int .u8 a1).wf = true) (w2 : len2 ≤ cap2 ∧ cap2 ≤ maxLen ∧ (∀ i, i < len2 → (Lit.int .u8 (z2 i)).wf = true) ∧ Sl w a2 1 len2 fun i _ => .int .u8 (z2 i)) (rch2 : cap2 * 1 ≤ 140737488351232 ∧ (a2 = none → len2 = 0 ∧ cap2 = 0)) :
    Calls Tryz.prog 7 #[.int .u8 a0, .int .u8 a1, .slice a2 len2 cap2] w fun e w' => e = .returned (.bool true) ∧ Kept Old w w' := by
  obtain ⟨v0, v1, v2, v3⟩ := w2
  have hl : len2 ≤ 9223372036854775807 := by unfold maxLen at v1; omega
  have hz := Lib.hid (show ∀ i, i < len2 → 0 ≤ z2 i ∧ z2 i ≤ 255 from fun i hi => bounds_u8 (v2 i hi))
  have HS := Lib.hid v3
  obtain ⟨p1, p2⟩ := bounds_u8 w0
  obtain ⟨p3, p4⟩ := bounds_u8 w1
  obtain ⟨u, rfl⟩ : ∃ u : Nat, a0 = (u : Int) := ⟨a0.toNat, by omega⟩
  obtain ⟨x, rfl⟩ : ∃ x : Nat, a1 = (x : Int) := ⟨a1.toNat, by omega⟩
  obtain ⟨P, hP, P1, P2⟩ : ∃ P : Nat, 1 + (u : Int) = (P : Int) ∧ 1 ≤ P ∧ P ≤ 256 := ⟨1 + u, by omega, by omega, by omega⟩
  obtain ⟨nw, hnw, N1, N2⟩ : ∃ nw : Nat, 1 + (x : Int) % 6 = (nw : Int) ∧ 1 ≤ nw ∧ nw ≤ 6 := ⟨1 + x % 6, by omega, by omega, by omega⟩
  have NS := Lib.hid (snew_yes w P nw NoB w P1 P2 N1 (by omega) (Kept.refl Old w) (fun _ h => h.elim))
  have V0 := Lib.hid (show Sq P nw (K0 P) (fun _ _ => []) [] from Sq.new (P := P) P1 P2 nw)
  clear v0 v1 v2 v3 w0 w1
  go_enter Tryz.func7, Tryz.ntmps7
  go_wp2_with fail
  refine NS.out.mono ?_
  rintro e W1 ⟨s, rfl, ⟨pl, en, m⟩, k1, _⟩
  have EN0 := Lib.hid en
  have K1 := Lib.hid m.ff.kept
  have WA0 := Lib.hid (Was.new w W1 K1.out.size)
  have M0 := Lib.hid (m.more (G := FW W1.heap.size nils) ((Kept.refl Old W1).alloc (.cells nils.toArray 58)) (fun b hb => by
    rcases hb with hb | ⟨v, hv, hb⟩
    · exact .inr (by rw [hb]; exact ⟨Nat.le_refl _, WA0.out.box.lt⟩)
    · exact absurd hb (no_fv hv b)))
  clear m en k1 NS K1
  go_wp2_with fail
  generalize hx : W1.heap.size = x at *
  clear hx
  go_loopw [11] (fun s11 wr => ∃ (i : Nat) (k : Sto.K) (ca : Ca) (live : List Lm.S) (pl : Shp.Pl) (vs : List Value), i ≤ 243 ∧ s11 = .int .i64 (i : Int) ∧ Hid (Shp.StM w wr s P k ca live (FW x vs) pl) ∧ Hid (pl.nw = nw) ∧ Hid (Sq P nw k ca live) ∧ Hid (Was w wr x vs (fun i => ca (i / 4) (i % 4)))) (fun s11 _ => 244 - (intOf s11).toNat)
  case atStart => exact ⟨0, _, _, _, _, _, by omega, rfl, M0, EN0, V0, WA0⟩
  case round =>
    clear M0 V0 EN0 WA0
    obtain ⟨i, k, ca, live, pl, vs, hi, rfl, M, EN, SVV, WAS⟩ := hrel
    rename World => V
    have wi : IntKind.i64.wrap ((i : Int) + 1) = (i : Int) + 1 := IntWalk.i64_in _ (by omega)
    have wi2 : IntKind.i64.wrap ((i : Int) + 2) = (i : Int) + 2 := IntWalk.i64_in _ (by omega)
    have wi3 : IntKind.i64.wrap ((i : Int) + 3) = (i : Int) + 3 := IntWalk.i64_in _ (by omega)
    by_cases cc : i + 2 < len2 ∧ i < 240
    · obtain ⟨c1, c2⟩ := cc
      have ci2 : (i : Int) < 240 := by omega
      have ci : (i : Int) + 2 < (len2 : Int) := by omega
      have ci1 : (i : Int) + 1 < (len2 : Int) := by omega
      have ci0 : (i : Int) < (len2 : Int) := by omega
      have ci3 : ¬ (i : Int) + 1 < 0 := by omega
      have ci4 : ¬ (i : Int) < 0 := by omega
      have ci5 : ¬ (i : Int) + 2 < 0 := by omega
      obtain ⟨g, o, rfl, hg, hc⟩ := (HS.out.old M.out.ff.kept).lies (by omega)
      have d0 := hc i 0 (by omega) (by omega)
      have d1 := hc (i + 1) 0 (by omega) (by omega)
      have d2 := hc (i + 2) 0 (by omega) (by omega)
      simp only [Nat.mul_one, Nat.add_zero] at d0 d1 d2
      obtain ⟨q0, q1⟩ := hz.out i (by omega)
      obtain ⟨q2, q3⟩ := hz.out (i + 1) (by omega)
      obtain ⟨q4, q5⟩ := hz.out (i + 2) (by omega)
      obtain ⟨a, ha, ha5⟩ : ∃ a : Nat, z2 i = (a : Int) ∧ a ≤ 255 := ⟨(z2 i).toNat, by omega, by omega⟩
      obtain ⟨b, hb, hb5⟩ : ∃ b : Nat, z2 (i + 1) = (b : Int) ∧ b ≤ 255 := ⟨(z2 (i + 1)).toNat, by omega, by omega⟩
      obtain ⟨c, hcc, hc5⟩ : ∃ c : Nat, z2 (i + 2) = (c : Int) ∧ c ≤ 255 := ⟨(z2 (i + 2)).toNat, by omega, by omega⟩
      rw [ha] at d0
      rw [hb] at d1
      rw [hcc] at d2
      have HC := Lib.hid (fun X (q : Kept Old w X) => (show X.cell? ⟨g, o + i, none⟩ = some (.int .u8 (a : Int)) ∧ X.cell? ⟨g, o + (i + 1), none⟩ = some (.int .u8 (b : Int)) ∧ X.cell? ⟨g, o + (i + 2), none⟩ = some (.int .u8 (c : Int)) from by
        obtain ⟨g2, o2, e2, hg2, hc2⟩ := (HS.out.old q).lies (by omega)
        injection e2 with e2
        injection e2 with e3 e4
        subst e3
        subst e4
        have x0 := hc2 i 0 (by omega) (by omega)
        have x1 := hc2 (i + 1) 0 (by omega) (by omega)
        have x2 := hc2 (i + 2) 0 (by omega) (by omega)
        simp only [Nat.mul_one, Nat.add_zero] at x0 x1 x2
        rw [ha] at x0
        rw [hb] at x1
        rw [hcc] at x2
        exact ⟨x0, x1, x2⟩))
      clear hc q0 q1 q2 q3 q4 q5 ha hb hcc
      obtain ⟨rk, rc, rl, rd, hr⟩ : ∃ rk rc rl rd, doW P nw k ca live a b c = (rk, rc, rl, rd) := ⟨_, _, _, _, rfl⟩
      have SV := Lib.hid (SVV.out.doW N1 a b c)
      rw [hr] at SV
      have DO : ∀ X, Kept Old V X → Calls Tryz.prog 14 #[ptr s, .int .i64 (nw : Int), .int .u8 (a : Int), .int .u8 (b : Int), .int .u8 (c : Int)] X fun e W' => e = .returned (deedV rd) ∧ Shp.Left w V W' s P rk rc rl (FW x vs) pl := fun X q => by
        have h := do_any (pl := pl.re V.heap.size 97) a b c ha5 hb5 hc5 EN.out N1 (M.out.old q) SVV.out
        unfold DoPost at h
        rw [hr] at h
        refine h.mono ?_
        rintro e W' ⟨rfl, L⟩
        exact ⟨rfl, Shp.Left.trans (pl1 := pl.re V.heap.size 97) ⟨rfl, rfl, rfl, rfl, rfl⟩ q.any L⟩
      have DO := Lib.hid DO
      have OTH := Lib.hid (fun (j d : Nat) (h : j ≠ c % nw) => (show rc j d = ca j d from by have := doW_other (P := P) (k := k) (live := live) (a := a) (b := b) (d := d) (ca := ca) h; rw [hr] at this; exact this))
      have FLU := Lib.hid (fun (d : Nat) (h : a % 16 = 14) (hd : d < 4) => (show rc (c % nw) d = [] from by have := doW_flush (P := P) (nw := nw) (k := k) (ca := ca) (live := live) (b := b) (c := c) h hd; rw [hr] at this; exact this))
      clear c1 c2 hr
      go_wp2_with fail
      refine wp_region_held_drew (S := (fun w' => w'.cell? ⟨g, o + i, none⟩ = some (.int .u8 (a : Int)) ∧ w'.cell? ⟨g, o + (i + 1), none⟩ = some (.int .u8 (b : Int)) ∧ w'.cell? ⟨g, o + (i + 2), none⟩ = some (.int .u8 (c : Int)))) (by kernel_rfl) ⟨d0, d1, d2⟩ (fun hHeld => ?_)
      refine wpAnyH_take (i := 0) (v := ptr s) rfl (by kernel_rfl) (by decide +kernel) (by decide +kernel) (fun _ _ _ h => h) (Or.inl ⟨by rfl, fun w' hSw => ?_⟩) hHeld ?_
      · (go_simp)
      simp only [Act.put, List.getElem_toArray, List.getElem_cons_zero, List.setIfInBounds_toArray, List.set_cons_zero, List.set_cons_succ]
      refine wpAnyH_take (i := 1) (v := .int .i64 (nw : Int)) rfl (by kernel_rfl) (by decide +kernel) (by decide +kernel) (fun _ _ _ h => h) (Or.inl ⟨by rfl, fun w' hSw => ?_⟩) hHeld ?_
      · (go_simp)
      simp only [Act.put, List.getElem_toArray, List.getElem_cons_succ, List.getElem_cons_zero, List.setIfInBounds_toArray, List.set_cons_zero, List.set_cons_succ]
      refine wpAnyH_take (i := 2) (v := .slice (some ⟨g, o, none⟩) len2 cap2) rfl (by kernel_rfl) (by decide +kernel) (by decide +kernel) (fun _ _ _ h => h) (Or.inl ⟨by rfl, fun w' hSw => ?_⟩) hHeld ?_
      · (go_simp)
      simp only [Act.put, List.getElem_toArray, List.getElem_cons_succ, List.getElem_cons_zero, List.setIfInBounds_toArray, List.set_cons_zero, List.set_cons_succ]
      refine wpAnyH_take (i := 3) (v := .int .i64 (i : Int)) rfl (by kernel_rfl) (by decide +kernel) (by decide +kernel) (fun _ _ _ h => h) (Or.inl ⟨by rfl, fun w' hSw => ?_⟩) hHeld ?_
      · (go_simp)
      simp only [Act.put, List.getElem_toArray, List.getElem_cons_succ, List.getElem_cons_zero, List.setIfInBounds_toArray, List.set_cons_zero, List.set_cons_succ]
      refine wpAnyH_take (i := 4) (v := .pointer (some ⟨g, o + i, none⟩)) rfl (by kernel_rfl) (by decide +kernel) (by decide +kernel) (fun _ _ _ h => h) (Or.inl ⟨by rfl, fun w' hSw => ?_⟩) hHeld ?_
      · (go_simp)
      simp only [Act.put, List.getElem_toArray, List.getElem_cons_succ, List.getElem_cons_zero, List.setIfInBounds_toArray, List.set_cons_zero, List.set_cons_succ]
      refine wpAnyH_take (i := 5) (v := .int .u8 (a : Int)) rfl (by kernel_rfl) (by decide +kernel) (by decide +kernel) (fun _ _ _ h => h) (Or.inl ⟨by rfl, fun w' hSw => ?_⟩) hHeld ?_
      · (go_simp)
      simp only [Act.put, List.getElem_toArray, List.getElem_cons_succ, List.getElem_cons_zero, List.setIfInBounds_toArray, List.set_cons_zero, List.set_cons_succ]
      refine wpAnyH_take (i := 6) (v := .slice (some ⟨g, o, none⟩) len2 cap2) rfl (by kernel_rfl) (by decide +kernel) (by decide +kernel) (fun _ _ _ h => h) (Or.inl ⟨by rfl, fun w' hSw => ?_⟩) hHeld ?_
      · (go_simp)
      simp only [Act.put, List.getElem_toArray, List.getElem_cons_succ, List.getElem_cons_zero, List.setIfInBounds_toArray, List.set_cons_zero, List.set_cons_succ]
      refine wpAnyH_take (i := 7) (v := .int .i64 (i : Int)) rfl (by kernel_rfl) (by decide +kernel) (by decide +kernel) (fun _ _ _ h => h) (Or.inl ⟨by rfl, fun w' hSw => ?_⟩) hHeld ?_
      · (go_simp)
      simp only [Act.put, List.getElem_toArray, List.getElem_cons_succ, List.getElem_cons_zero, List.setIfInBounds_toArray, List.set_cons_zero, List.set_cons_succ]
      refine wpAnyH_take (i := 8) (v := .int .i64 ((i : Int) + 1)) rfl (by kernel_rfl) (by decide +kernel) (by decide +kernel) (fun _ _ _ h => h) (Or.inl ⟨by rfl, fun w' hSw => ?_⟩) hHeld ?_
      · (go_simp)
      simp only [Act.put, List.getElem_toArray, List.getElem_cons_succ, List.getElem_cons_zero, List.setIfInBounds_toArray, List.set_cons_zero, List.set_cons_succ]
      refine wpAnyH_take (i := 9) (v := .pointer (some ⟨g, o + (i + 1), none⟩)) rfl (by kernel_rfl) (by decide +kernel) (by decide +kernel) (fun _ _ _ h => h) (Or.inl ⟨by rfl, fun w' hSw => ?_⟩) hHeld ?_
      · (go_simp)
      simp only [Act.put, List.getElem_toArray, List.getElem_cons_succ, List.getElem_cons_zero, List.setIfInBounds_toArray, List.set_cons_zero, List.set_cons_succ]
      refine wpAnyH_take (i := 10) (v := .int .u8 (b : Int)) rfl (by kernel_rfl) (by decide +kernel) (by decide +kernel) (fun _ _ _ h => h) (Or.inl ⟨by rfl, fun w' hSw => ?_⟩) hHeld ?_
      · (go_simp)
      simp only [Act.put, List.getElem_toArray, List.getElem_cons_succ, List.getElem_cons_zero, List.setIfInBounds_toArray, List.set_cons_zero, List.set_cons_succ]
      refine wpAnyH_take (i := 11) (v := .slice (some ⟨g, o, none⟩) len2 cap2) rfl (by kernel_rfl) (by decide +kernel) (by decide +kernel) (fun _ _ _ h => h) (Or.inl ⟨by rfl, fun w' hSw => ?_⟩) hHeld ?_
      · (go_simp)
      simp only [Act.put, List.getElem_toArray, List.getElem_cons_succ, List.getElem_cons_zero, List.setIfInBounds_toArray, List.set_cons_zero, List.set_cons_succ]
      refine wpAnyH_take (i := 12) (v := .int .i64 (i : Int)) rfl (by kernel_rfl) (by decide +kernel) (by decide +kernel) (fun _ _ _ h => h) (Or.inl ⟨by rfl, fun w' hSw => ?_⟩) hHeld ?_
      · (go_simp)
      simp only [Act.put, List.getElem_toArray, List.getElem_cons_succ, List.getElem_cons_zero, List.setIfInBounds_toArray, List.set_cons_zero, List.set_cons_succ]
      refine wpAnyH_take (i := 13) (v := .int .i64 ((i : Int) + 2)) rfl (by kernel_rfl) (by decide +kernel) (by decide +kernel) (fun _ _ _ h => h) (Or.inl ⟨by rfl, fun w' hSw => ?_⟩) hHeld ?_
      · (go_simp)
      simp only [Act.put, List.getElem_toArray, List.getElem_cons_succ, List.getElem_cons_zero, List.setIfInBounds_toArray, List.set_cons_zero, List.set_cons_succ]
      refine wpAnyH_take (i := 14) (v := .pointer (some ⟨g, o + (i + 2), none⟩)) rfl (by kernel_rfl) (by decide +kernel) (by decide +kernel) (fun _ _ _ h => h) (Or.inl ⟨by rfl, fun w' hSw => ?_⟩) hHeld ?_
      · (go_simp)
      simp only [Act.put, List.getElem_toArray, List.getElem_cons_succ, List.getElem_cons_zero, List.setIfInBounds_toArray, List.set_cons_zero, List.set_cons_succ]
      refine wpAnyH_take (i := 15) (v := .int .u8 (c : Int)) rfl (by kernel_rfl) (by decide +kernel) (by decide +kernel) (fun _ _ _ h => h) (Or.inl ⟨by rfl, fun w' hSw => ?_⟩) hHeld ?_
      · (go_simp)
      simp only [Act.put, List.getElem_toArray, List.getElem_cons_succ, List.getElem_cons_zero, List.setIfInBounds_toArray, List.set_cons_zero, List.set_cons_succ]
      refine wpAnyH_ready (rs := [16]) (by decide +kernel) (by simp) (AllReadyH.cons rfl (fun K hK => ?_) AllReadyH.nil)
      simp only [List.getElem_toArray, List.getElem_cons_succ, List.getElem_cons_zero]
      rw [if_pos (by rfl)]
      go_simp
      go_at_call 14
      refine (DO.out _ (Kept.refl Old V).drew).mono ?_
      rintro e V1 ⟨rfl, ⟨pl1, m1, e1⟩, f1⟩
      have CV := HC.out V1 m1.ff.kept
      have M1 := Lib.hid m1
      have EN1 := Lib.hid (e1.nw.trans EN.out)
      have f1 := Lib.hid f1
      clear m1 e1
      refine hK.out _ _ CV (fun hHeld => ?_)
      clear hK K CV
      refine wpAnyH_done (by decide +kernel) ?_ _
      have WA1 := Lib.hid (WAS.out.kept f1.out (fun b hb z => z hb))
      clear WAS f1
      obtain ⟨cw, hcw, hcw2⟩ : ∃ cw, c % nw = cw ∧ cw < nw := ⟨_, rfl, Nat.mod_lt _ N1⟩
      have hwi : (c : Int) % (nw : Int) = (cw : Int) := by omega
      have nz : ¬ (nw : Int) = 0 := by omega
      rw [hcw] at FLU
      simp only [hcw] at OTH
      go_wp2_with fail
      have W00 := Lib.hid (WA1.out.congr (g := wf ca rc (0 * 4)) (fun i _ => by rw [Nat.zero_mul, wf_0]))
      go_loopw [12] (fun s12 wr => ∃ (j : Nat) (pl : Shp.Pl) (vs : List Value), j ≤ nw ∧ s12 = .int .i64 (j : Int) ∧ Hid (Shp.StM w wr s P rk rc rl (FW x vs) pl) ∧ Hid (pl.nw = nw) ∧ Hid (Was w wr x vs (wf ca rc (j * 4)))) (fun s12 _ => nw + 1 - (intOf s12).toNat)
      case atStart => exact ⟨0, _, _, Nat.zero_le _, rfl, M1, EN1, W00⟩
      case round =>
      clear M1 EN1 W00 WA1
      obtain ⟨j, pl2, vs2, hj, rfl, M2, EN2, WA2⟩ := hrel
      rename World => V2
      have wj : IntKind.i64.wrap ((j : Int) + 1) = (j : Int) + 1 := IntWalk.i64_in _ (by omega)
      by_cases cj : j < nw
      · have cj' : (j : Int) < (nw : Int) := by omega
        have cj6 : (j : Int) < 6 := by omega
        have cj0 : ¬ (j : Int) < 0 := by omega
        go_wp2_with fail
        have W00 := Lib.hid (WA2.out.congr (g := wf ca rc (j * 4 + 0)) (fun i _ => rfl))
        go_loopw [13] (fun s13 wr => ∃ (d : Nat) (pl : Shp.Pl) (vs : List Value), d ≤ 4 ∧ s13 = .int .i64 (d : Int) ∧ Hid (Shp.StM w wr s P rk rc rl (FW x vs) pl) ∧ Hid (pl.nw = nw) ∧ Hid (Was w wr x vs (wf ca rc (j * 4 + d)))) (fun s13 _ => 5 - (intOf s13).toNat)
        case atStart => exact ⟨0, _, _, Nat.zero_le _, rfl, M2, EN2, W00⟩
        case round =>
          clear M2 EN2 W00 WA2
          obtain ⟨d, pl3, vs3, hd, rfl, M3, EN3, WA3⟩ := hrel
          rename World => U
          have wd : IntKind.i64.wrap ((d : Int) + 1) = (d : Int) + 1 := IntWalk.i64_in _ (by omega)
          by_cases cd : d < 4
          · have cd' : (d : Int) < 4 := by omega
            have cd0 : ¬ (d : Int) < 0 := by omega
            have hx3 := Lib.hid WA3.out.box.lt
            go_wp2_with fail
            refine (cached_at (c := d) cj EN3.out M3.out SV.out.1).mono ?_
            rintro e U2 ⟨v, rfl, MD⟩
            have MD' := Lib.hid MD
            obtain ⟨A2, n2, c2, rfl, R2, _, _, kc⟩ := MD
            have hcap := SV.out.1.cap j d cd
            have hbat : 2 * batN d ≤ 8 := by unfold batN; omega
            have ln2 := R2.lenN
            have R2 := Lib.hid R2
            have kc := Lib.hid kc
            have KC := Lib.hid (fun X => rcap_any (d : Int) X)
            have ecap := cap_i cd
            have c9 := Lib.hid (HC.out U2 (M3.out.old kc.out).ff.kept)
            have d0 := c9.out.1
            have d1 := c9.out.2.1
            have d2 := c9.out.2.2
            clear c9
            have WB := Lib.hid (WA3.out.old kc.out)
            have hj4 : j * 4 + d < 24 := by omega
            have dv : (j * 4 + d) / 4 = j := by omega
            have dm : (j * 4 + d) % 4 = d := by omega
            obtain ⟨B2, m2, e2, ev, RB, _⟩ := WB.out.rd (j * 4 + d) hj4
            rw [wf_old, dv, dm] at RB
            have RB := Lib.hid RB
            have y := (WB.out.box.cell (j * 4 + d)).trans ev
            have yf := WB.out.box.frozen (j * 4 + d)
            have EV := Lib.hid ev
            clear ev
            have gtf : ¬ (capI (d : Int)) < (n2 : Int) := by rw [ecap]; omega
            by_cases ej : j = cw
            · subst ej
              by_cases ea : a % 16 = 14
              · have n20 : n2 = 0 := by have := FLU.out d ea cd; rw [this] at ln2; exact ln2.symm
                subst n20
                have ea' : (a : Int) % 16 = 14 := by omega
                go_wp2_with fail
                refine (KC.out _).mono ?_
                rintro e w' ⟨rfl, rfl⟩
                have Z := Lib.hid (fun Z (hZ : U2.setCell ⟨x, j * 4 + d, none⟩ (.slice A2 0 c2) = Z) => M3.out.was MD'.out WB.out.low hZ)
                have WZ := Lib.hid (WB.out.put (g := wf ca rc (j * 4 + (d + 1))) (j := j * 4 + d) (A := A2) (n := 0) (c := c2) hj4 (by rw [show j * 4 + (d + 1) = j * 4 + d + 1 from rfl, wf_at, dv, dm]; exact R2.out) (fun b fb => by have := made_fv MD'.out ⟨_, _, _, rfl, fb⟩; have := hx3.out; omega) (fun i _ q => wf_next ca rc q))
                go_wp2_with fail
                obtain ⟨pl4, m4, e4⟩ := Z.out _ rfl
                exact ⟨⟨d + 1, pl4, _, by omega, by go_num, Lib.hid m4, Lib.hid (e4.trans EN3.out), WZ⟩, by simp [intOf]; omega⟩
              · have ea' : ((a : Int) % 16 == 14) = false := by simp; omega
                go_wp2_with fail
                refine (KC.out _).mono ?_
                rintro e w' ⟨rfl, rfl⟩
                have Z := Lib.hid (fun Z (hZ : U2.setCell ⟨x, j * 4 + d, none⟩ (.slice A2 n2 c2) = Z) => M3.out.was MD'.out WB.out.low hZ)
                have WZ := Lib.hid (WB.out.put (g := wf ca rc (j * 4 + (d + 1))) (j := j * 4 + d) (A := A2) (n := n2) (c := c2) hj4 (by rw [show j * 4 + (d + 1) = j * 4 + d + 1 from rfl, wf_at, dv, dm]; exact R2.out) (fun b fb => by have := made_fv MD'.out ⟨_, _, _, rfl, fb⟩; have := hx3.out; omega) (fun i _ q => wf_next ca rc q))
                go_wp2_with fail
                obtain ⟨pl4, m4, e4⟩ := Z.out _ rfl
                exact ⟨⟨d + 1, pl4, _, by omega, by go_num, Lib.hid m4, Lib.hid (e4.trans EN3.out), WZ⟩, by simp [intOf]; omega⟩
            · have oj := OTH.out j d ej
              obtain rfl : m2 = n2 := by have := RB.out.lenN; rw [← oj] at this; omega
              have SI := Lib.hid (sameInts_any A2 B2 m2 c2 e2 _ U2 R2.out (by rw [oj]; exact RB.out) (by omega))
              have ej' : ¬ (j : Int) = (cw : Int) := by omega
              by_cases ea : a % 16 = 14
              · have ea' : (a : Int) % 16 = 14 := by omega
                go_wp2_with fail
                refine (KC.out _).mono ?_
                rintro e w' ⟨rfl, rfl⟩
                go_wp2_with fail
                refine SI.out.mono ?_
                rintro e U3 ⟨rfl, ks⟩
                have MD3 := Lib.hid (show MadeI (NI (rc j d)) U (.slice A2 m2 c2) U3 from by obtain ⟨A9, n9, c9, e9, r9, h9, h8, k9⟩ := MD'.out; exact ⟨A9, n9, c9, e9, r9.old ks, h9, h8, k9.trans ks⟩)
                have R3 := Lib.hid (R2.out.old ks)
                have WC := Lib.hid (WB.out.old ks)
                have c9 := Lib.hid (HC.out U3 (M3.out.old (kc.out.trans ks)).ff.kept)
                clear d0 d1 d2 y yf MD' R2 WB SI ks
                have d0 := c9.out.1
                have d1 := c9.out.2.1
                have d2 := c9.out.2.2
                clear c9
                have y := (WC.out.box.cell (j * 4 + d)).trans EV.out
                have yf := WC.out.box.frozen (j * 4 + d)
                have Z := Lib.hid (fun Z (hZ : U3.setCell ⟨x, j * 4 + d, none⟩ (.slice A2 m2 c2) = Z) => M3.out.was MD3.out WC.out.low hZ)
                have WZ := Lib.hid (WC.out.put (g := wf ca rc (j * 4 + (d + 1))) (j := j * 4 + d) (A := A2) (n := m2) (c := c2) hj4 (by rw [show j * 4 + (d + 1) = j * 4 + d + 1 from rfl, wf_at, dv, dm]; exact R3.out) (fun b fb => by have := made_fv MD3.out ⟨_, _, _, rfl, fb⟩; have := hx3.out; omega) (fun i _ q => wf_next ca rc q))
                go_wp2_with fail
                obtain ⟨pl4, m4, e4⟩ := Z.out _ rfl
                exact ⟨⟨d + 1, pl4, _, by omega, by go_num, Lib.hid m4, Lib.hid (e4.trans EN3.out), WZ⟩, by simp [intOf]; omega⟩
              · have ea' : ((a : Int) % 16 == 14) = false := by simp; omega
                go_wp2_with fail
                refine (KC.out _).mono ?_
                rintro e w' ⟨rfl, rfl⟩
                go_wp2_with fail
                refine SI.out.mono ?_
                rintro e U3 ⟨rfl, ks⟩
                have MD3 := Lib.hid (show MadeI (NI (rc j d)) U (.slice A2 m2 c2) U3 from by obtain ⟨A9, n9, c9, e9, r9, h9, h8, k9⟩ := MD'.out; exact ⟨A9, n9, c9, e9, r9.old ks, h9, h8, k9.trans ks⟩)
                have R3 := Lib.hid (R2.out.old ks)
                have WC := Lib.hid (WB.out.old ks)
                have c9 := Lib.hid (HC.out U3 (M3.out.old (kc.out.trans ks)).ff.kept)
                clear d0 d1 d2 y yf MD' R2 WB SI ks
                have d0 := c9.out.1
                have d1 := c9.out.2.1
                have d2 := c9.out.2.2
                clear c9
                have y := (WC.out.box.cell (j * 4 + d)).trans EV.out
                have yf := WC.out.box.frozen (j * 4 + d)
                have Z := Lib.hid (fun Z (hZ : U3.setCell ⟨x, j * 4 + d, none⟩ (.slice A2 m2 c2) = Z) => M3.out.was MD3.out WC.out.low hZ)
                have WZ := Lib.hid (WC.out.put (g := wf ca rc (j * 4 + (d + 1))) (j := j * 4 + d) (A := A2) (n := m2) (c := c2) hj4 (by rw [show j * 4 + (d + 1) = j * 4 + d + 1 from rfl, wf_at, dv, dm]; exact R3.out) (fun b fb => by have := made_fv MD3.out ⟨_, _, _, rfl, fb⟩; have := hx3.out; omega) (fun i _ q => wf_next ca rc q))
                go_wp2_with fail
                obtain ⟨pl4, m4, e4⟩ := Z.out _ rfl
                exact ⟨⟨d + 1, pl4, _, by omega, by go_num, Lib.hid m4, Lib.hid (e4.trans EN3.out), WZ⟩, by simp [intOf]; omega⟩
          · have cd' : ¬ (d : Int) < 4 := by omega
            obtain rfl : d = 4 := by omega
            go_wp2_with fail
            exact ⟨⟨j + 1, pl3, vs3, by omega, by go_num, M3, EN3, Lib.hid (WA3.out.congr (fun i _ => by rw [show j * 4 + 4 = (j + 1) * 4 by omega]))⟩, by simp [intOf]; omega⟩
      · have cj' : ¬ (j : Int) < (nw : Int) := by omega
        obtain rfl : j = nw := by omega
        go_wp2_with fail
        exact ⟨⟨i + 3, rk, rc, rl, pl2, vs2, by omega, by go_num, M2, EN2, Lib.hid SV.out.1, Lib.hid (WA2.out.congr (fun i h24 => by
          unfold wf
          by_cases q : i < j * 4
          · rw [if_pos q]
          · rw [if_neg q, SVV.out.non _ _ (.inl (by omega)), SV.out.1.non _ _ (.inl (by omega))]))⟩, by simp [intOf]; omega⟩
    · have ways : ¬ (i : Int) + 2 < (len2 : Int) ∨ ((i : Int) + 2 < (len2 : Int) ∧ ¬ (i : Int) < 240) := by omega
      clear cc
      rcases ways with h1 | ⟨h1, h2⟩
      all_goals
        go_wp2_with fail
        refine (Shp.awake_any _).mono ?_
        rintro e W2 ⟨rfl, k2⟩
        have KE := Lib.hid (M.out.ff.kept.trans k2)
        clear k2
        go_wp2_with fail
        go_ret
        exact ⟨rfl, KE.out⟩

/-- The row's step. -/
theorem lifted (os : Os) (started : os.Started) (H : Type) (enc : TypeId × Value → H) :
    ReturnsInHanded {} Tryz.checked os 7 .any (Rows.shopCapsSpec.pre6 enc Tryz.prog Tryz.f7 Rows.shopCapsRow.domain false) (Rows.shopCapsSpec.post enc Tryz.prog Tryz.f7 false true false false) := by
  refine returnsInHanded_of_change_sized (C := Tryz.checked) own started (by kernel_rfl) Tryz.func7
    (ChangeSpec.witness6 (enc := enc) (C := Tryz.checked) false ⟨#[], #[.int .u8 0, .int .u8 0, .slice none 0 0], []⟩ 8 (by kernel_rfl) (by kernel_rfl) (by kernel_rfl) (by kernel_rfl)) ?_
  intro W base args ds gs before hval0 hW hcnd hsz0 _
  have hsz : (DataW.weightsEach Tryz.prog (Tryz.f7.params.toList ++ Rows.shopCapsSpec.plain.varTypes Tryz.prog) (ds ++ gs)).all (· ≤ reachBytes) = true := hsz0
  have hval : ∀ (j : Nat) t v, Tryz.f7.params[j]? = some t → args[j]? = some v → Value.okWide Tryz.prog W .any base t v := hval0
  have hW' := hW
  obtain ⟨p, q, hA0, hV, rfl, hfz, hnd⟩ := hW
  have hA : DataW.TrodAll enc Tryz.prog W 0 (fun _ => true) true Tryz.f7.params.toList args.toList ds p := hA0
  rw [Tryz.params7] at hA hval hsz
  obtain ⟨v0, vs0, d0, ds0, p0, q0, hargs, rfl, rfl, h0, r0⟩ := trodAll_cons hA
  obtain ⟨v1, vs1, d1, ds1, p1, q1, rfl, rfl, rfl, h1, r1⟩ := trodAll_cons r0
  obtain ⟨v2, vs2, d2, ds2, p2, q2, rfl, rfl, rfl, h2, r2⟩ := trodAll_cons r1
  obtain ⟨rfl, rfl, rfl⟩ := trodAll_nil r2
  obtain rfl : args = #[v0, v1, v2] := by cases args; simp_all
  obtain ⟨rfl, rfl⟩ := trodVars_none hV
  obtain ⟨a0, rfl, rfl, rfl, w0⟩ := open_int Tryz.underlying5 (hval 0 5 v0 rfl rfl) h0
  obtain ⟨a1, rfl, rfl, rfl, w1⟩ := open_int Tryz.underlying5 (hval 1 5 v1 rfl rfl) h1
  have k2 := h2
  have lt2 : ∀ x ∈ p2, x.block < W.heap.size := by obtain ⟨m, hm⟩ := k2; exact DataW.trod_lt m _ _ _ hm
  obtain ⟨a2, len2, cap2, rfl⟩ := okWide_slice Tryz.underlying22 (hval 2 22 v2 rfl rfl)
  obtain ⟨z2, w2⟩ := ints_in Tryz.underlying22 Tryz.underlying5 (by kernel_rfl) h2
  have rch2 := slice_reach (j := 2) Tryz.underlying22 (show Tryz.prog.bytesOf 5 = 1 by kernel_rfl) k2 hsz rfl rfl
  clear hA0 hval0
  refine (walk a0 a1 a2 len2 cap2 z2 W w0 w1 w2 rch2).mono fun e W' ⟨he, kept⟩ => ?_
  subst he
  have bel : Below W.heap.size W W' := kept.toBelow (Nat.le_refl _) (fun _ x => x.elim)
  exact ⟨_, rfl, _, _, _, [], _, [], hW', trodAll_mk1 (shut_bool Tryz.underlying4 _), (trodAll_cons_mk (shut_int Tryz.underlying5 w0) (trodAll_cons_mk (shut_int Tryz.underlying5 w1) (trodAll_cons_mk (Below.trod laidOut (by kernel_rfl) (of_decide_eq_true (by kernel_rfl)) k2 bel lt2) trodAll_mk0))), rfl, bel.frame _, fun h => by cases h⟩

theorem over : Rows.ShopCapsSaid :=
  OpenClaim.holds_of_wide 7 Tryz.f7 rfl rfl rfl rfl rfl rfl rfl ⟨rfl, rfl, rfl, rfl, rfl⟩ rfl rfl rfl rfl rfl (by kernel_rfl) Tryz.func7 (by kernel_rfl)
    (of_decide_eq_true (by kernel_rfl)) (by unfold Func.isWrapper; first | (rw [if_pos (by decide +kernel)]; kernel_rfl) | (rw [if_neg (by decide +kernel)]; exact ⟨rfl, rfl⟩))
    (fun os started H enc _ => lifted os started H enc)

/-- The statement. -/
theorem proved : Rows.ShopCapsSaid := over
#print axioms proved
end Go.Proofs.YtcndilpaijapkaaGreat.shopCaps
