/-
  For every input the law ShopWhole of rickyard/rickyardlaw15 returns true, and its arguments read afterwards as before. The law's own sentence: At any time each word is in just one free run, free stack of a pool, cached one, large one that waits, span that is kept back, or live stack. No further conditions.
-/
import Derived.Test.YtcndilpaijapkaaGreatRows
import Derived.SizedLaws
import Derived.WalkKit
import Derived.ProofKit
import Derived.OpenShut
import Derived.ChangeOld
import Derived.Below
import Derived.Lib.SmallJoins
import Derived.Test.YtcndilpaijapkaaGreatJBase
import Derived.Test.YtcndilpaijapkaaGreatJShpCov
import Derived.Test.YtcndilpaijapkaaGreatJShpD
namespace Go.Proofs.YtcndilpaijapkaaGreat.shopWhole
open Go.ChangeShapes Go.WideShapes Go.ChangeAt Go.RowKit
set_option linter.unusedVariables false
set_option maxRecDepth 100000

theorem own : ownKnob Tryz.prog.godebug = none := by kernel_rfl
theorem laidOut : laidOutB Tryz.prog = true := by kernel_rfl
open Sto
open Shp

set_option maxHeartbeats 4000000 in
/-- The walk: the Go text returns true, and nothing that was there has turned. -/
theorem walk (a0 : Int) (a1 : Int) (a2 : Option Addr) (len2 cap2 : Nat) (z2 : Nat → Int) (w : World) (w0 : (Lit.int .u8 a0).wf = true) (w1 : (Lit.int .u8 a1).wf = true) (w2 : len2 ≤ cap2 ∧ cap2 ≤ maxLen ∧ (∀ i, i < len2 → (Lit.int .u8 (z2 i)).wf = true) ∧ Sl w a2 1 len2 fun i _ => .int .u8 (z2 i)) (rch2 : cap2 * 1 ≤ 140737488351232 ∧ (a2 = none → len2 = 0 ∧ cap2 = 0)) :
    Calls Tryz.prog 5 #[.int .u8 a0, .int .u8 a1, .slice a2 len2 cap2] w fun e w' => e = .returned (.bool true) ∧ Kept Old w w' := by
  obtain ⟨v0, v1, v2, v3⟩ := w2
  have hl : len2 ≤ 9223372036854775807 := by unfold maxLen at v1; omega
  have hz := Lib.hid (show ∀ i, i < len2 → 0 ≤ z2 i ∧ z2 i ≤ 255 from fun i hi => bounds_u8 (v2 i hi))
  have HS := Lib.hid v3
  obtain ⟨p1, p2⟩ := bounds_u8 w0
  obtain ⟨p3, p4⟩ := bounds_u8 w1
  obtain ⟨u, rfl⟩ : ∃ u : Nat, a0 = (u : Int) := ⟨a0.toNat, by omega⟩
  obtain ⟨x, rfl⟩ : ∃ x : Nat, a1 = (x : Int) := ⟨a1.toNat, by omega⟩
  obtain ⟨P, hP, P1, P2⟩ : ∃ P : Nat, 1 + (u : Int) = (P : Int) ∧ 1 ≤ P ∧ P ≤ 256 := ⟨1 + u, by omega, by omega, by omega⟩
  obtain ⟨nw, hnw, N1, N2⟩ : ∃ nw : Nat, 1 + (x : Int) % 6 = (nw : Int) ∧ 1 ≤ nw ∧ nw ≤ 6 := ⟨1 + x % 6, by omega, by omega, by omega⟩
  have NS := Lib.hid (snew_yes w P nw NoB w P1 P2 N1 (by omega) (Kept.refl Old w) (fun _ h => h.elim))
  have V0 := Lib.hid (show Sq P nw (K0 P) (fun _ _ => []) [] from Sq.new (P := P) P1 P2 nw)
  clear v0 v1 v2 v3 w0 w1
  go_enter Tryz.func5, Tryz.ntmps5
  go_wp2_with fail
  refine NS.out.mono ?_
  rintro e W1 ⟨s, rfl, ⟨pl, en, m⟩, k1, _⟩
  have M0 := Lib.hid m
  have EN0 := Lib.hid en
  clear m en k1 NS
  go_wp2_with fail
  go_loopw [10] (fun s10 wr => ∃ (i : Nat) (k : Sto.K) (ca : Ca) (live : List Lm.S) (pl : Shp.Pl), i ≤ 243 ∧ s10 = .int .i64 (i : Int) ∧ Hid (Shp.StM w wr s P k ca live NoB pl) ∧ Hid (pl.nw = nw) ∧ Hid (Sq P nw k ca live)) (fun s10 _ => 244 - (intOf s10).toNat)
  case atStart => exact ⟨0, _, _, _, _, by omega, rfl, M0, EN0, V0⟩
  case round =>
    clear M0 V0 EN0
    obtain ⟨i, k, ca, live, pl, hi, rfl, M, EN, SVV⟩ := hrel
    rename World => V
    have wi : IntKind.i64.wrap ((i : Int) + 1) = (i : Int) + 1 := IntWalk.i64_in _ (by omega)
    have wi2 : IntKind.i64.wrap ((i : Int) + 2) = (i : Int) + 2 := IntWalk.i64_in _ (by omega)
    have wi3 : IntKind.i64.wrap ((i : Int) + 3) = (i : Int) + 3 := IntWalk.i64_in _ (by omega)
    by_cases cc : i + 2 < len2 ∧ i < 240
    · obtain ⟨cq1, cq2⟩ := cc
      have ci2 : (i : Int) < 240 := by omega
      have ci : (i : Int) + 2 < (len2 : Int) := by omega
      have ci1 : (i : Int) + 1 < (len2 : Int) := by omega
      have ci0 : (i : Int) < (len2 : Int) := by omega
      have ci3 : ¬ (i : Int) + 1 < 0 := by omega
      have ci4 : ¬ (i : Int) < 0 := by omega
      have ci5 : ¬ (i : Int) + 2 < 0 := by omega
      obtain ⟨g, o, rfl, hg, hc⟩ := (HS.out.old M.out.ff.kept).lies (by omega)
      have d0 := hc i 0 (by omega) (by omega)
      have d1 := hc (i + 1) 0 (by omega) (by omega)
      have d2 := hc (i + 2) 0 (by omega) (by omega)
      simp only [Nat.mul_one, Nat.add_zero] at d0 d1 d2
      obtain ⟨q0, q1⟩ := hz.out i (by omega)
      obtain ⟨q2, q3⟩ := hz.out (i + 1) (by omega)
      obtain ⟨q4, q5⟩ := hz.out (i + 2) (by omega)
      obtain ⟨a, ha, ha5⟩ : ∃ a : Nat, z2 i = (a : Int) ∧ a ≤ 255 := ⟨(z2 i).toNat, by omega, by omega⟩
      obtain ⟨b, hb, hb5⟩ : ∃ b : Nat, z2 (i + 1) = (b : Int) ∧ b ≤ 255 := ⟨(z2 (i + 1)).toNat, by omega, by omega⟩
      obtain ⟨c, hcc, hc5⟩ : ∃ c : Nat, z2 (i + 2) = (c : Int) ∧ c ≤ 255 := ⟨(z2 (i + 2)).toNat, by omega, by omega⟩
      rw [ha] at d0
      rw [hb] at d1
      rw [hcc] at d2
      have HC := Lib.hid (fun X (q : Kept Old w X) => (show X.cell? ⟨g, o + i, none⟩ = some (.int .u8 (a : Int)) ∧ X.cell? ⟨g, o + (i + 1), none⟩ = some (.int .u8 (b : Int)) ∧ X.cell? ⟨g, o + (i + 2), none⟩ = some (.int .u8 (c : Int)) from by
        obtain ⟨g2, o2, e2, hg2, hc2⟩ := (HS.out.old q).lies (by omega)
        injection e2 with e2
        injection e2 with e3 e4
        subst e3
        subst e4
        have x0 := hc2 i 0 (by omega) (by omega)
        have x1 := hc2 (i + 1) 0 (by omega) (by omega)
        have x2 := hc2 (i + 2) 0 (by omega) (by omega)
        simp only [Nat.mul_one, Nat.add_zero] at x0 x1 x2
        rw [ha] at x0
        rw [hb] at x1
        rw [hcc] at x2
        exact ⟨x0, x1, x2⟩))
      clear hc q0 q1 q2 q3 q4 q5 ha hb hcc
      obtain ⟨rk, rc, rl, rd, hr⟩ : ∃ rk rc rl rd, doW P nw k ca live a b c = (rk, rc, rl, rd) := ⟨_, _, _, _, rfl⟩
      have SV := Lib.hid (SVV.out.doW N1 a b c)
      rw [hr] at SV
      have DO : ∀ X, Kept Old V X → Calls Tryz.prog 14 #[ptr s, .int .i64 (nw : Int), .int .u8 (a : Int), .int .u8 (b : Int), .int .u8 (c : Int)] X fun e W' => e = .returned (deedV rd) ∧ Shp.Left w V W' s P rk rc rl (NoB) pl := fun X q => by
        have h := do_any (pl := pl.re V.heap.size 97) a b c ha5 hb5 hc5 EN.out N1 (M.out.old q) SVV.out
        unfold DoPost at h
        rw [hr] at h
        refine h.mono ?_
        rintro e W' ⟨rfl, L⟩
        exact ⟨rfl, Shp.Left.trans (pl1 := pl.re V.heap.size 97) ⟨rfl, rfl, rfl, rfl, rfl⟩ q.any L⟩
      have DO := Lib.hid DO
      clear cq1 cq2 hr
      go_wp2_with fail
      refine wp_region_held_drew (S := (fun w' => w'.cell? ⟨g, o + i, none⟩ = some (.int .u8 (a : Int)) ∧ w'.cell? ⟨g, o + (i + 1), none⟩ = some (.int .u8 (b : Int)) ∧ w'.cell? ⟨g, o + (i + 2), none⟩ = some (.int .u8 (c : Int)))) (by kernel_rfl) ⟨d0, d1, d2⟩ (fun hHeld => ?_)
      refine wpAnyH_take (i := 0) (v := ptr s) rfl (by kernel_rfl) (by decide +kernel) (by decide +kernel) (fun _ _ _ h => h) (Or.inl ⟨by rfl, fun w' hSw => ?_⟩) hHeld ?_
      · (go_simp)
      simp only [Act.put, List.getElem_toArray, List.getElem_cons_zero, List.setIfInBounds_toArray, List.set_cons_zero, List.set_cons_succ]
      refine wpAnyH_take (i := 1) (v := .int .i64 (nw : Int)) rfl (by kernel_rfl) (by decide +kernel) (by decide +kernel) (fun _ _ _ h => h) (Or.inl ⟨by rfl, fun w' hSw => ?_⟩) hHeld ?_
      · (go_simp)
      simp only [Act.put, List.getElem_toArray, List.getElem_cons_succ, List.getElem_cons_zero, List.setIfInBounds_toArray, List.set_cons_zero, List.set_cons_succ]
      refine wpAnyH_take (i := 2) (v := .slice (some ⟨g, o, none⟩) len2 cap2) rfl (by kernel_rfl) (by decide +kernel) (by decide +kernel) (fun _ _ _ h => h) (Or.inl ⟨by rfl, fun w' hSw => ?_⟩) hHeld ?_
      · (go_simp)
      simp only [Act.put, List.getElem_toArray, List.getElem_cons_succ, List.getElem_cons_zero, List.setIfInBounds_toArray, List.set_cons_zero, List.set_cons_succ]
      refine wpAnyH_take (i := 3) (v := .int .i64 (i : Int)) rfl (by kernel_rfl) (by decide +kernel) (by decide +kernel) (fun _ _ _ h => h) (Or.inl ⟨by rfl, fun w' hSw => ?_⟩) hHeld ?_
      · (go_simp)
      simp only [Act.put, List.getElem_toArray, List.getElem_cons_succ, List.getElem_cons_zero, List.setIfInBounds_toArray, List.set_cons_zero, List.set_cons_succ]
      refine wpAnyH_take (i := 4) (v := .pointer (some ⟨g, o + i, none⟩)) rfl (by kernel_rfl) (by decide +kernel) (by decide +kernel) (fun _ _ _ h => h) (Or.inl ⟨by rfl, fun w' hSw => ?_⟩) hHeld ?_
      · (go_simp)
      simp only [Act.put, List.getElem_toArray, List.getElem_cons_succ, List.getElem_cons_zero, List.setIfInBounds_toArray, List.set_cons_zero, List.set_cons_succ]
      refine wpAnyH_take (i := 5) (v := .int .u8 (a : Int)) rfl (by kernel_rfl) (by decide +kernel) (by decide +kernel) (fun _ _ _ h => h) (Or.inl ⟨by rfl, fun w' hSw => ?_⟩) hHeld ?_
      · (go_simp)
      simp only [Act.put, List.getElem_toArray, List.getElem_cons_succ, List.getElem_cons_zero, List.setIfInBounds_toArray, List.set_cons_zero, List.set_cons_succ]
      refine wpAnyH_take (i := 6) (v := .slice (some ⟨g, o, none⟩) len2 cap2) rfl (by kernel_rfl) (by decide +kernel) (by decide +kernel) (fun _ _ _ h => h) (Or.inl ⟨by rfl, fun w' hSw => ?_⟩) hHeld ?_
      · (go_simp)
      simp only [Act.put, List.getElem_toArray, List.getElem_cons_succ, List.getElem_cons_zero, List.setIfInBounds_toArray, List.set_cons_zero, List.set_cons_succ]
      refine wpAnyH_take (i := 7) (v := .int .i64 (i : Int)) rfl (by kernel_rfl) (by decide +kernel) (by decide +kernel) (fun _ _ _ h => h) (Or.inl ⟨by rfl, fun w' hSw => ?_⟩) hHeld ?_
      · (go_simp)
      simp only [Act.put, List.getElem_toArray, List.getElem_cons_succ, List.getElem_cons_zero, List.setIfInBounds_toArray, List.set_cons_zero, List.set_cons_succ]
      refine wpAnyH_take (i := 8) (v := .int .i64 ((i : Int) + 1)) rfl (by kernel_rfl) (by decide +kernel) (by decide +kernel) (fun _ _ _ h => h) (Or.inl ⟨by rfl, fun w' hSw => ?_⟩) hHeld ?_
      · (go_simp)
      simp only [Act.put, List.getElem_toArray, List.getElem_cons_succ, List.getElem_cons_zero, List.setIfInBounds_toArray, List.set_cons_zero, List.set_cons_succ]
      refine wpAnyH_take (i := 9) (v := .pointer (some ⟨g, o + (i + 1), none⟩)) rfl (by kernel_rfl) (by decide +kernel) (by decide +kernel) (fun _ _ _ h => h) (Or.inl ⟨by rfl, fun w' hSw => ?_⟩) hHeld ?_
      · (go_simp)
      simp only [Act.put, List.getElem_toArray, List.getElem_cons_succ, List.getElem_cons_zero, List.setIfInBounds_toArray, List.set_cons_zero, List.set_cons_succ]
      refine wpAnyH_take (i := 10) (v := .int .u8 (b : Int)) rfl (by kernel_rfl) (by decide +kernel) (by decide +kernel) (fun _ _ _ h => h) (Or.inl ⟨by rfl, fun w' hSw => ?_⟩) hHeld ?_
      · (go_simp)
      simp only [Act.put, List.getElem_toArray, List.getElem_cons_succ, List.getElem_cons_zero, List.setIfInBounds_toArray, List.set_cons_zero, List.set_cons_succ]
      refine wpAnyH_take (i := 11) (v := .slice (some ⟨g, o, none⟩) len2 cap2) rfl (by kernel_rfl) (by decide +kernel) (by decide +kernel) (fun _ _ _ h => h) (Or.inl ⟨by rfl, fun w' hSw => ?_⟩) hHeld ?_
      · (go_simp)
      simp only [Act.put, List.getElem_toArray, List.getElem_cons_succ, List.getElem_cons_zero, List.setIfInBounds_toArray, List.set_cons_zero, List.set_cons_succ]
      refine wpAnyH_take (i := 12) (v := .int .i64 (i : Int)) rfl (by kernel_rfl) (by decide +kernel) (by decide +kernel) (fun _ _ _ h => h) (Or.inl ⟨by rfl, fun w' hSw => ?_⟩) hHeld ?_
      · (go_simp)
      simp only [Act.put, List.getElem_toArray, List.getElem_cons_succ, List.getElem_cons_zero, List.setIfInBounds_toArray, List.set_cons_zero, List.set_cons_succ]
      refine wpAnyH_take (i := 13) (v := .int .i64 ((i : Int) + 2)) rfl (by kernel_rfl) (by decide +kernel) (by decide +kernel) (fun _ _ _ h => h) (Or.inl ⟨by rfl, fun w' hSw => ?_⟩) hHeld ?_
      · (go_simp)
      simp only [Act.put, List.getElem_toArray, List.getElem_cons_succ, List.getElem_cons_zero, List.setIfInBounds_toArray, List.set_cons_zero, List.set_cons_succ]
      refine wpAnyH_take (i := 14) (v := .pointer (some ⟨g, o + (i + 2), none⟩)) rfl (by kernel_rfl) (by decide +kernel) (by decide +kernel) (fun _ _ _ h => h) (Or.inl ⟨by rfl, fun w' hSw => ?_⟩) hHeld ?_
      · (go_simp)
      simp only [Act.put, List.getElem_toArray, List.getElem_cons_succ, List.getElem_cons_zero, List.setIfInBounds_toArray, List.set_cons_zero, List.set_cons_succ]
      refine wpAnyH_take (i := 15) (v := .int .u8 (c : Int)) rfl (by kernel_rfl) (by decide +kernel) (by decide +kernel) (fun _ _ _ h => h) (Or.inl ⟨by rfl, fun w' hSw => ?_⟩) hHeld ?_
      · (go_simp)
      simp only [Act.put, List.getElem_toArray, List.getElem_cons_succ, List.getElem_cons_zero, List.setIfInBounds_toArray, List.set_cons_zero, List.set_cons_succ]
      refine wpAnyH_ready (rs := [16]) (by decide +kernel) (by simp) (AllReadyH.cons rfl (fun K hK => ?_) AllReadyH.nil)
      simp only [List.getElem_toArray, List.getElem_cons_succ, List.getElem_cons_zero]
      rw [if_pos (by rfl)]
      go_simp
      go_at_call 14
      refine (DO.out _ (Kept.refl Old V).drew).mono ?_
      rintro e V1 ⟨rfl, ⟨pl1, m1, e1⟩, f1⟩
      have CV := HC.out V1 m1.ff.kept
      have M1 := Lib.hid m1
      have EN1 := Lib.hid (e1.nw.trans EN.out)
      have f1 := Lib.hid f1
      clear m1 e1
      refine hK.out _ _ CV (fun hHeld => ?_)
      clear hK K CV
      refine wpAnyH_done (by decide +kernel) ?_ _
      clear DO HC d0 d1 d2
      go_wp2_with fail
      refine (sparts_any EN1.out N2 M1.out SV.out.1).mono ?_
      rintro e V2 ⟨vp, l0, l1, l2, l3, l4, l5, rfl, ⟨q0, q1, q2, q3, q4, q5, q6, rfl, ⟨A0, n0, c0, rfl, r0, _⟩, ⟨A1, n1, c1, rfl, r1, _⟩, ⟨A2, n2, c2, rfl, r2, _⟩, ⟨A3, n3, c3, rfl, r3, _⟩, ⟨A4, n4, c4, rfl, r4, _⟩, ⟨A5, n5, c5, rfl, r5, _⟩, ⟨A6, n6, c6, rfl, r6, _⟩⟩, po, kp⟩
      have M2 := Lib.hid (M1.out.old kp)
      have CV := Lib.hid (cov_parts SV.out.1 po)
      have e5 := po.v
      have le5 : l5.length = rl.length := by rw [e5]; unfold liveP; rw [List.length_map]
      have z6 : n6 = 0 := r6.len.symm
      have z5 : n5 = rl.length := r5.len.symm.trans le5
      subst z6
      subst z5
      have KA : Kept Old V2 (V2.alloc (.cells #[.slice A0 n0 c0, .slice A1 n1 c1, .slice A2 n2 c2, .slice A3 n3 c3, .slice A4 n4 c4, .slice A5 rl.length c5, .slice A6 0 c6] 44)) := (Kept.refl Old V2).alloc _
      have XB := Blk.new V2 44 [.slice A0 n0 c0, .slice A1 n1 c1, .slice A2 n2 c2, .slice A3 n3 c3, .slice A4 n4 c4, .slice A5 rl.length c5, .slice A6 0 c6]
      have x0 := XB.cell 0
      have x1 := XB.cell 1
      have x2 := XB.cell 2
      have x3 := XB.cell 3
      have x4 := XB.cell 4
      have x5 := XB.cell 5
      have x6 := XB.cell 6
      simp only [List.getElem?_cons_succ, List.getElem?_cons_zero] at x0 x1 x2 x3 x4 x5 x6
      have M3 := Lib.hid (M2.out.old KA)
      have R0 := Lib.hid (r0.old KA)
      have R1 := Lib.hid (r1.old KA)
      have R2 := Lib.hid (r2.old KA)
      have R3 := Lib.hid (r3.old KA)
      have R4 := Lib.hid (r4.old KA)
      have R5 := Lib.hid (r5.old KA)
      have R6 := Lib.hid (r6.old KA)
      clear r0 r1 r2 r3 r4 r5 r6 e5 le5 po kp XB KA M2
      go_wp2_with fail
      generalize hxb : V2.heap.size = xb at *
      generalize V2.alloc (.cells #[.slice A0 n0 c0, .slice A1 n1 c1, .slice A2 n2 c2, .slice A3 n3 c3, .slice A4 n4 c4, .slice A5 rl.length c5, .slice A6 0 c6] 44) = V3 at *
      have zm : IntKind.i64.wrap ((P : Int) * 64) = (P : Int) * 64 := IntWalk.i64_in _ (by omega)
      refine wp_region_held_drew (S := (fun w' => w'.cell? ⟨xb, 0, none⟩ = some (.slice A0 n0 c0) ∧ w'.cell? ⟨xb, 1, none⟩ = some (.slice A1 n1 c1) ∧ w'.cell? ⟨xb, 2, none⟩ = some (.slice A2 n2 c2) ∧ w'.cell? ⟨xb, 3, none⟩ = some (.slice A3 n3 c3) ∧ w'.cell? ⟨xb, 4, none⟩ = some (.slice A4 n4 c4) ∧ w'.cell? ⟨xb, 5, none⟩ = some (.slice A5 rl.length c5) ∧ w'.cell? ⟨xb, 6, none⟩ = some (.slice A6 0 c6))) (by kernel_rfl) ⟨x0, x1, x2, x3, x4, x5, x6⟩ (fun hHeld => ?_)
      refine wpAnyH_take (i := 0) (v := .agg #[.slice A0 n0 c0, .slice A1 n1 c1, .slice A2 n2 c2, .slice A3 n3 c3, .slice A4 n4 c4, .slice A5 rl.length c5, .slice A6 0 c6]) rfl (by kernel_rfl) (by decide +kernel) (by decide +kernel) (fun _ _ _ h => h) (Or.inl ⟨by rfl, fun w' hSw => ?_⟩) hHeld ?_
      · (go_simp)
      simp only [Act.put, List.getElem_toArray, List.getElem_cons_zero, List.setIfInBounds_toArray, List.set_cons_zero, List.set_cons_succ]
      refine wpAnyH_take (i := 1) (v := .int .i64 (P : Int)) rfl (by kernel_rfl) (by decide +kernel) (by decide +kernel) (fun _ _ _ h => h) (Or.inl ⟨by rfl, fun w' hSw => ?_⟩) hHeld ?_
      · (go_simp)
      simp only [Act.put, List.getElem_toArray, List.getElem_cons_succ, List.getElem_cons_zero, List.setIfInBounds_toArray, List.set_cons_zero, List.set_cons_succ]
      refine wpAnyH_take (i := 2) (v := .int .i64 ((P : Int) * 64)) rfl (by kernel_rfl) (by decide +kernel) (by decide +kernel) (fun _ _ _ h => h) (Or.inl ⟨by rfl, fun w' hSw => ?_⟩) hHeld ?_
      · (go_simp)
      simp only [Act.put, List.getElem_toArray, List.getElem_cons_succ, List.getElem_cons_zero, List.setIfInBounds_toArray, List.set_cons_zero, List.set_cons_succ]
      refine wpAnyH_ready (rs := [3]) (by decide +kernel) (by simp) (AllReadyH.cons rfl (fun K hK => ?_) AllReadyH.nil)
      simp only [List.getElem_toArray, List.getElem_cons_succ, List.getElem_cons_zero]
      rw [if_pos (by rfl)]
      go_simp
      go_at_call 26
      have CA := cover_at (P * 64) (by omega) CV.out (c0 := c0) (c1 := c1) (c2 := c2) (c3 := c3) (c4 := c4) (c5 := c5) (c6 := c6) V3.drew (R0.out.old (Kept.refl Old V3).drew) (R1.out.old (Kept.refl Old V3).drew) (R2.out.old (Kept.refl Old V3).drew) (R3.out.old (Kept.refl Old V3).drew) (R4.out.old (Kept.refl Old V3).drew) (R5.out.old (Kept.refl Old V3).drew) (R6.out.old (Kept.refl Old V3).drew)
      rw [show ((P * 64 : Nat) : Int) = (P : Int) * 64 by omega] at CA
      refine CA.mono ?_
      rintro e V4 ⟨rfl, k4⟩
      have K4 := Lib.hid (show Kept Old V3 V4 from (Kept.refl Old V3).drew.trans k4)
      refine hK.out _ _ ⟨Bg.cell_on k4 hHeld.1, Bg.cell_on k4 hHeld.2.1, Bg.cell_on k4 hHeld.2.2.1, Bg.cell_on k4 hHeld.2.2.2.1, Bg.cell_on k4 hHeld.2.2.2.2.1, Bg.cell_on k4 hHeld.2.2.2.2.2.1, Bg.cell_on k4 hHeld.2.2.2.2.2.2⟩ (fun hHeld => ?_)
      clear hK K k4 CA
      refine wpAnyH_take (i := 4) (v := .bool false) rfl (by kernel_rfl) (by decide +kernel) (by decide +kernel) (fun _ _ _ h => h) (Or.inl ⟨by rfl, fun w' hSw => ?_⟩) hHeld ?_
      · (go_simp)
      simp only [Act.put, List.getElem_toArray, List.getElem_cons_succ, List.getElem_cons_zero, List.setIfInBounds_toArray, List.set_cons_zero, List.set_cons_succ]
      refine wpAnyH_take (i := 5) (v := .bool false) rfl (by kernel_rfl) (by decide +kernel) (by decide +kernel) (fun _ _ _ h => h) (Or.inl ⟨by rfl, fun w' hSw => ?_⟩) hHeld ?_
      · (go_simp)
      simp only [Act.put, List.getElem_toArray, List.getElem_cons_succ, List.getElem_cons_zero, List.setIfInBounds_toArray, List.set_cons_zero, List.set_cons_succ]
      refine wpAnyH_take (i := 6) (v := .pointer (some ⟨xb, 6, none⟩)) rfl (by kernel_rfl) (by decide +kernel) (by decide +kernel) (fun _ _ _ h => h) (Or.inl ⟨by rfl, fun w' hSw => ?_⟩) hHeld ?_
      · (go_simp)
      simp only [Act.put, List.getElem_toArray, List.getElem_cons_succ, List.getElem_cons_zero, List.setIfInBounds_toArray, List.set_cons_zero, List.set_cons_succ]
      refine wpAnyH_take (i := 7) (v := .slice A6 0 c6) rfl (by kernel_rfl) (by decide +kernel) (by decide +kernel) (fun _ _ _ h => h) (Or.inl ⟨by rfl, fun w' hSw => ?_⟩) hHeld ?_
      · (go_simp)
      simp only [Act.put, List.getElem_toArray, List.getElem_cons_succ, List.getElem_cons_zero, List.setIfInBounds_toArray, List.set_cons_zero, List.set_cons_succ]
      refine wpAnyH_take (i := 8) (v := .int .i64 0) rfl (by kernel_rfl) (by decide +kernel) (by decide +kernel) (fun _ _ _ h => h) (Or.inl ⟨by rfl, fun w' hSw => ?_⟩) hHeld ?_
      · (go_simp)
      simp only [Act.put, List.getElem_toArray, List.getElem_cons_succ, List.getElem_cons_zero, List.setIfInBounds_toArray, List.set_cons_zero, List.set_cons_succ]
      refine wpAnyH_take (i := 9) (v := .bool false) rfl (by kernel_rfl) (by decide +kernel) (by decide +kernel) (fun _ _ _ h => h) (Or.inl ⟨by rfl, fun w' hSw => ?_⟩) hHeld ?_
      · (go_simp)
      simp only [Act.put, List.getElem_toArray, List.getElem_cons_succ, List.getElem_cons_zero, List.setIfInBounds_toArray, List.set_cons_zero, List.set_cons_succ]
      refine wpAnyH_take (i := 10) (v := .bool false) rfl (by kernel_rfl) (by decide +kernel) (by decide +kernel) (fun _ _ _ h => h) (Or.inl ⟨by rfl, fun w' hSw => ?_⟩) hHeld ?_
      · (go_simp)
      simp only [Act.put, List.getElem_toArray, List.getElem_cons_succ, List.getElem_cons_zero, List.setIfInBounds_toArray, List.set_cons_zero, List.set_cons_succ]
      refine wpAnyH_take (i := 11) (v := .bool false) rfl (by kernel_rfl) (by decide +kernel) (by decide +kernel) (fun _ _ _ h => h) (Or.inl ⟨by rfl, fun w' hSw => ?_⟩) hHeld ?_
      · (go_simp)
      simp only [Act.put, List.getElem_toArray, List.getElem_cons_succ, List.getElem_cons_zero, List.setIfInBounds_toArray, List.set_cons_zero, List.set_cons_succ]
      refine wpAnyH_take (i := 12) (v := .pointer (some ⟨xb, 5, none⟩)) rfl (by kernel_rfl) (by decide +kernel) (by decide +kernel) (fun _ _ _ h => h) (Or.inl ⟨by rfl, fun w' hSw => ?_⟩) hHeld ?_
      · (go_simp)
      simp only [Act.put, List.getElem_toArray, List.getElem_cons_succ, List.getElem_cons_zero, List.setIfInBounds_toArray, List.set_cons_zero, List.set_cons_succ]
      refine wpAnyH_take (i := 13) (v := .slice A5 rl.length c5) rfl (by kernel_rfl) (by decide +kernel) (by decide +kernel) (fun _ _ _ h => h) (Or.inl ⟨by rfl, fun w' hSw => ?_⟩) hHeld ?_
      · (go_simp)
      simp only [Act.put, List.getElem_toArray, List.getElem_cons_succ, List.getElem_cons_zero, List.setIfInBounds_toArray, List.set_cons_zero, List.set_cons_succ]
      refine wpAnyH_take (i := 14) (v := .int .i64 (rl.length : Int)) rfl (by kernel_rfl) (by decide +kernel) (by decide +kernel) (fun _ _ _ h => h) (Or.inl ⟨by rfl, fun w' hSw => ?_⟩) hHeld ?_
      · (go_simp)
      simp only [Act.put, List.getElem_toArray, List.getElem_cons_succ, List.getElem_cons_zero, List.setIfInBounds_toArray, List.set_cons_zero, List.set_cons_succ]
      refine wpAnyH_take (i := 15) (v := ptr s) rfl (by kernel_rfl) (by decide +kernel) (by decide +kernel) (fun _ _ _ h => h) (Or.inl ⟨by rfl, fun w' hSw => ?_⟩) hHeld ?_
      · (go_simp)
      simp only [Act.put, List.getElem_toArray, List.getElem_cons_succ, List.getElem_cons_zero, List.setIfInBounds_toArray, List.set_cons_zero, List.set_cons_succ]
      refine wpAnyH_ready (rs := [16]) (by decide +kernel) (by simp) (AllReadyH.cons rfl (fun K hK => ?_) AllReadyH.nil)
      simp only [List.getElem_toArray, List.getElem_cons_succ, List.getElem_cons_zero]
      rw [if_pos (by rfl)]
      go_simp
      go_at_call 27
      refine (slive_any (M3.out.old K4.out) (by have := SV.out.1.val.len; omega)).mono ?_
      rintro e V5 ⟨v5, rfl, AL, nL, cL, rfl, RL, _, _, k5⟩
      obtain rfl : nL = rl.length := RL.len.symm
      have K5 := Lib.hid (K4.out.trans k5)
      refine hK.out _ _ ⟨Bg.cell_on k5 hHeld.1, Bg.cell_on k5 hHeld.2.1, Bg.cell_on k5 hHeld.2.2.1, Bg.cell_on k5 hHeld.2.2.2.1, Bg.cell_on k5 hHeld.2.2.2.2.1, Bg.cell_on k5 hHeld.2.2.2.2.2.1, Bg.cell_on k5 hHeld.2.2.2.2.2.2⟩ (fun hHeld => ?_)
      clear hK K k5 RL
      refine wpAnyH_take (i := 17) (v := .int .i64 (rl.length : Int)) rfl (by kernel_rfl) (by decide +kernel) (by decide +kernel) (fun _ _ _ h => h) (Or.inl ⟨by rfl, fun w' hSw => ?_⟩) hHeld ?_
      · (go_simp)
      simp only [Act.put, List.getElem_toArray, List.getElem_cons_succ, List.getElem_cons_zero, List.setIfInBounds_toArray, List.set_cons_zero, List.set_cons_succ]
      refine wpAnyH_take (i := 18) (v := .bool false) rfl (by kernel_rfl) (by decide +kernel) (by decide +kernel) (fun _ _ _ h => h) (Or.inl ⟨by rfl, fun w' hSw => ?_⟩) hHeld ?_
      · (go_simp)
      simp only [Act.put, List.getElem_toArray, List.getElem_cons_succ, List.getElem_cons_zero, List.setIfInBounds_toArray, List.set_cons_zero, List.set_cons_succ]
      refine wpAnyH_take (i := 19) (v := .bool false) rfl (by kernel_rfl) (by decide +kernel) (by decide +kernel) (fun _ _ _ h => h) (Or.inl ⟨by rfl, fun w' hSw => ?_⟩) hHeld ?_
      · (go_simp)
      simp only [Act.put, List.getElem_toArray, List.getElem_cons_succ, List.getElem_cons_zero, List.setIfInBounds_toArray, List.set_cons_zero, List.set_cons_succ]
      refine wpAnyH_done (by decide +kernel) ?_ _
      go_wp2_with fail
      exact ⟨⟨i + 3, rk, rc, rl, _, by omega, by go_num, Lib.hid (M3.out.old K5.out), EN1, Lib.hid SV.out.1⟩, by simp [intOf]; omega⟩
    · have ways : ¬ (i : Int) + 2 < (len2 : Int) ∨ ((i : Int) + 2 < (len2 : Int) ∧ ¬ (i : Int) < 240) := by omega
      clear cc
      rcases ways with h1 | ⟨h1, h2⟩
      all_goals
        go_wp2_with fail
        refine (awake_any _).mono ?_
        rintro e W2 ⟨rfl, k2⟩
        have KE := Lib.hid (M.out.ff.kept.trans k2)
        clear k2
        go_wp2_with fail
        go_ret
        exact ⟨rfl, KE.out⟩

/-- The row's step. -/
theorem lifted (os : Os) (started : os.Started) (H : Type) (enc : TypeId × Value → H) :
    ReturnsInHanded {} Tryz.checked os 5 .any (Rows.shopWholeSpec.pre6 enc Tryz.prog Tryz.f5 Rows.shopWholeRow.domain false) (Rows.shopWholeSpec.post enc Tryz.prog Tryz.f5 false true false false) := by
  refine returnsInHanded_of_change_sized (C := Tryz.checked) own started (by kernel_rfl) Tryz.func5
    (ChangeSpec.witness6 (enc := enc) (C := Tryz.checked) false ⟨#[], #[.int .u8 0, .int .u8 0, .slice none 0 0], []⟩ 8 (by kernel_rfl) (by kernel_rfl) (by kernel_rfl) (by kernel_rfl)) ?_
  intro W base args ds gs before hval0 hW hcnd hsz0 _
  have hsz : (DataW.weightsEach Tryz.prog (Tryz.f5.params.toList ++ Rows.shopWholeSpec.plain.varTypes Tryz.prog) (ds ++ gs)).all (· ≤ reachBytes) = true := hsz0
  have hval : ∀ (j : Nat) t v, Tryz.f5.params[j]? = some t → args[j]? = some v → Value.okWide Tryz.prog W .any base t v := hval0
  have hW' := hW
  obtain ⟨p, q, hA0, hV, rfl, hfz, hnd⟩ := hW
  have hA : DataW.TrodAll enc Tryz.prog W 0 (fun _ => true) true Tryz.f5.params.toList args.toList ds p := hA0
  rw [Tryz.params5] at hA hval hsz
  obtain ⟨v0, vs0, d0, ds0, p0, q0, hargs, rfl, rfl, h0, r0⟩ := trodAll_cons hA
  obtain ⟨v1, vs1, d1, ds1, p1, q1, rfl, rfl, rfl, h1, r1⟩ := trodAll_cons r0
  obtain ⟨v2, vs2, d2, ds2, p2, q2, rfl, rfl, rfl, h2, r2⟩ := trodAll_cons r1
  obtain ⟨rfl, rfl, rfl⟩ := trodAll_nil r2
  obtain rfl : args = #[v0, v1, v2] := by cases args; simp_all
  obtain ⟨rfl, rfl⟩ := trodVars_none hV
  obtain ⟨a0, rfl, rfl, rfl, w0⟩ := open_int Tryz.underlying5 (hval 0 5 v0 rfl rfl) h0
  obtain ⟨a1, rfl, rfl, rfl, w1⟩ := open_int Tryz.underlying5 (hval 1 5 v1 rfl rfl) h1
  have k2 := h2
  have lt2 : ∀ x ∈ p2, x.block < W.heap.size := by obtain ⟨m, hm⟩ := k2; exact DataW.trod_lt m _ _ _ hm
  obtain ⟨a2, len2, cap2, rfl⟩ := okWide_slice Tryz.underlying22 (hval 2 22 v2 rfl rfl)
  obtain ⟨z2, w2⟩ := ints_in Tryz.underlying22 Tryz.underlying5 (by kernel_rfl) h2
  have rch2 := slice_reach (j := 2) Tryz.underlying22 (show Tryz.prog.bytesOf 5 = 1 by kernel_rfl) k2 hsz rfl rfl
  clear hA0 hval0
  refine (walk a0 a1 a2 len2 cap2 z2 W w0 w1 w2 rch2).mono fun e W' ⟨he, kept⟩ => ?_
  subst he
  have bel : Below W.heap.size W W' := kept.toBelow (Nat.le_refl _) (fun _ x => x.elim)
  exact ⟨_, rfl, _, _, _, [], _, [], hW', trodAll_mk1 (shut_bool Tryz.underlying4 _), (trodAll_cons_mk (shut_int Tryz.underlying5 w0) (trodAll_cons_mk (shut_int Tryz.underlying5 w1) (trodAll_cons_mk (Below.trod laidOut (by kernel_rfl) (of_decide_eq_true (by kernel_rfl)) k2 bel lt2) trodAll_mk0))), rfl, bel.frame _, fun h => by cases h⟩

theorem over : Rows.ShopWholeSaid :=
  OpenClaim.holds_of_wide 5 Tryz.f5 rfl rfl rfl rfl rfl rfl rfl ⟨rfl, rfl, rfl, rfl, rfl⟩ rfl rfl rfl rfl rfl (by kernel_rfl) Tryz.func5 (by kernel_rfl)
    (of_decide_eq_true (by kernel_rfl)) (by unfold Func.isWrapper; first | (rw [if_pos (by decide +kernel)]; kernel_rfl) | (rw [if_neg (by decide +kernel)]; exact ⟨rfl, rfl⟩))
    (fun os started H enc _ => lifted os started H enc)

/-- The statement. -/
theorem proved : Rows.ShopWholeSaid := over
#print axioms proved
end Go.Proofs.YtcndilpaijapkaaGreat.shopWhole
