/-
  For every input the law ShopModel of rickyard/rickyardlaw15 returns true, and its arguments read afterwards as before. The law's own sentence: What all workers' calls answered, in their order, is what the model accepts; its live stacks are the shop's. No further conditions.
-/
import Derived.Test.YtcndilpaijapkaaGreatRows
import Derived.SizedLaws
import Derived.WalkKit
import Derived.ProofKit
import Derived.OpenShut
import Derived.ChangeOld
import Derived.Below
import Derived.Lib.SmallJoins
import Derived.Test.YtcndilpaijapkaaGreatJBase
import Derived.Test.YtcndilpaijapkaaGreatJModelAcc
import Derived.Test.YtcndilpaijapkaaGreatJModelNew
import Derived.Test.YtcndilpaijapkaaGreatJShpD
namespace Go.Proofs.YtcndilpaijapkaaGreat.shopModel
open Go.ChangeShapes Go.WideShapes Go.ChangeAt Go.RowKit
set_option linter.unusedVariables false
set_option maxRecDepth 100000

theorem own : ownKnob Tryz.prog.godebug = none := by kernel_rfl
theorem laidOut : laidOutB Tryz.prog = true := by kernel_rfl
open Sto
open Shp

set_option maxHeartbeats 4000000 in
/-- The walk: the Go text returns true, and nothing that was there has turned. -/
theorem walk (a0 : Int) (a1 : Int) (a2 : Option Addr) (len2 cap2 : Nat) (z2 : Nat → Int) (w : World) (w0 : (Lit.int .u8 a0).wf = true) (w1 : (Lit.int .u8 a1).wf = true) (w2 : len2 ≤ cap2 ∧ cap2 ≤ maxLen ∧ (∀ i, i < len2 → (Lit.int .u8 (z2 i)).wf = true) ∧ Sl w a2 1 len2 fun i _ => .int .u8 (z2 i)) (rch2 : cap2 * 1 ≤ 140737488351232 ∧ (a2 = none → len2 = 0 ∧ cap2 = 0)) :
    Calls Tryz.prog 8 #[.int .u8 a0, .int .u8 a1, .slice a2 len2 cap2] w fun e w' => e = .returned (.bool true) ∧ Kept Old w w' := by
  obtain ⟨v0, v1, v2, v3⟩ := w2
  have hl : len2 ≤ 9223372036854775807 := by unfold maxLen at v1; omega
  have hz := Lib.hid (show ∀ i, i < len2 → 0 ≤ z2 i ∧ z2 i ≤ 255 from fun i hi => bounds_u8 (v2 i hi))
  have HS := Lib.hid v3
  obtain ⟨p1, p2⟩ := bounds_u8 w0
  obtain ⟨p3, p4⟩ := bounds_u8 w1
  obtain ⟨u, rfl⟩ : ∃ u : Nat, a0 = (u : Int) := ⟨a0.toNat, by omega⟩
  obtain ⟨x, rfl⟩ : ∃ x : Nat, a1 = (x : Int) := ⟨a1.toNat, by omega⟩
  obtain ⟨P, hP, P1, P2⟩ : ∃ P : Nat, 1 + (u : Int) = (P : Int) ∧ 1 ≤ P ∧ P ≤ 256 := ⟨1 + u, by omega, by omega, by omega⟩
  obtain ⟨nw, hnw, N1, N2⟩ : ∃ nw : Nat, 1 + (x : Int) % 6 = (nw : Int) ∧ 1 ≤ nw ∧ nw ≤ 6 := ⟨1 + x % 6, by omega, by omega, by omega⟩
  have NS := Lib.hid (snew_yes w P nw NoB w P1 P2 N1 (by omega) (Kept.refl Old w) (fun _ h => h.elim))
  have V0 := Lib.hid (show Sq P nw (K0 P) (fun _ _ => []) [] from Sq.new (P := P) P1 P2 nw)
  clear v0 v1 v2 v3 w0 w1
  go_enter Tryz.func8, Tryz.ntmps8
  go_wp2_with fail
  refine NS.out.mono ?_
  rintro e W1 ⟨s, rfl, ⟨pl, en, m⟩, k1, _⟩
  have PM0 := Lib.hid (show Pm w W1 s P nw (.slice none 0 0) [] (Shp.K0 P) (fun _ _ => []) [] pl from ⟨m.less (fun b h => (by cases h)), V0.out, en, Lm.OwD.nil _ _, Acc.nil _⟩)
  have VAL := Lib.hid (show Lm.Valid ((P : Int) * 64) [] from PM0.out.sv.val)
  clear m en k1 NS V0
  go_wp2_with fail
  go_loopw [10, 11] (fun s8 s9 wr => ∃ (i : Nat) (A : Option Addr) (c : Nat) (ds : List Lm.D) (k : Sto.K) (ca : Ca) (live : List Lm.S) (pl : Shp.Pl), i ≤ 452 ∧ ds.length ≤ i ∧ s8 = .slice A ds.length c ∧ s9 = .int .i64 (i : Int) ∧ Hid (Pm w wr s P nw (.slice A ds.length c) ds k ca live pl)) (fun _ s9 _ => 453 - (intOf s9).toNat)
  case atStart => exact ⟨0, none, 0, [], _, _, _, _, by omega, Nat.le_refl _, rfl, rfl, PM0⟩
  case round =>
    clear PM0
    obtain ⟨i, A, c0, ds, k, ca, live, pl, hi, hds, rfl, rfl, pm⟩ := hrel
    rename World => V
    have wi : IntKind.i64.wrap ((i : Int) + 1) = (i : Int) + 1 := IntWalk.i64_in _ (by omega)
    have wi2 : IntKind.i64.wrap ((i : Int) + 2) = (i : Int) + 2 := IntWalk.i64_in _ (by omega)
    have wi3 : IntKind.i64.wrap ((i : Int) + 3) = (i : Int) + 3 := IntWalk.i64_in _ (by omega)
    by_cases cc : i + 2 < len2 ∧ i < 450
    · obtain ⟨c1, c2⟩ := cc
      have ci2 : (i : Int) < 450 := by omega
      have M := Lib.hid pm.out.st
      have EN := Lib.hid pm.out.num
      have SVV := Lib.hid pm.out.sv
      have ci : (i : Int) + 2 < (len2 : Int) := by omega
      have ci1 : (i : Int) + 1 < (len2 : Int) := by omega
      have ci0 : (i : Int) < (len2 : Int) := by omega
      have ci3 : ¬ (i : Int) + 1 < 0 := by omega
      have ci4 : ¬ (i : Int) < 0 := by omega
      have ci5 : ¬ (i : Int) + 2 < 0 := by omega
      obtain ⟨g, o, rfl, hg, hc⟩ := (HS.out.old M.out.ff.kept).lies (by omega)
      have d0 := hc i 0 (by omega) (by omega)
      have d1 := hc (i + 1) 0 (by omega) (by omega)
      have d2 := hc (i + 2) 0 (by omega) (by omega)
      simp only [Nat.mul_one, Nat.add_zero] at d0 d1 d2
      obtain ⟨q0, q1⟩ := hz.out i (by omega)
      obtain ⟨q2, q3⟩ := hz.out (i + 1) (by omega)
      obtain ⟨q4, q5⟩ := hz.out (i + 2) (by omega)
      obtain ⟨a, ha, ha5⟩ : ∃ a : Nat, z2 i = (a : Int) ∧ a ≤ 255 := ⟨(z2 i).toNat, by omega, by omega⟩
      obtain ⟨b, hb, hb5⟩ : ∃ b : Nat, z2 (i + 1) = (b : Int) ∧ b ≤ 255 := ⟨(z2 (i + 1)).toNat, by omega, by omega⟩
      obtain ⟨c, hcc, hc5⟩ : ∃ c : Nat, z2 (i + 2) = (c : Int) ∧ c ≤ 255 := ⟨(z2 (i + 2)).toNat, by omega, by omega⟩
      rw [ha] at d0
      rw [hb] at d1
      rw [hcc] at d2
      have HC := Lib.hid (fun X (q : Kept Old w X) => (show X.cell? ⟨g, o + i, none⟩ = some (.int .u8 (a : Int)) ∧ X.cell? ⟨g, o + (i + 1), none⟩ = some (.int .u8 (b : Int)) ∧ X.cell? ⟨g, o + (i + 2), none⟩ = some (.int .u8 (c : Int)) from by
        obtain ⟨g2, o2, e2, hg2, hc2⟩ := (HS.out.old q).lies (by omega)
        injection e2 with e2
        injection e2 with e3 e4
        subst e3
        subst e4
        have x0 := hc2 i 0 (by omega) (by omega)
        have x1 := hc2 (i + 1) 0 (by omega) (by omega)
        have x2 := hc2 (i + 2) 0 (by omega) (by omega)
        simp only [Nat.mul_one, Nat.add_zero] at x0 x1 x2
        rw [ha] at x0
        rw [hb] at x1
        rw [hcc] at x2
        exact ⟨x0, x1, x2⟩))
      clear hc q0 q1 q2 q3 q4 q5 ha hb hcc
      obtain ⟨rk, rc, rl, dk, dn, da, dc, hr⟩ : ∃ rk rc rl dk dn da dc, doW P nw k ca live a b c = (rk, rc, rl, ⟨dk, dn, da, dc⟩) := ⟨_, _, _, _, _, _, _, rfl⟩
      have SV := Lib.hid (SVV.out.doW N1 a b c)
      have FD := Lib.hid (do_fit pm.out.sv N1 a b c hb5)
      rw [hr] at SV FD
      have DO : ∀ X, Kept Old V X → Calls Tryz.prog 14 #[ptr s, .int .i64 (nw : Int), .int .u8 (a : Int), .int .u8 (b : Int), .int .u8 (c : Int)] X fun e W' => e = .returned (deedV ⟨dk, dn, da, dc⟩) ∧ Shp.Left w V W' s P rk rc rl (Fo (.slice A ds.length c0)) pl := fun X q => by
        have h := do_any (pl := pl.re V.heap.size 97) a b c ha5 hb5 hc5 EN.out N1 (M.out.old q) SVV.out
        unfold DoPost at h
        rw [hr] at h
        refine h.mono ?_
        rintro e W' ⟨rfl, L⟩
        exact ⟨rfl, Shp.Left.trans (pl1 := pl.re V.heap.size 97) ⟨rfl, rfl, rfl, rfl, rfl⟩ q.any L⟩
      have DO := Lib.hid DO
      have DO2 : ∀ X, Kept Old (V.alloc (.cells zeroD.toArray 29)) X → Calls Tryz.prog 14 #[ptr s, .int .i64 (nw : Int), .int .u8 (a : Int), .int .u8 (b : Int), .int .u8 (c : Int)] X fun e W' => e = .returned (deedV ⟨dk, dn, da, dc⟩) ∧ ∃ pl', Bs w V W' s P rk rc rl (Fo (.slice A ds.length c0)) pl pl' V.heap.size := fun X q => by
        obtain ⟨plx, bx⟩ := (Bs.start pm.out.st).old q
        have h := do_any a b c ha5 hb5 hc5 (bx.same.nw.trans EN.out) N1 bx.st pm.out.sv
        unfold DoPost at h
        rw [hr] at h
        refine h.mono ?_
        rintro e W' ⟨rfl, L⟩
        exact ⟨rfl, bx.left L⟩
      have DO2 := Lib.hid DO2
      clear hr c1 c2 M SVV
      by_cases hk : dk = 0
      · subst hk
        obtain rfl : rl = live := SV.out.2.1 rfl
        go_wp2_with fail
        refine wp_region_held_drew (S := (fun w' => w'.cell? ⟨g, o + i, none⟩ = some (.int .u8 (a : Int)) ∧ w'.cell? ⟨g, o + (i + 1), none⟩ = some (.int .u8 (b : Int)) ∧ w'.cell? ⟨g, o + (i + 2), none⟩ = some (.int .u8 (c : Int)))) (by kernel_rfl) ⟨d0, d1, d2⟩ (fun hHeld => ?_)
        refine wpAnyH_take (i := 0) (v := ptr s) rfl (by kernel_rfl) (by decide +kernel) (by decide +kernel) (fun _ _ _ h => h) (Or.inl ⟨by rfl, fun w' hSw => ?_⟩) hHeld ?_
        · (go_simp)
        simp only [Act.put, List.getElem_toArray, List.getElem_cons_zero, List.setIfInBounds_toArray, List.set_cons_zero, List.set_cons_succ]
        refine wpAnyH_take (i := 1) (v := .int .i64 (nw : Int)) rfl (by kernel_rfl) (by decide +kernel) (by decide +kernel) (fun _ _ _ h => h) (Or.inl ⟨by rfl, fun w' hSw => ?_⟩) hHeld ?_
        · (go_simp)
        simp only [Act.put, List.getElem_toArray, List.getElem_cons_succ, List.getElem_cons_zero, List.setIfInBounds_toArray, List.set_cons_zero, List.set_cons_succ]
        refine wpAnyH_take (i := 2) (v := .slice (some ⟨g, o, none⟩) len2 cap2) rfl (by kernel_rfl) (by decide +kernel) (by decide +kernel) (fun _ _ _ h => h) (Or.inl ⟨by rfl, fun w' hSw => ?_⟩) hHeld ?_
        · (go_simp)
        simp only [Act.put, List.getElem_toArray, List.getElem_cons_succ, List.getElem_cons_zero, List.setIfInBounds_toArray, List.set_cons_zero, List.set_cons_succ]
        refine wpAnyH_take (i := 3) (v := .int .i64 (i : Int)) rfl (by kernel_rfl) (by decide +kernel) (by decide +kernel) (fun _ _ _ h => h) (Or.inl ⟨by rfl, fun w' hSw => ?_⟩) hHeld ?_
        · (go_simp)
        simp only [Act.put, List.getElem_toArray, List.getElem_cons_succ, List.getElem_cons_zero, List.setIfInBounds_toArray, List.set_cons_zero, List.set_cons_succ]
        refine wpAnyH_take (i := 4) (v := .pointer (some ⟨g, o + i, none⟩)) rfl (by kernel_rfl) (by decide +kernel) (by decide +kernel) (fun _ _ _ h => h) (Or.inl ⟨by rfl, fun w' hSw => ?_⟩) hHeld ?_
        · (go_simp)
        simp only [Act.put, List.getElem_toArray, List.getElem_cons_succ, List.getElem_cons_zero, List.setIfInBounds_toArray, List.set_cons_zero, List.set_cons_succ]
        refine wpAnyH_take (i := 5) (v := .int .u8 (a : Int)) rfl (by kernel_rfl) (by decide +kernel) (by decide +kernel) (fun _ _ _ h => h) (Or.inl ⟨by rfl, fun w' hSw => ?_⟩) hHeld ?_
        · (go_simp)
        simp only [Act.put, List.getElem_toArray, List.getElem_cons_succ, List.getElem_cons_zero, List.setIfInBounds_toArray, List.set_cons_zero, List.set_cons_succ]
        refine wpAnyH_take (i := 6) (v := .slice (some ⟨g, o, none⟩) len2 cap2) rfl (by kernel_rfl) (by decide +kernel) (by decide +kernel) (fun _ _ _ h => h) (Or.inl ⟨by rfl, fun w' hSw => ?_⟩) hHeld ?_
        · (go_simp)
        simp only [Act.put, List.getElem_toArray, List.getElem_cons_succ, List.getElem_cons_zero, List.setIfInBounds_toArray, List.set_cons_zero, List.set_cons_succ]
        refine wpAnyH_take (i := 7) (v := .int .i64 (i : Int)) rfl (by kernel_rfl) (by decide +kernel) (by decide +kernel) (fun _ _ _ h => h) (Or.inl ⟨by rfl, fun w' hSw => ?_⟩) hHeld ?_
        · (go_simp)
        simp only [Act.put, List.getElem_toArray, List.getElem_cons_succ, List.getElem_cons_zero, List.setIfInBounds_toArray, List.set_cons_zero, List.set_cons_succ]
        refine wpAnyH_take (i := 8) (v := .int .i64 ((i : Int) + 1)) rfl (by kernel_rfl) (by decide +kernel) (by decide +kernel) (fun _ _ _ h => h) (Or.inl ⟨by rfl, fun w' hSw => ?_⟩) hHeld ?_
        · (go_simp)
        simp only [Act.put, List.getElem_toArray, List.getElem_cons_succ, List.getElem_cons_zero, List.setIfInBounds_toArray, List.set_cons_zero, List.set_cons_succ]
        refine wpAnyH_take (i := 9) (v := .pointer (some ⟨g, o + (i + 1), none⟩)) rfl (by kernel_rfl) (by decide +kernel) (by decide +kernel) (fun _ _ _ h => h) (Or.inl ⟨by rfl, fun w' hSw => ?_⟩) hHeld ?_
        · (go_simp)
        simp only [Act.put, List.getElem_toArray, List.getElem_cons_succ, List.getElem_cons_zero, List.setIfInBounds_toArray, List.set_cons_zero, List.set_cons_succ]
        refine wpAnyH_take (i := 10) (v := .int .u8 (b : Int)) rfl (by kernel_rfl) (by decide +kernel) (by decide +kernel) (fun _ _ _ h => h) (Or.inl ⟨by rfl, fun w' hSw => ?_⟩) hHeld ?_
        · (go_simp)
        simp only [Act.put, List.getElem_toArray, List.getElem_cons_succ, List.getElem_cons_zero, List.setIfInBounds_toArray, List.set_cons_zero, List.set_cons_succ]
        refine wpAnyH_take (i := 11) (v := .slice (some ⟨g, o, none⟩) len2 cap2) rfl (by kernel_rfl) (by decide +kernel) (by decide +kernel) (fun _ _ _ h => h) (Or.inl ⟨by rfl, fun w' hSw => ?_⟩) hHeld ?_
        · (go_simp)
        simp only [Act.put, List.getElem_toArray, List.getElem_cons_succ, List.getElem_cons_zero, List.setIfInBounds_toArray, List.set_cons_zero, List.set_cons_succ]
        refine wpAnyH_take (i := 12) (v := .int .i64 (i : Int)) rfl (by kernel_rfl) (by decide +kernel) (by decide +kernel) (fun _ _ _ h => h) (Or.inl ⟨by rfl, fun w' hSw => ?_⟩) hHeld ?_
        · (go_simp)
        simp only [Act.put, List.getElem_toArray, List.getElem_cons_succ, List.getElem_cons_zero, List.setIfInBounds_toArray, List.set_cons_zero, List.set_cons_succ]
        refine wpAnyH_take (i := 13) (v := .int .i64 ((i : Int) + 2)) rfl (by kernel_rfl) (by decide +kernel) (by decide +kernel) (fun _ _ _ h => h) (Or.inl ⟨by rfl, fun w' hSw => ?_⟩) hHeld ?_
        · (go_simp)
        simp only [Act.put, List.getElem_toArray, List.getElem_cons_succ, List.getElem_cons_zero, List.setIfInBounds_toArray, List.set_cons_zero, List.set_cons_succ]
        refine wpAnyH_take (i := 14) (v := .pointer (some ⟨g, o + (i + 2), none⟩)) rfl (by kernel_rfl) (by decide +kernel) (by decide +kernel) (fun _ _ _ h => h) (Or.inl ⟨by rfl, fun w' hSw => ?_⟩) hHeld ?_
        · (go_simp)
        simp only [Act.put, List.getElem_toArray, List.getElem_cons_succ, List.getElem_cons_zero, List.setIfInBounds_toArray, List.set_cons_zero, List.set_cons_succ]
        refine wpAnyH_take (i := 15) (v := .int .u8 (c : Int)) rfl (by kernel_rfl) (by decide +kernel) (by decide +kernel) (fun _ _ _ h => h) (Or.inl ⟨by rfl, fun w' hSw => ?_⟩) hHeld ?_
        · (go_simp)
        simp only [Act.put, List.getElem_toArray, List.getElem_cons_succ, List.getElem_cons_zero, List.setIfInBounds_toArray, List.set_cons_zero, List.set_cons_succ]
        refine wpAnyH_ready (rs := [16, 17]) (by decide +kernel) (by simp) (AllReadyH.cons rfl (fun K hK => ?_) (AllReadyH.cons rfl (fun K hK => ?_) AllReadyH.nil))
        · simp only [List.getElem_toArray, List.getElem_cons_succ, List.getElem_cons_zero]
          rw [if_pos (by rfl)]
          go_simp
          go_at_call 14
          refine (DO.out _ (Kept.refl Old V).drew).mono ?_
          rintro e V1 ⟨rfl, L⟩
          obtain ⟨⟨pl1, m1, e1⟩, o1⟩ := pm.out.call L
          have hsz := m1.ff.kept.size
          have CV := HC.out V1 m1.ff.kept
          have M1 := Lib.hid m1
          have E1 := Lib.hid e1
          have OW := Lib.hid o1
          clear m1 o1 e1 L
          refine hK.out _ _ CV (fun hHeld => ?_)
          clear hK K CV
          refine wpAnyH_ready (rs := [17]) (by decide +kernel) (by simp) (AllReadyH.cons rfl (fun K hK => ?_) AllReadyH.nil)
          simp only [List.getElem_toArray, List.getElem_cons_succ, List.getElem_cons_zero]
          rw [if_pos (by rfl)]
          go_simp
          refine hK.out _ _ ⟨Bg.cell_on ((Kept.refl Old _).alloc _) hHeld.1, Bg.cell_on ((Kept.refl Old _).alloc _) hHeld.2.1, Bg.cell_on ((Kept.refl Old _).alloc _) hHeld.2.2⟩ (fun hHeld => ?_)
          clear hK K
          refine wpAnyH_ready (rs := [18]) (by decide +kernel) (by simp) (AllReadyH.cons rfl (fun K hK => ?_) AllReadyH.nil)
          simp only [List.getElem_toArray, List.getElem_cons_succ, List.getElem_cons_zero]
          rw [if_pos (by rfl)]
          go_simp
          refine hK.out _ _ ?_ (fun hHeld => ?_)
          · exact ⟨Bg.cell_on ((Kept.refl Old V1).alloc _) (HC.out V1 M1.out.ff.kept).1, Bg.cell_on ((Kept.refl Old V1).alloc _) (HC.out V1 M1.out.ff.kept).2.1, Bg.cell_on ((Kept.refl Old V1).alloc _) (HC.out V1 M1.out.ff.kept).2.2⟩
          clear hK K
          refine wpAnyH_done (by decide +kernel) ?_ _
          go_wp2_with fail
          first
            | exact ⟨⟨i + 3, A, c0, ds, rk, rc, rl, _, by omega, by omega, rfl, by go_num, Lib.hid (Pm.old ⟨M1.out, SV.out.1, E1.out, OW.out, pm.out.acc⟩ ((Kept.refl Old _).alloc _))⟩, by simp [intOf]; omega⟩
            | exact ⟨⟨i + 3, A, c0, ds, rk, rc, rl, _, by omega, by omega, rfl, by go_num, Lib.hid ⟨M1.out, SV.out.1, E1.out, OW.out, pm.out.acc⟩⟩, by simp [intOf]; omega⟩
        · simp only [List.getElem_toArray, List.getElem_cons_succ, List.getElem_cons_zero]
          rw [if_pos (by rfl)]
          go_simp
          refine hK.out _ _ ⟨Bg.cell_on ((Kept.refl Old _).alloc _) hHeld.1, Bg.cell_on ((Kept.refl Old _).alloc _) hHeld.2.1, Bg.cell_on ((Kept.refl Old _).alloc _) hHeld.2.2⟩ (fun hHeld => ?_)
          clear hK K
          refine wpAnyH_ready (rs := [16]) (by decide +kernel) (by simp) (AllReadyH.cons rfl (fun K hK => ?_) AllReadyH.nil)
          simp only [List.getElem_toArray, List.getElem_cons_succ, List.getElem_cons_zero]
          rw [if_pos (by rfl)]
          go_simp
          go_at_call 14
          refine (DO2.out _ (by first | exact Kept.refl Old _ | exact (Kept.refl Old _).drew)).mono ?_
          rintro e V1 ⟨rfl, plx, bx⟩
          have CV := HC.out V1 bx.st.ff.kept
          obtain ⟨Z, hZ, r0, r1, r2, r3, L⟩ := bx.fin ⟨0, dn, da, dc⟩
          have e0 : V1.cell? ⟨V.heap.size, 0, none⟩ = some (.int .i64 0) := bx.box.cell 0
          have e1 : V1.cell? ⟨V.heap.size, 1, none⟩ = some (.int .i64 0) := bx.box.cell 1
          have e2 : V1.cell? ⟨V.heap.size, 2, none⟩ = some (.int .i64 0) := bx.box.cell 2
          have e3 : V1.cell? ⟨V.heap.size, 3, none⟩ = some (.int .i64 0) := bx.box.cell 3
          have f0 := bx.box.frozen 0
          have f1 := bx.box.frozen 1
          have f2 := bx.box.frozen 2
          have f3 := bx.box.frozen 3
          obtain ⟨⟨pl1, m1, e1⟩, o1⟩ := pm.out.call L
          have hsz := m1.ff.kept.size
          have CZ := HC.out Z m1.ff.kept
          have M1 := Lib.hid m1
          have E1 := Lib.hid e1
          have OW := Lib.hid o1
          clear m1 o1 e1 L bx
          refine hK.out _ _ CV (fun hHeld => ?_)
          clear hK K CV
          refine wpAnyH_ready (rs := [18]) (by decide +kernel) (by simp) (AllReadyH.cons rfl (fun K hK => ?_) AllReadyH.nil)
          simp only [List.getElem_toArray, List.getElem_cons_succ, List.getElem_cons_zero]
          rw [if_pos (by rfl)]
          go_simp
          simp only [hZ] at *
          refine hK.out _ _ CZ (fun hHeld => ?_)
          clear hK K CZ
          refine wpAnyH_done (by decide +kernel) ?_ _
          go_wp2_with fail
          first
            | exact ⟨⟨i + 3, A, c0, ds, rk, rc, rl, _, by omega, by omega, rfl, by go_num, Lib.hid (Pm.old ⟨M1.out, SV.out.1, E1.out, OW.out, pm.out.acc⟩ ((Kept.refl Old _).alloc _))⟩, by simp [intOf]; omega⟩
            | exact ⟨⟨i + 3, A, c0, ds, rk, rc, rl, _, by omega, by omega, rfl, by go_num, Lib.hid ⟨M1.out, SV.out.1, E1.out, OW.out, pm.out.acc⟩⟩, by simp [intOf]; omega⟩
      · obtain ⟨ab, al⟩ := SV.out.2.2 hk
        have AC := Lib.hid (al ▸ pm.out.acc.app ab)
        clear ab al
        have le : (ds ++ [(⟨dk, dn, da, dc⟩ : Lm.D)]).length = ds.length + 1 := by simp
        go_wp2_with fail
        refine wp_region_held_drew (S := (fun w' => w'.cell? ⟨g, o + i, none⟩ = some (.int .u8 (a : Int)) ∧ w'.cell? ⟨g, o + (i + 1), none⟩ = some (.int .u8 (b : Int)) ∧ w'.cell? ⟨g, o + (i + 2), none⟩ = some (.int .u8 (c : Int)))) (by kernel_rfl) ⟨d0, d1, d2⟩ (fun hHeld => ?_)
        refine wpAnyH_take (i := 0) (v := ptr s) rfl (by kernel_rfl) (by decide +kernel) (by decide +kernel) (fun _ _ _ h => h) (Or.inl ⟨by rfl, fun w' hSw => ?_⟩) hHeld ?_
        · (go_simp)
        simp only [Act.put, List.getElem_toArray, List.getElem_cons_zero, List.setIfInBounds_toArray, List.set_cons_zero, List.set_cons_succ]
        refine wpAnyH_take (i := 1) (v := .int .i64 (nw : Int)) rfl (by kernel_rfl) (by decide +kernel) (by decide +kernel) (fun _ _ _ h => h) (Or.inl ⟨by rfl, fun w' hSw => ?_⟩) hHeld ?_
        · (go_simp)
        simp only [Act.put, List.getElem_toArray, List.getElem_cons_succ, List.getElem_cons_zero, List.setIfInBounds_toArray, List.set_cons_zero, List.set_cons_succ]
        refine wpAnyH_take (i := 2) (v := .slice (some ⟨g, o, none⟩) len2 cap2) rfl (by kernel_rfl) (by decide +kernel) (by decide +kernel) (fun _ _ _ h => h) (Or.inl ⟨by rfl, fun w' hSw => ?_⟩) hHeld ?_
        · (go_simp)
        simp only [Act.put, List.getElem_toArray, List.getElem_cons_succ, List.getElem_cons_zero, List.setIfInBounds_toArray, List.set_cons_zero, List.set_cons_succ]
        refine wpAnyH_take (i := 3) (v := .int .i64 (i : Int)) rfl (by kernel_rfl) (by decide +kernel) (by decide +kernel) (fun _ _ _ h => h) (Or.inl ⟨by rfl, fun w' hSw => ?_⟩) hHeld ?_
        · (go_simp)
        simp only [Act.put, List.getElem_toArray, List.getElem_cons_succ, List.getElem_cons_zero, List.setIfInBounds_toArray, List.set_cons_zero, List.set_cons_succ]
        refine wpAnyH_take (i := 4) (v := .pointer (some ⟨g, o + i, none⟩)) rfl (by kernel_rfl) (by decide +kernel) (by decide +kernel) (fun _ _ _ h => h) (Or.inl ⟨by rfl, fun w' hSw => ?_⟩) hHeld ?_
        · (go_simp)
        simp only [Act.put, List.getElem_toArray, List.getElem_cons_succ, List.getElem_cons_zero, List.setIfInBounds_toArray, List.set_cons_zero, List.set_cons_succ]
        refine wpAnyH_take (i := 5) (v := .int .u8 (a : Int)) rfl (by kernel_rfl) (by decide +kernel) (by decide +kernel) (fun _ _ _ h => h) (Or.inl ⟨by rfl, fun w' hSw => ?_⟩) hHeld ?_
        · (go_simp)
        simp only [Act.put, List.getElem_toArray, List.getElem_cons_succ, List.getElem_cons_zero, List.setIfInBounds_toArray, List.set_cons_zero, List.set_cons_succ]
        refine wpAnyH_take (i := 6) (v := .slice (some ⟨g, o, none⟩) len2 cap2) rfl (by kernel_rfl) (by decide +kernel) (by decide +kernel) (fun _ _ _ h => h) (Or.inl ⟨by rfl, fun w' hSw => ?_⟩) hHeld ?_
        · (go_simp)
        simp only [Act.put, List.getElem_toArray, List.getElem_cons_succ, List.getElem_cons_zero, List.setIfInBounds_toArray, List.set_cons_zero, List.set_cons_succ]
        refine wpAnyH_take (i := 7) (v := .int .i64 (i : Int)) rfl (by kernel_rfl) (by decide +kernel) (by decide +kernel) (fun _ _ _ h => h) (Or.inl ⟨by rfl, fun w' hSw => ?_⟩) hHeld ?_
        · (go_simp)
        simp only [Act.put, List.getElem_toArray, List.getElem_cons_succ, List.getElem_cons_zero, List.setIfInBounds_toArray, List.set_cons_zero, List.set_cons_succ]
        refine wpAnyH_take (i := 8) (v := .int .i64 ((i : Int) + 1)) rfl (by kernel_rfl) (by decide +kernel) (by decide +kernel) (fun _ _ _ h => h) (Or.inl ⟨by rfl, fun w' hSw => ?_⟩) hHeld ?_
        · (go_simp)
        simp only [Act.put, List.getElem_toArray, List.getElem_cons_succ, List.getElem_cons_zero, List.setIfInBounds_toArray, List.set_cons_zero, List.set_cons_succ]
        refine wpAnyH_take (i := 9) (v := .pointer (some ⟨g, o + (i + 1), none⟩)) rfl (by kernel_rfl) (by decide +kernel) (by decide +kernel) (fun _ _ _ h => h) (Or.inl ⟨by rfl, fun w' hSw => ?_⟩) hHeld ?_
        · (go_simp)
        simp only [Act.put, List.getElem_toArray, List.getElem_cons_succ, List.getElem_cons_zero, List.setIfInBounds_toArray, List.set_cons_zero, List.set_cons_succ]
        refine wpAnyH_take (i := 10) (v := .int .u8 (b : Int)) rfl (by kernel_rfl) (by decide +kernel) (by decide +kernel) (fun _ _ _ h => h) (Or.inl ⟨by rfl, fun w' hSw => ?_⟩) hHeld ?_
        · (go_simp)
        simp only [Act.put, List.getElem_toArray, List.getElem_cons_succ, List.getElem_cons_zero, List.setIfInBounds_toArray, List.set_cons_zero, List.set_cons_succ]
        refine wpAnyH_take (i := 11) (v := .slice (some ⟨g, o, none⟩) len2 cap2) rfl (by kernel_rfl) (by decide +kernel) (by decide +kernel) (fun _ _ _ h => h) (Or.inl ⟨by rfl, fun w' hSw => ?_⟩) hHeld ?_
        · (go_simp)
        simp only [Act.put, List.getElem_toArray, List.getElem_cons_succ, List.getElem_cons_zero, List.setIfInBounds_toArray, List.set_cons_zero, List.set_cons_succ]
        refine wpAnyH_take (i := 12) (v := .int .i64 (i : Int)) rfl (by kernel_rfl) (by decide +kernel) (by decide +kernel) (fun _ _ _ h => h) (Or.inl ⟨by rfl, fun w' hSw => ?_⟩) hHeld ?_
        · (go_simp)
        simp only [Act.put, List.getElem_toArray, List.getElem_cons_succ, List.getElem_cons_zero, List.setIfInBounds_toArray, List.set_cons_zero, List.set_cons_succ]
        refine wpAnyH_take (i := 13) (v := .int .i64 ((i : Int) + 2)) rfl (by kernel_rfl) (by decide +kernel) (by decide +kernel) (fun _ _ _ h => h) (Or.inl ⟨by rfl, fun w' hSw => ?_⟩) hHeld ?_
        · (go_simp)
        simp only [Act.put, List.getElem_toArray, List.getElem_cons_succ, List.getElem_cons_zero, List.setIfInBounds_toArray, List.set_cons_zero, List.set_cons_succ]
        refine wpAnyH_take (i := 14) (v := .pointer (some ⟨g, o + (i + 2), none⟩)) rfl (by kernel_rfl) (by decide +kernel) (by decide +kernel) (fun _ _ _ h => h) (Or.inl ⟨by rfl, fun w' hSw => ?_⟩) hHeld ?_
        · (go_simp)
        simp only [Act.put, List.getElem_toArray, List.getElem_cons_succ, List.getElem_cons_zero, List.setIfInBounds_toArray, List.set_cons_zero, List.set_cons_succ]
        refine wpAnyH_take (i := 15) (v := .int .u8 (c : Int)) rfl (by kernel_rfl) (by decide +kernel) (by decide +kernel) (fun _ _ _ h => h) (Or.inl ⟨by rfl, fun w' hSw => ?_⟩) hHeld ?_
        · (go_simp)
        simp only [Act.put, List.getElem_toArray, List.getElem_cons_succ, List.getElem_cons_zero, List.setIfInBounds_toArray, List.set_cons_zero, List.set_cons_succ]
        refine wpAnyH_ready (rs := [16, 17]) (by decide +kernel) (by simp) (AllReadyH.cons rfl (fun K hK => ?_) (AllReadyH.cons rfl (fun K hK => ?_) AllReadyH.nil))
        · simp only [List.getElem_toArray, List.getElem_cons_succ, List.getElem_cons_zero]
          rw [if_pos (by rfl)]
          go_simp
          go_at_call 14
          refine (DO.out _ (Kept.refl Old V).drew).mono ?_
          rintro e V1 ⟨rfl, L⟩
          obtain ⟨⟨pl1, m1, e1⟩, o1⟩ := pm.out.call L
          have hsz := m1.ff.kept.size
          have CV := HC.out V1 m1.ff.kept
          have M1 := Lib.hid m1
          have E1 := Lib.hid e1
          have OW := Lib.hid o1
          clear m1 o1 e1 L
          refine hK.out _ _ CV (fun hHeld => ?_)
          clear hK K CV
          refine wpAnyH_ready (rs := [17]) (by decide +kernel) (by simp) (AllReadyH.cons rfl (fun K hK => ?_) AllReadyH.nil)
          simp only [List.getElem_toArray, List.getElem_cons_succ, List.getElem_cons_zero]
          rw [if_pos (by rfl)]
          go_simp
          refine hK.out _ _ ⟨Bg.cell_on ((Kept.refl Old _).alloc _) hHeld.1, Bg.cell_on ((Kept.refl Old _).alloc _) hHeld.2.1, Bg.cell_on ((Kept.refl Old _).alloc _) hHeld.2.2⟩ (fun hHeld => ?_)
          clear hK K
          refine wpAnyH_ready (rs := [18]) (by decide +kernel) (by simp) (AllReadyH.cons rfl (fun K hK => ?_) AllReadyH.nil)
          simp only [List.getElem_toArray, List.getElem_cons_succ, List.getElem_cons_zero]
          rw [if_pos (by rfl)]
          go_simp
          refine hK.out _ _ ?_ (fun hHeld => ?_)
          · exact ⟨Bg.cell_on ((Kept.refl Old V1).alloc _) (HC.out V1 M1.out.ff.kept).1, Bg.cell_on ((Kept.refl Old V1).alloc _) (HC.out V1 M1.out.ff.kept).2.1, Bg.cell_on ((Kept.refl Old V1).alloc _) (HC.out V1 M1.out.ff.kept).2.2⟩
          clear hK K
          refine wpAnyH_done (by decide +kernel) ?_ _
          go_wp2_with (at_builtin; refine Lm.appD_wp rfl (.tmp 59) (.tmp 61) rfl rfl w.heap.size (.slice A ds.length c0) ds.length ds rfl (by first | exact (OW.out.alloc _).alloc _ | exact OW.out.alloc _) _ 1 1 [⟨dk, dn, da, dc⟩] rfl (Lm.RsD.one _ ⟨dk, dn, da, dc⟩ FD.out _ (by first | rfl | simp)) (by intro h; cases h) (by omega) (by omega) (by first | (simp; omega) | (simp at hsz ⊢; omega)) (ds.length + 1) rfl (ds ++ [⟨dk, dn, da, dc⟩]) rfl ?_; intro v9 w9 O9 k9 a9; obtain ⟨A9, c9, rfl, _⟩ := O9.out.rs)
          obtain ⟨pl9, m9, e9⟩ : ∃ pl9, Shp.StM w _ s P rk rc rl (Fo (.slice A9 (ds.length + 1) c9)) pl9 ∧ pl9.nw = nw := by
            first
              | exact app_store (M1.out.old (((Kept.refl Old _).alloc _).alloc _)) E1.out (fun b e => (OW.out.own b e).1) k9.out a9.out (fun b e => (O9.out.own b e).2)
              | exact app_store (M1.out.old ((Kept.refl Old _).alloc _)) E1.out (fun b e => (OW.out.own b e).1) k9.out a9.out (fun b e => (O9.out.own b e).2)
          refine ⟨⟨i + 3, A9, c9, ds ++ [⟨dk, dn, da, dc⟩], rk, rc, rl, pl9, by omega, by omega, by rw [le], by go_num, Lib.hid ⟨by rw [le]; exact m9, SV.out.1, e9, by rw [le]; exact O9.out, AC.out⟩⟩, ?_⟩
          simp [intOf]; omega
        · simp only [List.getElem_toArray, List.getElem_cons_succ, List.getElem_cons_zero]
          rw [if_pos (by rfl)]
          go_simp
          refine hK.out _ _ ⟨Bg.cell_on ((Kept.refl Old _).alloc _) hHeld.1, Bg.cell_on ((Kept.refl Old _).alloc _) hHeld.2.1, Bg.cell_on ((Kept.refl Old _).alloc _) hHeld.2.2⟩ (fun hHeld => ?_)
          clear hK K
          refine wpAnyH_ready (rs := [16]) (by decide +kernel) (by simp) (AllReadyH.cons rfl (fun K hK => ?_) AllReadyH.nil)
          simp only [List.getElem_toArray, List.getElem_cons_succ, List.getElem_cons_zero]
          rw [if_pos (by rfl)]
          go_simp
          go_at_call 14
          refine (DO2.out _ (by first | exact Kept.refl Old _ | exact (Kept.refl Old _).drew)).mono ?_
          rintro e V1 ⟨rfl, plx, bx⟩
          have CV := HC.out V1 bx.st.ff.kept
          obtain ⟨Z, hZ, r0, r1, r2, r3, L⟩ := bx.fin ⟨dk, dn, da, dc⟩
          have e0 : V1.cell? ⟨V.heap.size, 0, none⟩ = some (.int .i64 0) := bx.box.cell 0
          have e1 : V1.cell? ⟨V.heap.size, 1, none⟩ = some (.int .i64 0) := bx.box.cell 1
          have e2 : V1.cell? ⟨V.heap.size, 2, none⟩ = some (.int .i64 0) := bx.box.cell 2
          have e3 : V1.cell? ⟨V.heap.size, 3, none⟩ = some (.int .i64 0) := bx.box.cell 3
          have f0 := bx.box.frozen 0
          have f1 := bx.box.frozen 1
          have f2 := bx.box.frozen 2
          have f3 := bx.box.frozen 3
          obtain ⟨⟨pl1, m1, e1⟩, o1⟩ := pm.out.call L
          have hsz := m1.ff.kept.size
          have CZ := HC.out Z m1.ff.kept
          have M1 := Lib.hid m1
          have E1 := Lib.hid e1
          have OW := Lib.hid o1
          clear m1 o1 e1 L bx
          refine hK.out _ _ CV (fun hHeld => ?_)
          clear hK K CV
          refine wpAnyH_ready (rs := [18]) (by decide +kernel) (by simp) (AllReadyH.cons rfl (fun K hK => ?_) AllReadyH.nil)
          simp only [List.getElem_toArray, List.getElem_cons_succ, List.getElem_cons_zero]
          rw [if_pos (by rfl)]
          go_simp
          simp only [hZ] at *
          refine hK.out _ _ CZ (fun hHeld => ?_)
          clear hK K CZ
          refine wpAnyH_done (by decide +kernel) ?_ _
          go_wp2_with (at_builtin; refine Lm.appD_wp rfl (.tmp 59) (.tmp 61) rfl rfl w.heap.size (.slice A ds.length c0) ds.length ds rfl (by first | exact (OW.out.alloc _).alloc _ | exact OW.out.alloc _) _ 1 1 [⟨dk, dn, da, dc⟩] rfl (Lm.RsD.one _ ⟨dk, dn, da, dc⟩ FD.out _ (by first | rfl | simp)) (by intro h; cases h) (by omega) (by omega) (by first | (simp; omega) | (simp at hsz ⊢; omega)) (ds.length + 1) rfl (ds ++ [⟨dk, dn, da, dc⟩]) rfl ?_; intro v9 w9 O9 k9 a9; obtain ⟨A9, c9, rfl, _⟩ := O9.out.rs)
          obtain ⟨pl9, m9, e9⟩ : ∃ pl9, Shp.StM w _ s P rk rc rl (Fo (.slice A9 (ds.length + 1) c9)) pl9 ∧ pl9.nw = nw := by
            first
              | exact app_store (M1.out.old (((Kept.refl Old _).alloc _).alloc _)) E1.out (fun b e => (OW.out.own b e).1) k9.out a9.out (fun b e => (O9.out.own b e).2)
              | exact app_store (M1.out.old ((Kept.refl Old _).alloc _)) E1.out (fun b e => (OW.out.own b e).1) k9.out a9.out (fun b e => (O9.out.own b e).2)
          refine ⟨⟨i + 3, A9, c9, ds ++ [⟨dk, dn, da, dc⟩], rk, rc, rl, pl9, by omega, by omega, by rw [le], by go_num, Lib.hid ⟨by rw [le]; exact m9, SV.out.1, e9, by rw [le]; exact O9.out, AC.out⟩⟩, ?_⟩
          simp [intOf]; omega
    · have ways : ¬ (i : Int) + 2 < (len2 : Int) ∨ ((i : Int) + 2 < (len2 : Int) ∧ ¬ (i : Int) < 450) := by omega
      have rd : Lm.RsD V A ds.length ds := by
        obtain ⟨A', c', e, r, _⟩ := pm.out.ow.rs
        injection e with e1 e2 e3
        rw [e1]
        exact r
      have RD := Lib.hid rd
      have HL := Lib.hid pm.out.sv.val.len
      clear cc rd
      have zm : IntKind.i64.wrap ((P : Int) * 64) = (P : Int) * 64 := IntWalk.i64_in _ (by omega)
      rcases ways with h1 | ⟨h1, h2⟩
      all_goals
        go_wp2_with fail
        refine (Lm.new_any ((P : Int) * 64) _).mono ?_
        rintro e W2 ⟨rfl, k2⟩
        have PM2 := Lib.hid (pm.out.old k2)
        have AC := Lm.accepts_any ((P : Int) * 64) none 0 0 [] A ds.length c0 ds _ (Lm.RsS.nil _ _) VAL.out (Nat.le_refl _) (fun _ => rfl) (RD.out.old k2) (by omega)
        rw [pm.out.acc.m, pm.out.acc.k, pm.out.acc.f] at AC
        have AC := Lib.hid AC
        clear k2 RD pm
        go_wp2_with fail
        refine AC.out.mono ?_
        rintro e W3 ⟨v3, rfl, A3, n3, c3, rfl, R3, hc3, hA3, k3⟩
        have B4 := Lib.hid (Lm.Bm.new W3 ((P : Int) * 64) (.slice A3 n3 c3))
        have K4 := k3.alloc (.cells #[.int .i64 ((P : Int) * 64), .slice A3 n3 c3] 63)
        have PM4 := Lib.hid (PM2.out.old K4)
        have R4 := Lib.hid (R3.old ((Kept.refl Old W3).alloc (.cells #[.int .i64 ((P : Int) * 64), .slice A3 n3 c3] 63)))
        clear hA3 hc3 k3 K4 PM2 AC R3
        generalize hW4 : W3.alloc (.cells #[.int .i64 ((P : Int) * 64), .slice A3 n3 c3] 63) = W4 at *
        have y0 := B4.out.c0
        have y1 := B4.out.c1
        have LI := Lib.hid (fun X (q : Kept Old W4 X) => Shp.slive_any (PM4.out.st.old q) (by have := HL.out; omega))
        have ln3 : n3 ≤ 1000 := by have := R4.out.len; have := HL.out; omega
        go_wp2_with fail
        try rw [hW4]
        refine wp_region_held_drew (S := (fun w' => w'.cell? ⟨W3.heap.size, 1, none⟩ = some (.slice A3 n3 c3))) (by kernel_rfl) y1 (fun hHeld => ?_)
        refine wpAnyH_take (i := 0) (v := .bool true) rfl (by kernel_rfl) (by decide +kernel) (by decide +kernel) (fun _ _ _ h => h) (Or.inl ⟨by rfl, fun w' hSw => ?_⟩) hHeld ?_
        · (go_simp)
        simp only [Act.put, List.getElem_toArray, List.getElem_cons_zero, List.setIfInBounds_toArray, List.set_cons_zero, List.set_cons_succ]
        refine wpAnyH_take (i := 1) (v := .bool true) rfl (by kernel_rfl) (by decide +kernel) (by decide +kernel) (fun _ _ _ h => h) (Or.inl ⟨by rfl, fun w' hSw => ?_⟩) hHeld ?_
        · (go_simp)
        simp only [Act.put, List.getElem_toArray, List.getElem_cons_succ, List.getElem_cons_zero, List.setIfInBounds_toArray, List.set_cons_zero, List.set_cons_succ]
        refine wpAnyH_take (i := 2) (v := .int .i64 (ds.length : Int)) rfl (by kernel_rfl) (by decide +kernel) (by decide +kernel) (fun _ _ _ h => h) (Or.inl ⟨by rfl, fun w' hSw => ?_⟩) hHeld ?_
        · (go_simp)
        simp only [Act.put, List.getElem_toArray, List.getElem_cons_succ, List.getElem_cons_zero, List.setIfInBounds_toArray, List.set_cons_zero, List.set_cons_succ]
        refine wpAnyH_take (i := 3) (v := .slice A ds.length c0) rfl (by kernel_rfl) (by decide +kernel) (by decide +kernel) (fun _ _ _ h => h) (Or.inl ⟨by rfl, fun w' hSw => ?_⟩) hHeld ?_
        · (go_simp)
        simp only [Act.put, List.getElem_toArray, List.getElem_cons_succ, List.getElem_cons_zero, List.setIfInBounds_toArray, List.set_cons_zero, List.set_cons_succ]
        refine wpAnyH_take (i := 4) (v := .int .i64 (ds.length : Int)) rfl (by kernel_rfl) (by decide +kernel) (by decide +kernel) (fun _ _ _ h => h) (Or.inl ⟨by rfl, fun w' hSw => ?_⟩) hHeld ?_
        · (go_simp)
        simp only [Act.put, List.getElem_toArray, List.getElem_cons_succ, List.getElem_cons_zero, List.setIfInBounds_toArray, List.set_cons_zero, List.set_cons_succ]
        refine wpAnyH_take (i := 5) (v := .bool true) rfl (by kernel_rfl) (by decide +kernel) (by decide +kernel) (fun _ _ _ h => h) (Or.inl ⟨by rfl, fun w' hSw => ?_⟩) hHeld ?_
        · (go_simp)
        simp only [Act.put, List.getElem_toArray, List.getElem_cons_succ, List.getElem_cons_zero, List.setIfInBounds_toArray, List.set_cons_zero, List.set_cons_succ]
        refine wpAnyH_take (i := 6) (v := .bool true) rfl (by kernel_rfl) (by decide +kernel) (by decide +kernel) (fun _ _ _ h => h) (Or.inl ⟨by rfl, fun w' hSw => ?_⟩) hHeld ?_
        · (go_simp)
        simp only [Act.put, List.getElem_toArray, List.getElem_cons_succ, List.getElem_cons_zero, List.setIfInBounds_toArray, List.set_cons_zero, List.set_cons_succ]
        refine wpAnyH_take (i := 7) (v := .bool true) rfl (by kernel_rfl) (by decide +kernel) (by decide +kernel) (fun _ _ _ h => h) (Or.inl ⟨by rfl, fun w' hSw => ?_⟩) hHeld ?_
        · (go_simp)
        simp only [Act.put, List.getElem_toArray, List.getElem_cons_succ, List.getElem_cons_zero, List.setIfInBounds_toArray, List.set_cons_zero, List.set_cons_succ]
        refine wpAnyH_take (i := 8) (v := .pointer (some ⟨W3.heap.size, 1, none⟩)) rfl (by kernel_rfl) (by decide +kernel) (by decide +kernel) (fun _ _ _ h => h) (Or.inl ⟨by rfl, fun w' hSw => ?_⟩) hHeld ?_
        · (go_simp)
        simp only [Act.put, List.getElem_toArray, List.getElem_cons_succ, List.getElem_cons_zero, List.setIfInBounds_toArray, List.set_cons_zero, List.set_cons_succ]
        refine wpAnyH_take (i := 9) (v := .slice A3 n3 c3) rfl (by kernel_rfl) (by decide +kernel) (by decide +kernel) (fun _ _ _ h => h) (Or.inl ⟨by rfl, fun w' hSw => ?_⟩) hHeld ?_
        · (go_simp)
        simp only [Act.put, List.getElem_toArray, List.getElem_cons_succ, List.getElem_cons_zero, List.setIfInBounds_toArray, List.set_cons_zero, List.set_cons_succ]
        refine wpAnyH_take (i := 10) (v := ptr s) rfl (by kernel_rfl) (by decide +kernel) (by decide +kernel) (fun _ _ _ h => h) (Or.inl ⟨by rfl, fun w' hSw => ?_⟩) hHeld ?_
        · (go_simp)
        simp only [Act.put, List.getElem_toArray, List.getElem_cons_succ, List.getElem_cons_zero, List.setIfInBounds_toArray, List.set_cons_zero, List.set_cons_succ]
        refine wpAnyH_ready (rs := [11]) (by decide +kernel) (by simp) (AllReadyH.cons rfl (fun K hK => ?_) AllReadyH.nil)
        simp only [List.getElem_toArray, List.getElem_cons_succ, List.getElem_cons_zero]
        rw [if_pos (by rfl)]
        go_simp
        go_at_call 27
        refine (LI.out _ (Kept.refl Old W4).drew).mono ?_
        rintro e X ⟨v5, rfl, A5, n5, c5, rfl, R5, _, _, k5⟩
        have KX := Lib.hid (show Kept Old W4 X from (Kept.refl Old W4).drew.trans k5)
        obtain rfl : n5 = n3 := R5.len.symm.trans R4.out.len
        have RA := Lib.hid (R4.out.old KX.out)
        have RB := Lib.hid R5
        refine hK.out _ _ (Bg.cell_on k5 hHeld) (fun hHeld => ?_)
        clear hK K R5 k5
        refine wpAnyH_ready (rs := [12]) (by decide +kernel) (by simp) (AllReadyH.cons rfl (fun K hK => ?_) AllReadyH.nil)
        simp only [List.getElem_toArray, List.getElem_cons_succ, List.getElem_cons_zero]
        rw [if_pos (by rfl)]
        go_simp
        go_at_call 35
        refine (Lm.samel_yes A3 A5 _ c3 c5 live _ RA.out RB.out (by omega)).mono ?_
        rintro e X2 ⟨rfl, k6⟩
        have K6 := Lib.hid (KX.out.trans k6)
        refine hK.out _ _ (Bg.cell_on k6 hHeld) (fun hHeld => ?_)
        clear hK K k6
        refine wpAnyH_take (i := 13) (v := .bool true) rfl (by kernel_rfl) (by decide +kernel) (by decide +kernel) (fun _ _ _ h => h) (Or.inl ⟨by rfl, fun w' hSw => ?_⟩) hHeld ?_
        · (go_simp)
        simp only [Act.put, List.getElem_toArray, List.getElem_cons_succ, List.getElem_cons_zero, List.setIfInBounds_toArray, List.set_cons_zero, List.set_cons_succ]
        refine wpAnyH_take (i := 14) (v := .bool true) rfl (by kernel_rfl) (by decide +kernel) (by decide +kernel) (fun _ _ _ h => h) (Or.inl ⟨by rfl, fun w' hSw => ?_⟩) hHeld ?_
        · (go_simp)
        simp only [Act.put, List.getElem_toArray, List.getElem_cons_succ, List.getElem_cons_zero, List.setIfInBounds_toArray, List.set_cons_zero, List.set_cons_succ]
        refine wpAnyH_ready (rs := [15]) (by decide +kernel) (by simp) (AllReadyH.cons rfl (fun K hK => ?_) AllReadyH.nil)
        simp only [List.getElem_toArray, List.getElem_cons_succ, List.getElem_cons_zero]
        rw [if_pos (by rfl)]
        go_simp
        go_at_call 17
        refine (Shp.awake_any _).mono ?_
        rintro e X3 ⟨rfl, k7⟩
        have K7 := Lib.hid (K6.out.trans k7)
        refine hK.out _ _ (Bg.cell_on k7 hHeld) (fun hHeld => ?_)
        clear hK K k7
        refine wpAnyH_take (i := 16) (v := .bool true) rfl (by kernel_rfl) (by decide +kernel) (by decide +kernel) (fun _ _ _ h => h) (Or.inl ⟨by rfl, fun w' hSw => ?_⟩) hHeld ?_
        · (go_simp)
        simp only [Act.put, List.getElem_toArray, List.getElem_cons_succ, List.getElem_cons_zero, List.setIfInBounds_toArray, List.set_cons_zero, List.set_cons_succ]
        refine wpAnyH_take (i := 17) (v := .bool true) rfl (by kernel_rfl) (by decide +kernel) (by decide +kernel) (fun _ _ _ h => h) (Or.inl ⟨by rfl, fun w' hSw => ?_⟩) hHeld ?_
        · (go_simp)
        simp only [Act.put, List.getElem_toArray, List.getElem_cons_succ, List.getElem_cons_zero, List.setIfInBounds_toArray, List.set_cons_zero, List.set_cons_succ]
        refine wpAnyH_done (by decide +kernel) ?_ _
        go_wp2_with fail
        go_ret
        exact ⟨rfl, PM4.out.st.ff.kept.trans K7.out⟩

/-- The row's step. -/
theorem lifted (os : Os) (started : os.Started) (H : Type) (enc : TypeId × Value → H) :
    ReturnsInHanded {} Tryz.checked os 8 .any (Rows.shopModelSpec.pre6 enc Tryz.prog Tryz.f8 Rows.shopModelRow.domain false) (Rows.shopModelSpec.post enc Tryz.prog Tryz.f8 false true false false) := by
  refine returnsInHanded_of_change_sized (C := Tryz.checked) own started (by kernel_rfl) Tryz.func8
    (ChangeSpec.witness6 (enc := enc) (C := Tryz.checked) false ⟨#[], #[.int .u8 0, .int .u8 0, .slice none 0 0], []⟩ 8 (by kernel_rfl) (by kernel_rfl) (by kernel_rfl) (by kernel_rfl)) ?_
  intro W base args ds gs before hval0 hW hcnd hsz0 _
  have hsz : (DataW.weightsEach Tryz.prog (Tryz.f8.params.toList ++ Rows.shopModelSpec.plain.varTypes Tryz.prog) (ds ++ gs)).all (· ≤ reachBytes) = true := hsz0
  have hval : ∀ (j : Nat) t v, Tryz.f8.params[j]? = some t → args[j]? = some v → Value.okWide Tryz.prog W .any base t v := hval0
  have hW' := hW
  obtain ⟨p, q, hA0, hV, rfl, hfz, hnd⟩ := hW
  have hA : DataW.TrodAll enc Tryz.prog W 0 (fun _ => true) true Tryz.f8.params.toList args.toList ds p := hA0
  rw [Tryz.params8] at hA hval hsz
  obtain ⟨v0, vs0, d0, ds0, p0, q0, hargs, rfl, rfl, h0, r0⟩ := trodAll_cons hA
  obtain ⟨v1, vs1, d1, ds1, p1, q1, rfl, rfl, rfl, h1, r1⟩ := trodAll_cons r0
  obtain ⟨v2, vs2, d2, ds2, p2, q2, rfl, rfl, rfl, h2, r2⟩ := trodAll_cons r1
  obtain ⟨rfl, rfl, rfl⟩ := trodAll_nil r2
  obtain rfl : args = #[v0, v1, v2] := by cases args; simp_all
  obtain ⟨rfl, rfl⟩ := trodVars_none hV
  obtain ⟨a0, rfl, rfl, rfl, w0⟩ := open_int Tryz.underlying5 (hval 0 5 v0 rfl rfl) h0
  obtain ⟨a1, rfl, rfl, rfl, w1⟩ := open_int Tryz.underlying5 (hval 1 5 v1 rfl rfl) h1
  have k2 := h2
  have lt2 : ∀ x ∈ p2, x.block < W.heap.size := by obtain ⟨m, hm⟩ := k2; exact DataW.trod_lt m _ _ _ hm
  obtain ⟨a2, len2, cap2, rfl⟩ := okWide_slice Tryz.underlying22 (hval 2 22 v2 rfl rfl)
  obtain ⟨z2, w2⟩ := ints_in Tryz.underlying22 Tryz.underlying5 (by kernel_rfl) h2
  have rch2 := slice_reach (j := 2) Tryz.underlying22 (show Tryz.prog.bytesOf 5 = 1 by kernel_rfl) k2 hsz rfl rfl
  clear hA0 hval0
  refine (walk a0 a1 a2 len2 cap2 z2 W w0 w1 w2 rch2).mono fun e W' ⟨he, kept⟩ => ?_
  subst he
  have bel : Below W.heap.size W W' := kept.toBelow (Nat.le_refl _) (fun _ x => x.elim)
  exact ⟨_, rfl, _, _, _, [], _, [], hW', trodAll_mk1 (shut_bool Tryz.underlying4 _), (trodAll_cons_mk (shut_int Tryz.underlying5 w0) (trodAll_cons_mk (shut_int Tryz.underlying5 w1) (trodAll_cons_mk (Below.trod laidOut (by kernel_rfl) (of_decide_eq_true (by kernel_rfl)) k2 bel lt2) trodAll_mk0))), rfl, bel.frame _, fun h => by cases h⟩

theorem over : Rows.ShopModelSaid :=
  OpenClaim.holds_of_wide 8 Tryz.f8 rfl rfl rfl rfl rfl rfl rfl ⟨rfl, rfl, rfl, rfl, rfl⟩ rfl rfl rfl rfl rfl (by kernel_rfl) Tryz.func8 (by kernel_rfl)
    (of_decide_eq_true (by kernel_rfl)) (by unfold Func.isWrapper; first | (rw [if_pos (by decide +kernel)]; kernel_rfl) | (rw [if_neg (by decide +kernel)]; exact ⟨rfl, rfl⟩))
    (fun os started H enc _ => lifted os started H enc)

/-- The statement. -/
theorem proved : Rows.ShopModelSaid := over
#print axioms proved
end Go.Proofs.YtcndilpaijapkaaGreat.shopModel
