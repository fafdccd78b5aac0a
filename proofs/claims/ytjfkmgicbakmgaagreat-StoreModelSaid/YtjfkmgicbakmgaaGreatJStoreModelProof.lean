/-
  For every input the law StoreModel of rickyard/rickyardlaw14 returns true, and its arguments read afterwards as before. The law's own sentence: What all calls answered, in their order, is what the model accepts; its live stacks are the store's. No further conditions.
-/
import Derived.Test.YtjfkmgicbakmgaaGreatRows
import Derived.SizedLaws
import Derived.WalkKit
import Derived.ProofKit
import Derived.OpenShut
import Derived.ChangeOld
import Derived.Below
import Derived.Lib.SmallJoins
import Derived.Test.YtjfkmgicbakmgaaGreatJBase
import Derived.Test.YtjfkmgicbakmgaaGreatJModelAcc
import Derived.Test.YtjfkmgicbakmgaaGreatJModelNew
import Derived.Test.YtjfkmgicbakmgaaGreatJStoreDeeds
import Derived.Test.YtjfkmgicbakmgaaGreatJStoreParts
namespace Go.Proofs.YtjfkmgicbakmgaaGreat.storeModel
open Go.ChangeShapes Go.WideShapes Go.ChangeAt Go.RowKit
set_option linter.unusedVariables false
set_option maxRecDepth 100000

theorem own : ownKnob Tryz.prog.godebug = none := by kernel_rfl
theorem laidOut : laidOutB Tryz.prog = true := by kernel_rfl
open Sto

set_option maxHeartbeats 4000000 in
/-- The walk: the Go text returns true, and nothing that was there has turned. -/
theorem walk (a0 : Int) (a1 : Option Addr) (len1 cap1 : Nat) (z1 : Nat → Int) (w : World) (w0 : (Lit.int .u8 a0).wf = true) (w1 : len1 ≤ cap1 ∧ cap1 ≤ maxLen ∧ (∀ i, i < len1 → (Lit.int .u8 (z1 i)).wf = true) ∧ Sl w a1 1 len1 fun i _ => .int .u8 (z1 i)) (rch1 : cap1 * 1 ≤ 140737488351232 ∧ (a1 = none → len1 = 0 ∧ cap1 = 0)) :
    Calls Tryz.prog 8 #[.int .u8 a0, .slice a1 len1 cap1] w fun e w' => e = .returned (.bool true) ∧ Kept Old w w' := by
  obtain ⟨v0, v1, v2, v3⟩ := w1
  have hl : len1 ≤ 9223372036854775807 := by unfold maxLen at v1; omega
  have hz := Lib.hid (show ∀ i, i < len1 → 0 ≤ z1 i ∧ z1 i ≤ 255 from fun i hi => bounds_u8 (v2 i hi))
  have HS := Lib.hid v3
  obtain ⟨p1, p2⟩ := bounds_u8 w0
  obtain ⟨u, rfl⟩ : ∃ u : Nat, a0 = (u : Int) := ⟨a0.toNat, by omega⟩
  obtain ⟨P, hP, P1, P2⟩ : ∃ P : Nat, 1 + (u : Int) = (P : Int) ∧ 1 ≤ P ∧ P ≤ 256 := ⟨1 + u, by omega, by omega, by omega⟩
  have NS := Lib.hid (snew_yes w P (fun _ => False) w P1 P2 (Kept.refl Old w) (fun _ h => h.elim))
  clear v0 v1 v2 v3 w0
  go_enter Tryz.func8, Tryz.ntmps8
  go_wp2_with fail
  refine NS.out.mono ?_
  rintro e W1 ⟨s, rfl, ⟨pl, m⟩, k1, _⟩
  have PM0 := Lib.hid (show Pm w W1 s P (.slice none 0 0) [] (K0 P) [] pl from ⟨m.less (fun b h => (by cases h)), Sv.new P1 P2, Lm.OwD.nil _ _, Acc.nil _⟩)
  have VAL := Lib.hid (show Lm.Valid ((P : Int) * 64) [] from PM0.out.sv.val)
  clear m k1 NS
  go_wp2_with fail
  go_loopw [7, 8] (fun s7 s8 wr => ∃ (i : Nat) (A : Option Addr) (c : Nat) (ds : List Lm.D) (k : Sto.K) (live : List Lm.S) (pl : Pl), i ≤ 301 ∧ ds.length ≤ i ∧ s7 = .slice A ds.length c ∧ s8 = .int .i64 (i : Int) ∧ Hid (Pm w wr s P (.slice A ds.length c) ds k live pl)) (fun _ s8 _ => 302 - (intOf s8).toNat)
  case atStart => exact ⟨0, none, 0, [], _, _, _, by omega, Nat.le_refl _, rfl, rfl, PM0⟩
  case round =>
    clear PM0
    obtain ⟨i, A, c, ds, k, live, pl, hi, hds, rfl, rfl, pm⟩ := hrel
    rename World => V
    have wi : IntKind.i64.wrap ((i : Int) + 1) = (i : Int) + 1 := IntWalk.i64_in _ (by omega)
    have wi2 : IntKind.i64.wrap ((i : Int) + 2) = (i : Int) + 2 := IntWalk.i64_in _ (by omega)
    by_cases cc : i + 1 < len1 ∧ i < 300
    · obtain ⟨c1, c2⟩ := cc
      have ci : (i : Int) + 1 < (len1 : Int) := by omega
      have ci0 : (i : Int) < (len1 : Int) := by omega
      have ci2 : (i : Int) < 300 := by omega
      have ci3 : ¬ (i : Int) + 1 < 0 := by omega
      have ci4 : ¬ (i : Int) < 0 := by omega
      obtain ⟨g, o, rfl, hg, hc⟩ := (HS.out.old pm.out.st.ff.kept).lies (by omega)
      have d0 := hc i 0 (by omega) (by omega)
      have d1 := hc (i + 1) 0 (by omega) (by omega)
      simp only [Nat.mul_one, Nat.add_zero] at d0 d1
      obtain ⟨q0, q1⟩ := hz.out i (by omega)
      obtain ⟨q2, q3⟩ := hz.out (i + 1) (by omega)
      obtain ⟨a, ha, ha5⟩ : ∃ a : Nat, z1 i = (a : Int) ∧ a ≤ 255 := ⟨(z1 i).toNat, by omega, by omega⟩
      obtain ⟨b, hb, hb5⟩ : ∃ b : Nat, z1 (i + 1) = (b : Int) ∧ b ≤ 255 := ⟨(z1 (i + 1)).toNat, by omega, by omega⟩
      rw [ha] at d0
      rw [hb] at d1
      have HC := Lib.hid (fun X (q : Kept Old w X) => (show X.cell? ⟨g, o + i, none⟩ = some (.int .u8 (a : Int)) ∧ X.cell? ⟨g, o + (i + 1), none⟩ = some (.int .u8 (b : Int)) from by
        obtain ⟨g2, o2, e2, hg2, hc2⟩ := (HS.out.old q).lies (by omega)
        injection e2 with e2
        injection e2 with e3 e4
        subst e3
        subst e4
        have x0 := hc2 i 0 (by omega) (by omega)
        have x1 := hc2 (i + 1) 0 (by omega) (by omega)
        simp only [Nat.mul_one, Nat.add_zero] at x0 x1
        rw [ha] at x0
        rw [hb] at x1
        exact ⟨x0, x1⟩))
      clear hc q0 q1 q2 q3 ha hb
      obtain ⟨rk, rl, dk, dn, da, dc, hr⟩ : ∃ rk rl dk dn da dc, doR P k live a b = (rk, rl, ⟨dk, dn, da, dc⟩) := ⟨_, _, _, _, _, _, rfl⟩
      have SV := Lib.hid (pm.out.sv.doR a b)
      have FD := Lib.hid (do_fit pm.out.sv a b hb5)
      rw [hr] at SV FD
      have DO : ∀ X, Kept Old V X → Calls Tryz.prog 14 #[ptr s, .int .u8 (a : Int), .int .u8 (b : Int)] X fun e W' => e = .returned (deedV ⟨dk, dn, da, dc⟩) ∧ Sto.Left w V W' s P rk rl (Fo (.slice A ds.length c)) pl := fun X q => by
        have h := do_any a b ha5 hb5 (pm.out.st.old q) pm.out.sv
        unfold DoPost at h
        rw [hr] at h
        refine h.mono ?_
        rintro e W' ⟨rfl, L⟩
        exact ⟨rfl, Sto.Left.trans (pl1 := pl.re V.heap.size 97) ⟨rfl, rfl, rfl⟩ q.any L⟩
      have DO := Lib.hid DO
      have DO2 : ∀ X, Kept Old (V.alloc (.cells zeroD.toArray 29)) X → Calls Tryz.prog 14 #[ptr s, .int .u8 (a : Int), .int .u8 (b : Int)] X fun e W' => e = .returned (deedV ⟨dk, dn, da, dc⟩) ∧ ∃ pl', Bs w V W' s P rk rl (Fo (.slice A ds.length c)) pl pl' V.heap.size := fun X q => by
        obtain ⟨plx, bx⟩ := (Bs.start pm.out.st).old q
        have h := do_any a b ha5 hb5 bx.st pm.out.sv
        unfold DoPost at h
        rw [hr] at h
        refine h.mono ?_
        rintro e W' ⟨rfl, L⟩
        exact ⟨rfl, bx.left L⟩
      have DO2 := Lib.hid DO2
      clear hr c1 c2
      by_cases hk : dk = 0
      · subst hk
        obtain rfl : rl = live := SV.out.2.1 rfl
        go_wp2_with fail
        refine wp_region_held_drew (S := (fun w' => w'.cell? ⟨g, o + i, none⟩ = some (.int .u8 (a : Int)) ∧ w'.cell? ⟨g, o + (i + 1), none⟩ = some (.int .u8 (b : Int)))) (by kernel_rfl) ⟨d0, d1⟩ (fun hHeld => ?_)
        refine wpAnyH_take (i := 0) (v := ptr s) rfl (by kernel_rfl) (by decide +kernel) (by decide +kernel) (fun _ _ _ h => h) (Or.inl ⟨by rfl, fun w' hSw => ?_⟩) hHeld ?_
        · (go_simp)
        simp only [Act.put, List.getElem_toArray, List.getElem_cons_zero, List.setIfInBounds_toArray, List.set_cons_zero, List.set_cons_succ]
        refine wpAnyH_take (i := 1) (v := .slice (some ⟨g, o, none⟩) len1 cap1) rfl (by kernel_rfl) (by decide +kernel) (by decide +kernel) (fun _ _ _ h => h) (Or.inl ⟨by rfl, fun w' hSw => ?_⟩) hHeld ?_
        · (go_simp)
        simp only [Act.put, List.getElem_toArray, List.getElem_cons_succ, List.getElem_cons_zero, List.setIfInBounds_toArray, List.set_cons_zero, List.set_cons_succ]
        refine wpAnyH_take (i := 2) (v := .int .i64 (i : Int)) rfl (by kernel_rfl) (by decide +kernel) (by decide +kernel) (fun _ _ _ h => h) (Or.inl ⟨by rfl, fun w' hSw => ?_⟩) hHeld ?_
        · (go_simp)
        simp only [Act.put, List.getElem_toArray, List.getElem_cons_succ, List.getElem_cons_zero, List.setIfInBounds_toArray, List.set_cons_zero, List.set_cons_succ]
        refine wpAnyH_take (i := 3) (v := .pointer (some ⟨g, o + i, none⟩)) rfl (by kernel_rfl) (by decide +kernel) (by decide +kernel) (fun _ _ _ h => h) (Or.inl ⟨by rfl, fun w' hSw => ?_⟩) hHeld ?_
        · (go_simp)
        simp only [Act.put, List.getElem_toArray, List.getElem_cons_succ, List.getElem_cons_zero, List.setIfInBounds_toArray, List.set_cons_zero, List.set_cons_succ]
        refine wpAnyH_take (i := 4) (v := .int .u8 (a : Int)) rfl (by kernel_rfl) (by decide +kernel) (by decide +kernel) (fun _ _ _ h => h) (Or.inl ⟨by rfl, fun w' hSw => ?_⟩) hHeld ?_
        · (go_simp)
        simp only [Act.put, List.getElem_toArray, List.getElem_cons_succ, List.getElem_cons_zero, List.setIfInBounds_toArray, List.set_cons_zero, List.set_cons_succ]
        refine wpAnyH_take (i := 5) (v := .slice (some ⟨g, o, none⟩) len1 cap1) rfl (by kernel_rfl) (by decide +kernel) (by decide +kernel) (fun _ _ _ h => h) (Or.inl ⟨by rfl, fun w' hSw => ?_⟩) hHeld ?_
        · (go_simp)
        simp only [Act.put, List.getElem_toArray, List.getElem_cons_succ, List.getElem_cons_zero, List.setIfInBounds_toArray, List.set_cons_zero, List.set_cons_succ]
        refine wpAnyH_take (i := 6) (v := .int .i64 (i : Int)) rfl (by kernel_rfl) (by decide +kernel) (by decide +kernel) (fun _ _ _ h => h) (Or.inl ⟨by rfl, fun w' hSw => ?_⟩) hHeld ?_
        · (go_simp)
        simp only [Act.put, List.getElem_toArray, List.getElem_cons_succ, List.getElem_cons_zero, List.setIfInBounds_toArray, List.set_cons_zero, List.set_cons_succ]
        refine wpAnyH_take (i := 7) (v := .int .i64 ((i : Int) + 1)) rfl (by kernel_rfl) (by decide +kernel) (by decide +kernel) (fun _ _ _ h => h) (Or.inl ⟨by rfl, fun w' hSw => ?_⟩) hHeld ?_
        · (go_simp)
        simp only [Act.put, List.getElem_toArray, List.getElem_cons_succ, List.getElem_cons_zero, List.setIfInBounds_toArray, List.set_cons_zero, List.set_cons_succ]
        refine wpAnyH_take (i := 8) (v := .pointer (some ⟨g, o + (i + 1), none⟩)) rfl (by kernel_rfl) (by decide +kernel) (by decide +kernel) (fun _ _ _ h => h) (Or.inl ⟨by rfl, fun w' hSw => ?_⟩) hHeld ?_
        · (go_simp)
        simp only [Act.put, List.getElem_toArray, List.getElem_cons_succ, List.getElem_cons_zero, List.setIfInBounds_toArray, List.set_cons_zero, List.set_cons_succ]
        refine wpAnyH_take (i := 9) (v := .int .u8 (b : Int)) rfl (by kernel_rfl) (by decide +kernel) (by decide +kernel) (fun _ _ _ h => h) (Or.inl ⟨by rfl, fun w' hSw => ?_⟩) hHeld ?_
        · (go_simp)
        simp only [Act.put, List.getElem_toArray, List.getElem_cons_succ, List.getElem_cons_zero, List.setIfInBounds_toArray, List.set_cons_zero, List.set_cons_succ]
        refine wpAnyH_ready (rs := [10, 11]) (by decide +kernel) (by simp) (AllReadyH.cons rfl (fun K hK => ?_) (AllReadyH.cons rfl (fun K hK => ?_) AllReadyH.nil))
        · simp only [List.getElem_toArray, List.getElem_cons_succ, List.getElem_cons_zero]
          rw [if_pos (by rfl)]
          go_simp
          go_at_call 14
          refine (DO.out _ (Kept.refl Old V).drew).mono ?_
          rintro e V1 ⟨rfl, L⟩
          obtain ⟨⟨pl1, m1⟩, o1⟩ := pm.out.call L
          have hsz := m1.ff.kept.size
          have CV := HC.out V1 m1.ff.kept
          have M1 := Lib.hid m1
          have OW := Lib.hid o1
          clear m1 o1 L
          refine hK.out _ _ CV (fun hHeld => ?_)
          clear hK K CV
          refine wpAnyH_ready (rs := [11]) (by decide +kernel) (by simp) (AllReadyH.cons rfl (fun K hK => ?_) AllReadyH.nil)
          simp only [List.getElem_toArray, List.getElem_cons_succ, List.getElem_cons_zero]
          rw [if_pos (by rfl)]
          go_simp
          refine hK.out _ _ ⟨Bg.cell_on ((Kept.refl Old _).alloc _) hHeld.1, Bg.cell_on ((Kept.refl Old _).alloc _) hHeld.2⟩ (fun hHeld => ?_)
          clear hK K
          refine wpAnyH_ready (rs := [12]) (by decide +kernel) (by simp) (AllReadyH.cons rfl (fun K hK => ?_) AllReadyH.nil)
          simp only [List.getElem_toArray, List.getElem_cons_succ, List.getElem_cons_zero]
          rw [if_pos (by rfl)]
          go_simp
          refine hK.out _ _ ?_ (fun hHeld => ?_)
          · exact ⟨(Bg.cell_on ((Kept.refl Old V1).alloc _) (HC.out V1 M1.out.ff.kept).1), Bg.cell_on ((Kept.refl Old V1).alloc _) (HC.out V1 M1.out.ff.kept).2⟩
          clear hK K
          refine wpAnyH_done (by decide +kernel) ?_ _
          go_wp2_with fail
          first
            | exact ⟨⟨i + 2, A, c, ds, rk, rl, _, by omega, by omega, rfl, by go_num, Lib.hid (Pm.old ⟨M1.out, SV.out.1, OW.out, pm.out.acc⟩ ((Kept.refl Old _).alloc _))⟩, by simp [intOf]; omega⟩
            | exact ⟨⟨i + 2, A, c, ds, rk, rl, _, by omega, by omega, rfl, by go_num, Lib.hid ⟨M1.out, SV.out.1, OW.out, pm.out.acc⟩⟩, by simp [intOf]; omega⟩
        · simp only [List.getElem_toArray, List.getElem_cons_succ, List.getElem_cons_zero]
          rw [if_pos (by rfl)]
          go_simp
          refine hK.out _ _ ⟨Bg.cell_on ((Kept.refl Old _).alloc _) hHeld.1, Bg.cell_on ((Kept.refl Old _).alloc _) hHeld.2⟩ (fun hHeld => ?_)
          clear hK K
          refine wpAnyH_ready (rs := [10]) (by decide +kernel) (by simp) (AllReadyH.cons rfl (fun K hK => ?_) AllReadyH.nil)
          simp only [List.getElem_toArray, List.getElem_cons_succ, List.getElem_cons_zero]
          rw [if_pos (by rfl)]
          go_simp
          go_at_call 14
          refine (DO2.out _ (by first | exact Kept.refl Old _ | exact (Kept.refl Old _).drew)).mono ?_
          rintro e V1 ⟨rfl, plx, bx⟩
          have CV := HC.out V1 bx.st.ff.kept
          obtain ⟨Z, hZ, r0, r1, r2, r3, L⟩ := bx.fin ⟨0, dn, da, dc⟩
          have e0 : V1.cell? ⟨V.heap.size, 0, none⟩ = some (.int .i64 0) := bx.box.cell 0
          have e1 : V1.cell? ⟨V.heap.size, 1, none⟩ = some (.int .i64 0) := bx.box.cell 1
          have e2 : V1.cell? ⟨V.heap.size, 2, none⟩ = some (.int .i64 0) := bx.box.cell 2
          have e3 : V1.cell? ⟨V.heap.size, 3, none⟩ = some (.int .i64 0) := bx.box.cell 3
          have f0 := bx.box.frozen 0
          have f1 := bx.box.frozen 1
          have f2 := bx.box.frozen 2
          have f3 := bx.box.frozen 3
          obtain ⟨⟨pl1, m1⟩, o1⟩ := pm.out.call L
          have hsz := m1.ff.kept.size
          have CZ := HC.out Z m1.ff.kept
          have M1 := Lib.hid m1
          have OW := Lib.hid o1
          clear m1 o1 L bx
          refine hK.out _ _ CV (fun hHeld => ?_)
          clear hK K CV
          refine wpAnyH_ready (rs := [12]) (by decide +kernel) (by simp) (AllReadyH.cons rfl (fun K hK => ?_) AllReadyH.nil)
          simp only [List.getElem_toArray, List.getElem_cons_succ, List.getElem_cons_zero]
          rw [if_pos (by rfl)]
          go_simp
          simp only [hZ] at *
          refine hK.out _ _ CZ (fun hHeld => ?_)
          clear hK K CZ
          refine wpAnyH_done (by decide +kernel) ?_ _
          go_wp2_with fail
          first
            | exact ⟨⟨i + 2, A, c, ds, rk, rl, _, by omega, by omega, rfl, by go_num, Lib.hid (Pm.old ⟨M1.out, SV.out.1, OW.out, pm.out.acc⟩ ((Kept.refl Old _).alloc _))⟩, by simp [intOf]; omega⟩
            | exact ⟨⟨i + 2, A, c, ds, rk, rl, _, by omega, by omega, rfl, by go_num, Lib.hid ⟨M1.out, SV.out.1, OW.out, pm.out.acc⟩⟩, by simp [intOf]; omega⟩
      · obtain ⟨ab, al⟩ := SV.out.2.2 hk
        have AC := Lib.hid (al ▸ pm.out.acc.app ab)
        clear ab al
        have le : (ds ++ [(⟨dk, dn, da, dc⟩ : Lm.D)]).length = ds.length + 1 := by simp
        go_wp2_with fail
        refine wp_region_held_drew (S := (fun w' => w'.cell? ⟨g, o + i, none⟩ = some (.int .u8 (a : Int)) ∧ w'.cell? ⟨g, o + (i + 1), none⟩ = some (.int .u8 (b : Int)))) (by kernel_rfl) ⟨d0, d1⟩ (fun hHeld => ?_)
        refine wpAnyH_take (i := 0) (v := ptr s) rfl (by kernel_rfl) (by decide +kernel) (by decide +kernel) (fun _ _ _ h => h) (Or.inl ⟨by rfl, fun w' hSw => ?_⟩) hHeld ?_
        · (go_simp)
        simp only [Act.put, List.getElem_toArray, List.getElem_cons_zero, List.setIfInBounds_toArray, List.set_cons_zero, List.set_cons_succ]
        refine wpAnyH_take (i := 1) (v := .slice (some ⟨g, o, none⟩) len1 cap1) rfl (by kernel_rfl) (by decide +kernel) (by decide +kernel) (fun _ _ _ h => h) (Or.inl ⟨by rfl, fun w' hSw => ?_⟩) hHeld ?_
        · (go_simp)
        simp only [Act.put, List.getElem_toArray, List.getElem_cons_succ, List.getElem_cons_zero, List.setIfInBounds_toArray, List.set_cons_zero, List.set_cons_succ]
        refine wpAnyH_take (i := 2) (v := .int .i64 (i : Int)) rfl (by kernel_rfl) (by decide +kernel) (by decide +kernel) (fun _ _ _ h => h) (Or.inl ⟨by rfl, fun w' hSw => ?_⟩) hHeld ?_
        · (go_simp)
        simp only [Act.put, List.getElem_toArray, List.getElem_cons_succ, List.getElem_cons_zero, List.setIfInBounds_toArray, List.set_cons_zero, List.set_cons_succ]
        refine wpAnyH_take (i := 3) (v := .pointer (some ⟨g, o + i, none⟩)) rfl (by kernel_rfl) (by decide +kernel) (by decide +kernel) (fun _ _ _ h => h) (Or.inl ⟨by rfl, fun w' hSw => ?_⟩) hHeld ?_
        · (go_simp)
        simp only [Act.put, List.getElem_toArray, List.getElem_cons_succ, List.getElem_cons_zero, List.setIfInBounds_toArray, List.set_cons_zero, List.set_cons_succ]
        refine wpAnyH_take (i := 4) (v := .int .u8 (a : Int)) rfl (by kernel_rfl) (by decide +kernel) (by decide +kernel) (fun _ _ _ h => h) (Or.inl ⟨by rfl, fun w' hSw => ?_⟩) hHeld ?_
        · (go_simp)
        simp only [Act.put, List.getElem_toArray, List.getElem_cons_succ, List.getElem_cons_zero, List.setIfInBounds_toArray, List.set_cons_zero, List.set_cons_succ]
        refine wpAnyH_take (i := 5) (v := .slice (some ⟨g, o, none⟩) len1 cap1) rfl (by kernel_rfl) (by decide +kernel) (by decide +kernel) (fun _ _ _ h => h) (Or.inl ⟨by rfl, fun w' hSw => ?_⟩) hHeld ?_
        · (go_simp)
        simp only [Act.put, List.getElem_toArray, List.getElem_cons_succ, List.getElem_cons_zero, List.setIfInBounds_toArray, List.set_cons_zero, List.set_cons_succ]
        refine wpAnyH_take (i := 6) (v := .int .i64 (i : Int)) rfl (by kernel_rfl) (by decide +kernel) (by decide +kernel) (fun _ _ _ h => h) (Or.inl ⟨by rfl, fun w' hSw => ?_⟩) hHeld ?_
        · (go_simp)
        simp only [Act.put, List.getElem_toArray, List.getElem_cons_succ, List.getElem_cons_zero, List.setIfInBounds_toArray, List.set_cons_zero, List.set_cons_succ]
        refine wpAnyH_take (i := 7) (v := .int .i64 ((i : Int) + 1)) rfl (by kernel_rfl) (by decide +kernel) (by decide +kernel) (fun _ _ _ h => h) (Or.inl ⟨by rfl, fun w' hSw => ?_⟩) hHeld ?_
        · (go_simp)
        simp only [Act.put, List.getElem_toArray, List.getElem_cons_succ, List.getElem_cons_zero, List.setIfInBounds_toArray, List.set_cons_zero, List.set_cons_succ]
        refine wpAnyH_take (i := 8) (v := .pointer (some ⟨g, o + (i + 1), none⟩)) rfl (by kernel_rfl) (by decide +kernel) (by decide +kernel) (fun _ _ _ h => h) (Or.inl ⟨by rfl, fun w' hSw => ?_⟩) hHeld ?_
        · (go_simp)
        simp only [Act.put, List.getElem_toArray, List.getElem_cons_succ, List.getElem_cons_zero, List.setIfInBounds_toArray, List.set_cons_zero, List.set_cons_succ]
        refine wpAnyH_take (i := 9) (v := .int .u8 (b : Int)) rfl (by kernel_rfl) (by decide +kernel) (by decide +kernel) (fun _ _ _ h => h) (Or.inl ⟨by rfl, fun w' hSw => ?_⟩) hHeld ?_
        · (go_simp)
        simp only [Act.put, List.getElem_toArray, List.getElem_cons_succ, List.getElem_cons_zero, List.setIfInBounds_toArray, List.set_cons_zero, List.set_cons_succ]
        refine wpAnyH_ready (rs := [10, 11]) (by decide +kernel) (by simp) (AllReadyH.cons rfl (fun K hK => ?_) (AllReadyH.cons rfl (fun K hK => ?_) AllReadyH.nil))
        · simp only [List.getElem_toArray, List.getElem_cons_succ, List.getElem_cons_zero]
          rw [if_pos (by rfl)]
          go_simp
          go_at_call 14
          refine (DO.out _ (Kept.refl Old V).drew).mono ?_
          rintro e V1 ⟨rfl, L⟩
          obtain ⟨⟨pl1, m1⟩, o1⟩ := pm.out.call L
          have hsz := m1.ff.kept.size
          have CV := HC.out V1 m1.ff.kept
          have M1 := Lib.hid m1
          have OW := Lib.hid o1
          clear m1 o1 L
          refine hK.out _ _ CV (fun hHeld => ?_)
          clear hK K CV
          refine wpAnyH_ready (rs := [11]) (by decide +kernel) (by simp) (AllReadyH.cons rfl (fun K hK => ?_) AllReadyH.nil)
          simp only [List.getElem_toArray, List.getElem_cons_succ, List.getElem_cons_zero]
          rw [if_pos (by rfl)]
          go_simp
          refine hK.out _ _ ⟨Bg.cell_on ((Kept.refl Old _).alloc _) hHeld.1, Bg.cell_on ((Kept.refl Old _).alloc _) hHeld.2⟩ (fun hHeld => ?_)
          clear hK K
          refine wpAnyH_ready (rs := [12]) (by decide +kernel) (by simp) (AllReadyH.cons rfl (fun K hK => ?_) AllReadyH.nil)
          simp only [List.getElem_toArray, List.getElem_cons_succ, List.getElem_cons_zero]
          rw [if_pos (by rfl)]
          go_simp
          refine hK.out _ _ ?_ (fun hHeld => ?_)
          · exact ⟨(Bg.cell_on ((Kept.refl Old V1).alloc _) (HC.out V1 M1.out.ff.kept).1), Bg.cell_on ((Kept.refl Old V1).alloc _) (HC.out V1 M1.out.ff.kept).2⟩
          clear hK K
          refine wpAnyH_done (by decide +kernel) ?_ _
          go_wp2_with (at_builtin; refine Lm.appD_wp rfl (.tmp 45) (.tmp 47) rfl rfl w.heap.size (.slice A ds.length c) ds.length ds rfl (by first | exact (OW.out.alloc _).alloc _ | exact OW.out.alloc _) _ 1 1 [⟨dk, dn, da, dc⟩] rfl (Lm.RsD.one _ ⟨dk, dn, da, dc⟩ FD.out _ (by first | rfl | simp)) (by intro h; cases h) (by omega) (by omega) (by first | (simp; omega) | (simp at hsz ⊢; omega)) (ds.length + 1) rfl (ds ++ [⟨dk, dn, da, dc⟩]) rfl ?_; intro v9 w9 O9 k9 a9; obtain ⟨A9, c9, rfl, _⟩ := O9.out.rs)
          obtain ⟨pl9, m9⟩ : ∃ pl9, StM w _ s P rk rl (Fo (.slice A9 (ds.length + 1) c9)) pl9 := by
            first
              | exact app_store (M1.out.old (((Kept.refl Old _).alloc _).alloc _)) (fun b e => (OW.out.own b e).1) k9.out a9.out (fun b e => (O9.out.own b e).2)
              | exact app_store (M1.out.old ((Kept.refl Old _).alloc _)) (fun b e => (OW.out.own b e).1) k9.out a9.out (fun b e => (O9.out.own b e).2)
          refine ⟨⟨i + 2, A9, c9, ds ++ [⟨dk, dn, da, dc⟩], rk, rl, pl9, by omega, by omega, by rw [le], by go_num, Lib.hid ⟨by rw [le]; exact m9, SV.out.1, by rw [le]; exact O9.out, AC.out⟩⟩, ?_⟩
          simp [intOf]; omega
        · simp only [List.getElem_toArray, List.getElem_cons_succ, List.getElem_cons_zero]
          rw [if_pos (by rfl)]
          go_simp
          refine hK.out _ _ ⟨Bg.cell_on ((Kept.refl Old _).alloc _) hHeld.1, Bg.cell_on ((Kept.refl Old _).alloc _) hHeld.2⟩ (fun hHeld => ?_)
          clear hK K
          refine wpAnyH_ready (rs := [10]) (by decide +kernel) (by simp) (AllReadyH.cons rfl (fun K hK => ?_) AllReadyH.nil)
          simp only [List.getElem_toArray, List.getElem_cons_succ, List.getElem_cons_zero]
          rw [if_pos (by rfl)]
          go_simp
          go_at_call 14
          refine (DO2.out _ (by first | exact Kept.refl Old _ | exact (Kept.refl Old _).drew)).mono ?_
          rintro e V1 ⟨rfl, plx, bx⟩
          have CV := HC.out V1 bx.st.ff.kept
          obtain ⟨Z, hZ, r0, r1, r2, r3, L⟩ := bx.fin ⟨dk, dn, da, dc⟩
          have e0 : V1.cell? ⟨V.heap.size, 0, none⟩ = some (.int .i64 0) := bx.box.cell 0
          have e1 : V1.cell? ⟨V.heap.size, 1, none⟩ = some (.int .i64 0) := bx.box.cell 1
          have e2 : V1.cell? ⟨V.heap.size, 2, none⟩ = some (.int .i64 0) := bx.box.cell 2
          have e3 : V1.cell? ⟨V.heap.size, 3, none⟩ = some (.int .i64 0) := bx.box.cell 3
          have f0 := bx.box.frozen 0
          have f1 := bx.box.frozen 1
          have f2 := bx.box.frozen 2
          have f3 := bx.box.frozen 3
          obtain ⟨⟨pl1, m1⟩, o1⟩ := pm.out.call L
          have hsz := m1.ff.kept.size
          have CZ := HC.out Z m1.ff.kept
          have M1 := Lib.hid m1
          have OW := Lib.hid o1
          clear m1 o1 L bx
          refine hK.out _ _ CV (fun hHeld => ?_)
          clear hK K CV
          refine wpAnyH_ready (rs := [12]) (by decide +kernel) (by simp) (AllReadyH.cons rfl (fun K hK => ?_) AllReadyH.nil)
          simp only [List.getElem_toArray, List.getElem_cons_succ, List.getElem_cons_zero]
          rw [if_pos (by rfl)]
          go_simp
          simp only [hZ] at *
          refine hK.out _ _ CZ (fun hHeld => ?_)
          clear hK K CZ
          refine wpAnyH_done (by decide +kernel) ?_ _
          go_wp2_with (at_builtin; refine Lm.appD_wp rfl (.tmp 45) (.tmp 47) rfl rfl w.heap.size (.slice A ds.length c) ds.length ds rfl (by first | exact (OW.out.alloc _).alloc _ | exact OW.out.alloc _) _ 1 1 [⟨dk, dn, da, dc⟩] rfl (Lm.RsD.one _ ⟨dk, dn, da, dc⟩ FD.out _ (by first | rfl | simp)) (by intro h; cases h) (by omega) (by omega) (by first | (simp; omega) | (simp at hsz ⊢; omega)) (ds.length + 1) rfl (ds ++ [⟨dk, dn, da, dc⟩]) rfl ?_; intro v9 w9 O9 k9 a9; obtain ⟨A9, c9, rfl, _⟩ := O9.out.rs)
          obtain ⟨pl9, m9⟩ : ∃ pl9, StM w _ s P rk rl (Fo (.slice A9 (ds.length + 1) c9)) pl9 := by
            first
              | exact app_store (M1.out.old (((Kept.refl Old _).alloc _).alloc _)) (fun b e => (OW.out.own b e).1) k9.out a9.out (fun b e => (O9.out.own b e).2)
              | exact app_store (M1.out.old ((Kept.refl Old _).alloc _)) (fun b e => (OW.out.own b e).1) k9.out a9.out (fun b e => (O9.out.own b e).2)
          refine ⟨⟨i + 2, A9, c9, ds ++ [⟨dk, dn, da, dc⟩], rk, rl, pl9, by omega, by omega, by rw [le], by go_num, Lib.hid ⟨by rw [le]; exact m9, SV.out.1, by rw [le]; exact O9.out, AC.out⟩⟩, ?_⟩
          simp [intOf]; omega
    · have ways : ¬ (i : Int) + 1 < (len1 : Int) ∨ ((i : Int) + 1 < (len1 : Int) ∧ ¬ (i : Int) < 300) := by omega
      have rd : Lm.RsD V A ds.length ds := by
        obtain ⟨A', c', e, r, _⟩ := pm.out.ow.rs
        injection e with e1 e2 e3
        rw [e1]
        exact r
      have RD := Lib.hid rd
      have HL := Lib.hid pm.out.sv.val.len
      clear cc rd
      have zm : IntKind.i64.wrap ((P : Int) * 64) = (P : Int) * 64 := IntWalk.i64_in _ (by omega)
      rcases ways with h1 | ⟨h1, h2⟩
      all_goals
        go_wp2_with fail
        refine (Lm.new_any ((P : Int) * 64) _).mono ?_
        rintro e W2 ⟨rfl, k2⟩
        have PM2 := Lib.hid (pm.out.old k2)
        have AC := Lm.accepts_any ((P : Int) * 64) none 0 0 [] A ds.length c ds _ (Lm.RsS.nil _ _) VAL.out (Nat.le_refl _) (fun _ => rfl) (RD.out.old k2) (by omega)
        rw [pm.out.acc.m, pm.out.acc.k, pm.out.acc.f] at AC
        have AC := Lib.hid AC
        clear k2 RD pm
        go_wp2_with fail
        refine AC.out.mono ?_
        rintro e W3 ⟨v3, rfl, A3, n3, c3, rfl, R3, hc3, hA3, k3⟩
        have B4 := Lib.hid (Lm.Bm.new W3 ((P : Int) * 64) (.slice A3 n3 c3))
        have K4 := k3.alloc (.cells #[.int .i64 ((P : Int) * 64), .slice A3 n3 c3] 67)
        have PM4 := Lib.hid (PM2.out.old K4)
        have R4 := Lib.hid (R3.old ((Kept.refl Old W3).alloc (.cells #[.int .i64 ((P : Int) * 64), .slice A3 n3 c3] 67)))
        clear hA3 hc3 k3 K4 PM2 AC R3
        generalize hW4 : W3.alloc (.cells #[.int .i64 ((P : Int) * 64), .slice A3 n3 c3] 67) = W4 at *
        have y0 := B4.out.c0
        have y1 := B4.out.c1
        have LI := Lib.hid (fun X (q : Kept Old W4 X) => slive_any (PM4.out.st.old q) (by have := HL.out; omega))
        have ln3 : n3 ≤ 1000 := by have := R4.out.len; have := HL.out; omega
        go_wp2_with fail
        try rw [hW4]
        refine wp_region_held_drew (S := (fun w' => w'.cell? ⟨W3.heap.size, 1, none⟩ = some (.slice A3 n3 c3))) (by kernel_rfl) y1 (fun hHeld => ?_)
        refine wpAnyH_take (i := 0) (v := .bool true) rfl (by kernel_rfl) (by decide +kernel) (by decide +kernel) (fun _ _ _ h => h) (Or.inl ⟨by rfl, fun w' hSw => ?_⟩) hHeld ?_
        · (go_simp)
        simp only [Act.put, List.getElem_toArray, List.getElem_cons_zero, List.setIfInBounds_toArray, List.set_cons_zero, List.set_cons_succ]
        refine wpAnyH_take (i := 1) (v := .bool true) rfl (by kernel_rfl) (by decide +kernel) (by decide +kernel) (fun _ _ _ h => h) (Or.inl ⟨by rfl, fun w' hSw => ?_⟩) hHeld ?_
        · (go_simp)
        simp only [Act.put, List.getElem_toArray, List.getElem_cons_succ, List.getElem_cons_zero, List.setIfInBounds_toArray, List.set_cons_zero, List.set_cons_succ]
        refine wpAnyH_take (i := 2) (v := .int .i64 (ds.length : Int)) rfl (by kernel_rfl) (by decide +kernel) (by decide +kernel) (fun _ _ _ h => h) (Or.inl ⟨by rfl, fun w' hSw => ?_⟩) hHeld ?_
        · (go_simp)
        simp only [Act.put, List.getElem_toArray, List.getElem_cons_succ, List.getElem_cons_zero, List.setIfInBounds_toArray, List.set_cons_zero, List.set_cons_succ]
        refine wpAnyH_take (i := 3) (v := .slice A ds.length c) rfl (by kernel_rfl) (by decide +kernel) (by decide +kernel) (fun _ _ _ h => h) (Or.inl ⟨by rfl, fun w' hSw => ?_⟩) hHeld ?_
        · (go_simp)
        simp only [Act.put, List.getElem_toArray, List.getElem_cons_succ, List.getElem_cons_zero, List.setIfInBounds_toArray, List.set_cons_zero, List.set_cons_succ]
        refine wpAnyH_take (i := 4) (v := .int .i64 (ds.length : Int)) rfl (by kernel_rfl) (by decide +kernel) (by decide +kernel) (fun _ _ _ h => h) (Or.inl ⟨by rfl, fun w' hSw => ?_⟩) hHeld ?_
        · (go_simp)
        simp only [Act.put, List.getElem_toArray, List.getElem_cons_succ, List.getElem_cons_zero, List.setIfInBounds_toArray, List.set_cons_zero, List.set_cons_succ]
        refine wpAnyH_take (i := 5) (v := .bool true) rfl (by kernel_rfl) (by decide +kernel) (by decide +kernel) (fun _ _ _ h => h) (Or.inl ⟨by rfl, fun w' hSw => ?_⟩) hHeld ?_
        · (go_simp)
        simp only [Act.put, List.getElem_toArray, List.getElem_cons_succ, List.getElem_cons_zero, List.setIfInBounds_toArray, List.set_cons_zero, List.set_cons_succ]
        refine wpAnyH_take (i := 6) (v := .bool true) rfl (by kernel_rfl) (by decide +kernel) (by decide +kernel) (fun _ _ _ h => h) (Or.inl ⟨by rfl, fun w' hSw => ?_⟩) hHeld ?_
        · (go_simp)
        simp only [Act.put, List.getElem_toArray, List.getElem_cons_succ, List.getElem_cons_zero, List.setIfInBounds_toArray, List.set_cons_zero, List.set_cons_succ]
        refine wpAnyH_take (i := 7) (v := .bool true) rfl (by kernel_rfl) (by decide +kernel) (by decide +kernel) (fun _ _ _ h => h) (Or.inl ⟨by rfl, fun w' hSw => ?_⟩) hHeld ?_
        · (go_simp)
        simp only [Act.put, List.getElem_toArray, List.getElem_cons_succ, List.getElem_cons_zero, List.setIfInBounds_toArray, List.set_cons_zero, List.set_cons_succ]
        refine wpAnyH_take (i := 8) (v := .pointer (some ⟨W3.heap.size, 1, none⟩)) rfl (by kernel_rfl) (by decide +kernel) (by decide +kernel) (fun _ _ _ h => h) (Or.inl ⟨by rfl, fun w' hSw => ?_⟩) hHeld ?_
        · (go_simp)
        simp only [Act.put, List.getElem_toArray, List.getElem_cons_succ, List.getElem_cons_zero, List.setIfInBounds_toArray, List.set_cons_zero, List.set_cons_succ]
        refine wpAnyH_take (i := 9) (v := .slice A3 n3 c3) rfl (by kernel_rfl) (by decide +kernel) (by decide +kernel) (fun _ _ _ h => h) (Or.inl ⟨by rfl, fun w' hSw => ?_⟩) hHeld ?_
        · (go_simp)
        simp only [Act.put, List.getElem_toArray, List.getElem_cons_succ, List.getElem_cons_zero, List.setIfInBounds_toArray, List.set_cons_zero, List.set_cons_succ]
        refine wpAnyH_take (i := 10) (v := ptr s) rfl (by kernel_rfl) (by decide +kernel) (by decide +kernel) (fun _ _ _ h => h) (Or.inl ⟨by rfl, fun w' hSw => ?_⟩) hHeld ?_
        · (go_simp)
        simp only [Act.put, List.getElem_toArray, List.getElem_cons_succ, List.getElem_cons_zero, List.setIfInBounds_toArray, List.set_cons_zero, List.set_cons_succ]
        refine wpAnyH_ready (rs := [11]) (by decide +kernel) (by simp) (AllReadyH.cons rfl (fun K hK => ?_) AllReadyH.nil)
        simp only [List.getElem_toArray, List.getElem_cons_succ, List.getElem_cons_zero]
        rw [if_pos (by rfl)]
        go_simp
        go_at_call 24
        refine (LI.out _ (Kept.refl Old W4).drew).mono ?_
        rintro e X ⟨v5, rfl, A5, n5, c5, rfl, R5, _, _, k5⟩
        have KX := Lib.hid (show Kept Old W4 X from (Kept.refl Old W4).drew.trans k5)
        obtain rfl : n5 = n3 := R5.len.symm.trans R4.out.len
        have RA := Lib.hid (R4.out.old KX.out)
        have RB := Lib.hid R5
        refine hK.out _ _ (Bg.cell_on k5 hHeld) (fun hHeld => ?_)
        clear hK K R5 k5
        refine wpAnyH_ready (rs := [12]) (by decide +kernel) (by simp) (AllReadyH.cons rfl (fun K hK => ?_) AllReadyH.nil)
        simp only [List.getElem_toArray, List.getElem_cons_succ, List.getElem_cons_zero]
        rw [if_pos (by rfl)]
        go_simp
        go_at_call 36
        refine (Lm.samel_yes A3 A5 _ c3 c5 live _ RA.out RB.out (by omega)).mono ?_
        rintro e X2 ⟨rfl, k6⟩
        have K6 := Lib.hid (KX.out.trans k6)
        refine hK.out _ _ (Bg.cell_on k6 hHeld) (fun hHeld => ?_)
        clear hK K k6
        refine wpAnyH_take (i := 13) (v := .bool true) rfl (by kernel_rfl) (by decide +kernel) (by decide +kernel) (fun _ _ _ h => h) (Or.inl ⟨by rfl, fun w' hSw => ?_⟩) hHeld ?_
        · (go_simp)
        simp only [Act.put, List.getElem_toArray, List.getElem_cons_succ, List.getElem_cons_zero, List.setIfInBounds_toArray, List.set_cons_zero, List.set_cons_succ]
        refine wpAnyH_take (i := 14) (v := .bool true) rfl (by kernel_rfl) (by decide +kernel) (by decide +kernel) (fun _ _ _ h => h) (Or.inl ⟨by rfl, fun w' hSw => ?_⟩) hHeld ?_
        · (go_simp)
        simp only [Act.put, List.getElem_toArray, List.getElem_cons_succ, List.getElem_cons_zero, List.setIfInBounds_toArray, List.set_cons_zero, List.set_cons_succ]
        refine wpAnyH_ready (rs := [15]) (by decide +kernel) (by simp) (AllReadyH.cons rfl (fun K hK => ?_) AllReadyH.nil)
        simp only [List.getElem_toArray, List.getElem_cons_succ, List.getElem_cons_zero]
        rw [if_pos (by rfl)]
        go_simp
        go_at_call 17
        refine (awake_any _).mono ?_
        rintro e X3 ⟨rfl, k7⟩
        have K7 := Lib.hid (K6.out.trans k7)
        refine hK.out _ _ (Bg.cell_on k7 hHeld) (fun hHeld => ?_)
        clear hK K k7
        refine wpAnyH_take (i := 16) (v := .bool true) rfl (by kernel_rfl) (by decide +kernel) (by decide +kernel) (fun _ _ _ h => h) (Or.inl ⟨by rfl, fun w' hSw => ?_⟩) hHeld ?_
        · (go_simp)
        simp only [Act.put, List.getElem_toArray, List.getElem_cons_succ, List.getElem_cons_zero, List.setIfInBounds_toArray, List.set_cons_zero, List.set_cons_succ]
        refine wpAnyH_take (i := 17) (v := .bool true) rfl (by kernel_rfl) (by decide +kernel) (by decide +kernel) (fun _ _ _ h => h) (Or.inl ⟨by rfl, fun w' hSw => ?_⟩) hHeld ?_
        · (go_simp)
        simp only [Act.put, List.getElem_toArray, List.getElem_cons_succ, List.getElem_cons_zero, List.setIfInBounds_toArray, List.set_cons_zero, List.set_cons_succ]
        refine wpAnyH_done (by decide +kernel) ?_ _
        · go_wp2_with fail
          go_ret
          exact ⟨rfl, PM4.out.st.ff.kept.trans K7.out⟩

/-- The row's step. -/
theorem lifted (os : Os) (started : os.Started) (H : Type) (enc : TypeId × Value → H) :
    ReturnsInHanded {} Tryz.checked os 8 .any (Rows.storeModelSpec.pre6 enc Tryz.prog Tryz.f8 Rows.storeModelRow.domain false) (Rows.storeModelSpec.post enc Tryz.prog Tryz.f8 false true false false) := by
  refine returnsInHanded_of_change_sized (C := Tryz.checked) own started (by kernel_rfl) Tryz.func8
    (ChangeSpec.witness6 (enc := enc) (C := Tryz.checked) false ⟨#[], #[.int .u8 0, .slice none 0 0], []⟩ 8 (by kernel_rfl) (by kernel_rfl) (by kernel_rfl) (by kernel_rfl)) ?_
  intro W base args ds gs before hval0 hW hcnd hsz0 _
  have hsz : (DataW.weightsEach Tryz.prog (Tryz.f8.params.toList ++ Rows.storeModelSpec.plain.varTypes Tryz.prog) (ds ++ gs)).all (· ≤ reachBytes) = true := hsz0
  have hval : ∀ (j : Nat) t v, Tryz.f8.params[j]? = some t → args[j]? = some v → Value.okWide Tryz.prog W .any base t v := hval0
  have hW' := hW
  obtain ⟨p, q, hA0, hV, rfl, hfz, hnd⟩ := hW
  have hA : DataW.TrodAll enc Tryz.prog W 0 (fun _ => true) true Tryz.f8.params.toList args.toList ds p := hA0
  rw [Tryz.params8] at hA hval hsz
  obtain ⟨v0, vs0, d0, ds0, p0, q0, hargs, rfl, rfl, h0, r0⟩ := trodAll_cons hA
  obtain ⟨v1, vs1, d1, ds1, p1, q1, rfl, rfl, rfl, h1, r1⟩ := trodAll_cons r0
  obtain ⟨rfl, rfl, rfl⟩ := trodAll_nil r1
  obtain rfl : args = #[v0, v1] := by cases args; simp_all
  obtain ⟨rfl, rfl⟩ := trodVars_none hV
  obtain ⟨a0, rfl, rfl, rfl, w0⟩ := open_int Tryz.underlying5 (hval 0 5 v0 rfl rfl) h0
  have k1 := h1
  have lt1 : ∀ x ∈ p1, x.block < W.heap.size := by obtain ⟨m, hm⟩ := k1; exact DataW.trod_lt m _ _ _ hm
  obtain ⟨a1, len1, cap1, rfl⟩ := okWide_slice Tryz.underlying22 (hval 1 22 v1 rfl rfl)
  obtain ⟨z1, w1⟩ := ints_in Tryz.underlying22 Tryz.underlying5 (by kernel_rfl) h1
  have rch1 := slice_reach (j := 1) Tryz.underlying22 (show Tryz.prog.bytesOf 5 = 1 by kernel_rfl) k1 hsz rfl rfl
  clear hA0 hval0
  refine (walk a0 a1 len1 cap1 z1 W w0 w1 rch1).mono fun e W' ⟨he, kept⟩ => ?_
  subst he
  have bel : Below W.heap.size W W' := kept.toBelow (Nat.le_refl _) (fun _ x => x.elim)
  exact ⟨_, rfl, _, _, _, [], _, [], hW', trodAll_mk1 (shut_bool Tryz.underlying4 _), (trodAll_cons_mk (shut_int Tryz.underlying5 w0) (trodAll_cons_mk (Below.trod laidOut (by kernel_rfl) (of_decide_eq_true (by kernel_rfl)) k1 bel lt1) trodAll_mk0)), rfl, bel.frame _, fun h => by cases h⟩

theorem over : Rows.StoreModelSaid :=
  OpenClaim.holds_of_wide 8 Tryz.f8 rfl rfl rfl rfl rfl rfl rfl ⟨rfl, rfl, rfl, rfl, rfl⟩ rfl rfl rfl rfl rfl (by kernel_rfl) Tryz.func8 (by kernel_rfl)
    (of_decide_eq_true (by kernel_rfl)) (by unfold Func.isWrapper; first | (rw [if_pos (by decide +kernel)]; kernel_rfl) | (rw [if_neg (by decide +kernel)]; exact ⟨rfl, rfl⟩))
    (fun os started H enc _ => lifted os started H enc)

/-- The statement. -/
theorem proved : Rows.StoreModelSaid := over
#print axioms proved
end Go.Proofs.YtjfkmgicbakmgaaGreat.storeModel
