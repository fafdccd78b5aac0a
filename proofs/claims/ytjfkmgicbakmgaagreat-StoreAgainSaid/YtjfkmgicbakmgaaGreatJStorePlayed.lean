/-
  The law's own played: a store behind some calls. Own work; proved by a walk through the landed text.
-/
import Derived.Test.YtjfkmgicbakmgaaGreatRows
import Derived.WalkKit
import Derived.ProofKit
import Derived.OpenShut
import Derived.Outline
import Derived.Deep.Light
import Derived.Deep.QuietTactic
import Derived.BigQuiet
import Derived.IntWalk
import Derived.StillTailTactics
import Derived.RegionTactic
import Derived.Deep.RegionLaw
import Derived.Deep.RegionHeld3
import Derived.Test.YtjfkmgicbakmgaaGreatJStoreDeeds
import Derived.Test.YtjfkmgicbakmgaaGreatJStoreParts
namespace Go.Proofs.YtjfkmgicbakmgaaGreat.Sto
open Go.ChangeShapes Go.WideShapes Go.ChangeAt Go.RowKit
set_option maxRecDepth 100000
abbrev NoB (_ : Nat) : Prop := False
def PlayedPost (w0 : World) (P : Nat) (e : Ending) (W' : World) : Prop := ∃ s, e = .returned (ptr s) ∧ ∃ k live pl, StM w0 W' s P k live NoB pl ∧ Sv P k live
set_option maxHeartbeats 4000000 in
theorem played_any {w0 : World} (u P : Nat) (hu : u ≤ 255) (hP : 1 + (u : Int) = (P : Int)) (A : Option Addr) (len cap : Nat) (z : Nat → Int) (hl : len ≤ 9223372036854775807) (hz : ∀ i, i < len → 0 ≤ z i ∧ z i ≤ 255) (HS : Sl w0 A 1 len fun i _ => .int .u8 (z i)) :
    Calls Tryz.prog 25 #[.int .u8 (u : Int), .slice A len cap] w0 (PlayedPost w0 P) := by
  have hz := Lib.hid hz
  have HS := Lib.hid HS
  have P1 : 1 ≤ P := by omega
  have P2 : P ≤ 256 := by omega
  have NS := Lib.hid (snew_yes w0 P NoB w0 P1 P2 (Kept.refl Old w0) (fun _ h => h.elim))
  have V0 := Lib.hid (show Sv P (K0 P) [] from Sv.new (P := P) P1 P2)
  go_enter Tryz.func25, Tryz.ntmps25
  go_wp2_with fail
  refine NS.out.mono ?_
  rintro e W1 ⟨s, rfl, ⟨pl, m⟩, k1, _⟩
  have M0 := Lib.hid m
  clear m k1 NS
  go_wp2_with fail
  go_loopw [6] (fun s6 wr => ∃ (i : Nat) (k : Sto.K) (live : List Lm.S) (pl : Pl), i ≤ 301 ∧ s6 = .int .i64 (i : Int) ∧ Hid (StM w0 wr s P k live NoB pl) ∧ Hid (Sv P k live)) (fun s6 _ => 302 - (intOf s6).toNat)
  case atStart => exact ⟨0, _, _, _, by omega, rfl, M0, V0⟩
  case round =>
    clear M0 V0
    obtain ⟨i, k, live, pl, hi, rfl, M, SVV⟩ := hrel
    rename World => V
    have wi : IntKind.i64.wrap ((i : Int) + 1) = (i : Int) + 1 := IntWalk.i64_in _ (by omega)
    have wi2 : IntKind.i64.wrap ((i : Int) + 2) = (i : Int) + 2 := IntWalk.i64_in _ (by omega)
    by_cases cc : i + 1 < len ∧ i < 300
    · obtain ⟨c1, c2⟩ := cc
      have ci2 : (i : Int) < 300 := by omega
      have ci : (i : Int) + 1 < (len : Int) := by omega
      have ci0 : (i : Int) < (len : Int) := by omega
      have ci3 : ¬ (i : Int) + 1 < 0 := by omega
      have ci4 : ¬ (i : Int) < 0 := by omega
      obtain ⟨g, o, rfl, hg, hc⟩ := (HS.out.old M.out.ff.kept).lies (by omega)
      have d0 := hc i 0 (by omega) (by omega)
      have d1 := hc (i + 1) 0 (by omega) (by omega)
      simp only [Nat.mul_one, Nat.add_zero] at d0 d1
      obtain ⟨q0, q1⟩ := hz.out i (by omega)
      obtain ⟨q2, q3⟩ := hz.out (i + 1) (by omega)
      obtain ⟨a, ha, ha5⟩ : ∃ a : Nat, z i = (a : Int) ∧ a ≤ 255 := ⟨(z i).toNat, by omega, by omega⟩
      obtain ⟨b, hb, hb5⟩ : ∃ b : Nat, z (i + 1) = (b : Int) ∧ b ≤ 255 := ⟨(z (i + 1)).toNat, by omega, by omega⟩
      rw [ha] at d0
      rw [hb] at d1
      have HC := Lib.hid (fun X (q : Kept Old w0 X) => (show X.cell? ⟨g, o + i, none⟩ = some (.int .u8 (a : Int)) ∧ X.cell? ⟨g, o + (i + 1), none⟩ = some (.int .u8 (b : Int)) from by
        obtain ⟨g2, o2, e2, hg2, hc2⟩ := (HS.out.old q).lies (by omega)
        injection e2 with e2
        injection e2 with e3 e4
        subst e3
        subst e4
        have x0 := hc2 i 0 (by omega) (by omega)
        have x1 := hc2 (i + 1) 0 (by omega) (by omega)
        simp only [Nat.mul_one, Nat.add_zero] at x0 x1
        rw [ha] at x0
        rw [hb] at x1
        exact ⟨x0, x1⟩))
      clear hc q0 q1 q2 q3 ha hb
      obtain ⟨rk, rl, rd, hr⟩ : ∃ rk rl rd, doR P k live a b = (rk, rl, rd) := ⟨_, _, _, rfl⟩
      have SV := Lib.hid (SVV.out.doR a b)
      rw [hr] at SV
      have DO : ∀ X, Kept Old V X → Calls Tryz.prog 14 #[ptr s, .int .u8 (a : Int), .int .u8 (b : Int)] X fun e W' => e = .returned (deedV rd) ∧ Sto.Left w0 V W' s P rk rl (NoB) pl := fun X q => by
        have h := do_any a b ha5 hb5 (M.out.old q) SVV.out
        unfold DoPost at h
        rw [hr] at h
        refine h.mono ?_
        rintro e W' ⟨rfl, L⟩
        exact ⟨rfl, Sto.Left.trans (pl1 := pl.re V.heap.size 97) ⟨rfl, rfl, rfl⟩ q.any L⟩
      have DO := Lib.hid DO
      clear hr
      clear c1 c2
      go_wp2_with fail
      refine wp_region_held_drew (S := (fun w' => w'.cell? ⟨g, o + i, none⟩ = some (.int .u8 (a : Int)) ∧ w'.cell? ⟨g, o + (i + 1), none⟩ = some (.int .u8 (b : Int)))) (by kernel_rfl) ⟨d0, d1⟩ (fun hHeld => ?_)
      refine wpAnyH_take (i := 0) (v := ptr s) rfl (by kernel_rfl) (by decide +kernel) (by decide +kernel) (fun _ _ _ h => h) (Or.inl ⟨by rfl, fun w' hSw => ?_⟩) hHeld ?_
      · (go_simp)
      simp only [Act.put, List.getElem_toArray, List.getElem_cons_zero, List.setIfInBounds_toArray, List.set_cons_zero, List.set_cons_succ]
      refine wpAnyH_take (i := 1) (v := .slice (some ⟨g, o, none⟩) len cap) rfl (by kernel_rfl) (by decide +kernel) (by decide +kernel) (fun _ _ _ h => h) (Or.inl ⟨by rfl, fun w' hSw => ?_⟩) hHeld ?_
      · (go_simp)
      simp only [Act.put, List.getElem_toArray, List.getElem_cons_succ, List.getElem_cons_zero, List.setIfInBounds_toArray, List.set_cons_zero, List.set_cons_succ]
      refine wpAnyH_take (i := 2) (v := .int .i64 (i : Int)) rfl (by kernel_rfl) (by decide +kernel) (by decide +kernel) (fun _ _ _ h => h) (Or.inl ⟨by rfl, fun w' hSw => ?_⟩) hHeld ?_
      · (go_simp)
      simp only [Act.put, List.getElem_toArray, List.getElem_cons_succ, List.getElem_cons_zero, List.setIfInBounds_toArray, List.set_cons_zero, List.set_cons_succ]
      refine wpAnyH_take (i := 3) (v := .pointer (some ⟨g, o + i, none⟩)) rfl (by kernel_rfl) (by decide +kernel) (by decide +kernel) (fun _ _ _ h => h) (Or.inl ⟨by rfl, fun w' hSw => ?_⟩) hHeld ?_
      · (go_simp)
      simp only [Act.put, List.getElem_toArray, List.getElem_cons_succ, List.getElem_cons_zero, List.setIfInBounds_toArray, List.set_cons_zero, List.set_cons_succ]
      refine wpAnyH_take (i := 4) (v := .int .u8 (a : Int)) rfl (by kernel_rfl) (by decide +kernel) (by decide +kernel) (fun _ _ _ h => h) (Or.inl ⟨by rfl, fun w' hSw => ?_⟩) hHeld ?_
      · (go_simp)
      simp only [Act.put, List.getElem_toArray, List.getElem_cons_succ, List.getElem_cons_zero, List.setIfInBounds_toArray, List.set_cons_zero, List.set_cons_succ]
      refine wpAnyH_take (i := 5) (v := .slice (some ⟨g, o, none⟩) len cap) rfl (by kernel_rfl) (by decide +kernel) (by decide +kernel) (fun _ _ _ h => h) (Or.inl ⟨by rfl, fun w' hSw => ?_⟩) hHeld ?_
      · (go_simp)
      simp only [Act.put, List.getElem_toArray, List.getElem_cons_succ, List.getElem_cons_zero, List.setIfInBounds_toArray, List.set_cons_zero, List.set_cons_succ]
      refine wpAnyH_take (i := 6) (v := .int .i64 (i : Int)) rfl (by kernel_rfl) (by decide +kernel) (by decide +kernel) (fun _ _ _ h => h) (Or.inl ⟨by rfl, fun w' hSw => ?_⟩) hHeld ?_
      · (go_simp)
      simp only [Act.put, List.getElem_toArray, List.getElem_cons_succ, List.getElem_cons_zero, List.setIfInBounds_toArray, List.set_cons_zero, List.set_cons_succ]
      refine wpAnyH_take (i := 7) (v := .int .i64 ((i : Int) + 1)) rfl (by kernel_rfl) (by decide +kernel) (by decide +kernel) (fun _ _ _ h => h) (Or.inl ⟨by rfl, fun w' hSw => ?_⟩) hHeld ?_
      · (go_simp)
      simp only [Act.put, List.getElem_toArray, List.getElem_cons_succ, List.getElem_cons_zero, List.setIfInBounds_toArray, List.set_cons_zero, List.set_cons_succ]
      refine wpAnyH_take (i := 8) (v := .pointer (some ⟨g, o + (i + 1), none⟩)) rfl (by kernel_rfl) (by decide +kernel) (by decide +kernel) (fun _ _ _ h => h) (Or.inl ⟨by rfl, fun w' hSw => ?_⟩) hHeld ?_
      · (go_simp)
      simp only [Act.put, List.getElem_toArray, List.getElem_cons_succ, List.getElem_cons_zero, List.setIfInBounds_toArray, List.set_cons_zero, List.set_cons_succ]
      refine wpAnyH_take (i := 9) (v := .int .u8 (b : Int)) rfl (by kernel_rfl) (by decide +kernel) (by decide +kernel) (fun _ _ _ h => h) (Or.inl ⟨by rfl, fun w' hSw => ?_⟩) hHeld ?_
      · (go_simp)
      simp only [Act.put, List.getElem_toArray, List.getElem_cons_succ, List.getElem_cons_zero, List.setIfInBounds_toArray, List.set_cons_zero, List.set_cons_succ]
      refine wpAnyH_ready (rs := [10]) (by decide +kernel) (by simp) (AllReadyH.cons rfl (fun K hK => ?_) AllReadyH.nil)
      simp only [List.getElem_toArray, List.getElem_cons_succ, List.getElem_cons_zero]
      rw [if_pos (by rfl)]
      go_simp
      go_at_call 14
      refine (DO.out _ (Kept.refl Old V).drew).mono ?_
      rintro e V1 ⟨rfl, ⟨pl1, m1, _⟩, f1⟩
      have CV := HC.out V1 m1.ff.kept
      have M1 := Lib.hid m1
      have f1 := Lib.hid f1
      clear m1
      refine hK.out _ _ CV (fun hHeld => ?_)
      clear hK K CV
      refine wpAnyH_done (by decide +kernel) ?_ _
      go_wp2_with fail
      exact ⟨⟨i + 2, rk, rl, pl1, by omega, by go_num, M1, Lib.hid SV.out.1⟩, by simp [intOf]; omega⟩
    · have ways : ¬ (i : Int) + 1 < (len : Int) ∨ ((i : Int) + 1 < (len : Int) ∧ ¬ (i : Int) < 300) := by omega
      clear cc
      rcases ways with h1 | ⟨h1, h2⟩
      all_goals
        go_wp2_with fail
        go_ret
        exact ⟨s, rfl, k, live, pl, M.out, SVV.out⟩
end Go.Proofs.YtjfkmgicbakmgaaGreat.Sto
