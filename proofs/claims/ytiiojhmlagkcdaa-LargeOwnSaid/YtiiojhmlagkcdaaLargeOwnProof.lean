/-
  For every input the law LargeOwn of rickyard/rickyardlaw11 returns true, and its arguments read afterwards as before. The law's own sentence: What is handed in is as it was; what has a word in common with one that is there is not put; of a class that is not large there is none. No further conditions.
-/
import Derived.Test.YtiiojhmlagkcdaaRows
import Derived.Test.YtiiojhmlagkcdaaKept
import Derived.Test.YtiiojhmlagkcdaaShell
import Derived.Test.YtiiojhmlagkcdaaShellInts
import Derived.WalkKit
import Derived.ProofKit
import Derived.OpenShut
import Derived.ChangeOld
import Derived.Below
import Derived.Lib.SmallJoins
import Derived.Test.YtiiojhmlagkcdaaBigLaw
namespace Go.Proofs.Ytiiojhmlagkcdaa.largeOwn
open Go.ChangeShapes Go.WideShapes Go.ChangeAt Go.RowKit
set_option linter.unusedVariables false
set_option maxRecDepth 100000

theorem own : ownKnob Try.prog.godebug = none := by kernel_rfl
theorem laidOut : laidOutB Try.prog = true := by kernel_rfl
theorem rwords_kept (c : Int) (w : World) : Calls Try.prog 13 #[.int .i64 c] w fun e w' => e = .returned (.int .i64 (wordsI c)) ∧ Kept Old w w' := by
  refine (rwords_any c w).mono ?_
  rintro e w' ⟨rfl, rfl⟩
  exact ⟨rfl, Kept.refl _ _⟩
theorem in4 : Bg.in64 4 := ⟨by decide, by decide⟩
theorem in0 : Bg.in64 0 := ⟨by decide, by decide⟩
open Bg in
theorem no_class {l : List R} (r : RightL l) {c : Int} (h : c < 4 ∨ 7 < c) : takeC l c = 2 ∧ takeL l c = [] ∧ takeA l c = 0 := by
  rcases take_ways l c with ⟨_, _, a, b, d⟩ | ⟨x, hx, hc, _⟩
  · exact ⟨a, b, d⟩
  · have m := may_of (r.may (List.mem_of_getElem? hx))
    have := m.c0
    have := m.c1
    omega
open Bg in
theorem putC_bad {l : List R} {b : R} (h : mayB b = false) : putC l b = 1 := by unfold putC; rw [h]; rfl
open Bg in
/-- A stack of the least large class at the address of one that is there. -/
theorem put_first {l : List R} (r : RightL l) {x : R} (hx : x ∈ l) : putC l (x.1, 4) = 4 := by
  have m := may_of (r.may hx)
  have w4 : wordsI 4 = 512 := by decide
  have h0 := m.a0
  have h1 := m.a1
  have h2 := m.fit
  have h3 := m.w0
  have hm : mayB (x.1, 4) = true := decide_eq_true ⟨by show (4 : Int) ≤ 4; omega, by show (4 : Int) ≤ 7; omega, h0, h1, by rw [w4]; show x.1 + 512 ≤ 16384; omega⟩
  have hh : hitB x (x.1, 4) = true := decide_eq_true ⟨by rw [w4]; show x.1 < x.1 + 512; omega, by show x.1 < x.1 + wordsI x.2; omega⟩
  unfold putC
  rw [hm, any_true hx hh]
  rfl
open Bg in
/-- A stack of the least large class at the last page of one that is there. -/
theorem put_last {l : List R} (r : RightL l) {x : R} (hx : x ∈ l) : putC l (x.1 + wordsI x.2 - 64, 4) = 4 ∨ putC l (x.1 + wordsI x.2 - 64, 4) = 1 := by
  have m := may_of (r.may hx)
  have w4 : wordsI 4 = 512 := by decide
  have h3 := m.w0
  cases hm : mayB (x.1 + wordsI x.2 - 64, 4) with
  | false => exact .inr (putC_bad hm)
  | true =>
    left
    have hh : hitB x (x.1 + wordsI x.2 - 64, 4) = true := decide_eq_true ⟨by rw [w4]; show x.1 < x.1 + wordsI x.2 - 64 + 512; omega, by show x.1 + wordsI x.2 - 64 < x.1 + wordsI x.2; omega⟩
    unfold putC
    rw [hm, any_true hx hh]
    rfl

set_option maxHeartbeats 4000000 in
/-- The walk: the Go text returns true, and nothing that was there has turned. -/
theorem walk (a0 : Option Addr) (len0 cap0 : Nat) (z0 : Nat → Int) (a1 : Int) (a2 : Int) (w : World) (w0 : len0 ≤ cap0 ∧ cap0 ≤ maxLen ∧ (∀ i, i < len0 → (Lit.int .u8 (z0 i)).wf = true) ∧ Sl w a0 1 len0 fun i _ => .int .u8 (z0 i)) (w1 : (Lit.int .u8 a1).wf = true) (w2 : (Lit.int .i64 a2).wf = true) :
    Calls Try.prog 6 #[.slice a0 len0 cap0, .int .u8 a1, .int .i64 a2] w fun e w' => e = .returned (.bool true) ∧ Kept Old w w' := by
  obtain ⟨v0, v1, v2, v3⟩ := w0
  have b1 := bounds_u8 w1
  have b2 := bounds_i64 w2
  have hl : len0 ≤ 9223372036854775807 := by unfold maxLen at v1; omega
  have hz := Lib.hid (show ∀ i, i < len0 → 0 ≤ z0 i ∧ z0 i ≤ 255 from fun i hi => bounds_u8 (v2 i hi))
  have HS := Lib.hid v3
  clear v0 v1 v2 v3 w1 w2
  have j4 : IntKind.i64.wrap a1 = a1 := IntWalk.i64_in _ (by omega)
  have j7 : IntKind.i64.wrap (a1 * 64) = a1 * 64 := IntWalk.i64_in _ (by omega)
  have j8 : IntKind.i64.wrap (a1 * 64 + 32) = a1 * 64 + 32 := IntWalk.i64_in _ (by omega)
  obtain ⟨HT, HN⟩ := Bg.right_made z0 len0
  go_enter Try.func6, Try.ntmps6
  go_wp2_with fail
  refine (Bg.made_any a0 len0 cap0 z0 w hl hz.out HS.out).mono ?_
  rintro e w1 ⟨v, rfl, A1, n1, c1, rfl, R1, hc1, hA1, k1⟩
  have R1 := Lib.hid R1
  have K1 := Lib.hid k1
  go_wp2_with fail
  refine (Bg.made_any a0 len0 cap0 z0 w1 hl hz.out (HS.out.old K1.out)).mono ?_
  rintro e w2 ⟨v, rfl, A2, n2, c2, rfl, S2, hc2, hA2, k2⟩
  generalize Bg.madeB z0 len0 = l at *
  have lN := R1.out.len
  obtain rfl : n2 = n1 := by have := S2.len; omega
  have R2 := Lib.hid (R1.out.old k2)
  have S2 := Lib.hid S2
  have K2 := Lib.hid (K1.out.trans k2)
  have hA := Lib.hid hA1.1
  have HT := Lib.hid HT
  have PC := Lib.hid (fun (b : Bg.R) (C : Int) (hC : Bg.putC l b = C) (hb : Bg.in64 b.1 ∧ Bg.in64 b.2) (W : World) (h : Bg.Rs W A1 n2 l) => show Calls Try.prog 12 #[.slice A1 n2 c1, Bg.run b] W (fun e w' => ∃ v, e = .returned (.tuple #[v, .int .i64 C]) ∧ Kept Old W w') from by
    refine (Bg.put_any A1 n2 c1 l b W h HT.out hb (by omega) hc1 hA.out).mono ?_
    rintro e w' ⟨v, rfl, M⟩
    subst hC
    exact ⟨v, rfl, M.kept⟩)
  have TC := Lib.hid (fun (c C a : Int) (hC : Bg.takeC l c = C) (hA : Bg.takeA l c = a) (W : World) (h : Bg.Rs W A1 n2 l) => show Calls Try.prog 14 #[.slice A1 n2 c1, .int .i64 c] W (fun e w' => ∃ v, e = .returned (.tuple #[v, .int .i64 a, .int .i64 C]) ∧ Kept Old W w') from by
    refine (Bg.take_any A1 n2 c1 l c W h (by omega) hc1).mono ?_
    rintro e w' ⟨v, rfl, M⟩
    subst hC
    subst hA
    exact ⟨v, rfl, M.kept⟩)
  clear hA1 k1 hz HS hA2 k2 R1 K1
  generalize n2 = n1 at *
  go_wp2_with fail
  refine (PC.out (a1 * 64, 4) _ rfl ⟨⟨by show _ ≤ a1 * 64; omega, by show a1 * 64 ≤ _; omega⟩, in4⟩ _ R2.out).mono ?_
  rintro e w3 ⟨vx, rfl, k⟩
  have R3 := Lib.hid (R2.out.old k)
  have S3 := Lib.hid (S2.out.old k)
  have K3 := Lib.hid (K2.out.trans k)
  clear k R2 S2 K2
  go_wp2_with fail
  refine (TC.out 4 _ _ rfl rfl _ R3.out).mono ?_
  rintro e w4 ⟨vy, rfl, k⟩
  have R4 := Lib.hid (R3.out.old k)
  have S4 := Lib.hid (S3.out.old k)
  have K4 := Lib.hid (K3.out.trans k)
  clear k R3 S3 K3
  go_wp2_with fail
  refine (Bg.drop_any _ _ _ _ _ R4.out (by omega) hc1).mono ?_
  rintro e w5 ⟨vw, rfl, M5⟩
  have R5 := Lib.hid (R4.out.old M5.kept)
  have S5 := Lib.hid (S4.out.old M5.kept)
  have K5 := Lib.hid (K4.out.trans M5.kept)
  clear M5 R4 S4 K4
  go_wp2_with fail
  go_loopw [9] (fun i wr => ∃ k : Nat, k ≤ 8 ∧ i = .int .i64 (k : Int) ∧ Hid (Bg.Rs wr A1 n1 l) ∧ Hid (Bg.Rs wr A2 n1 l) ∧ Hid (Kept Old w wr)) (fun i _ => 9 - (intOf i).toNat)
  case atStart => exact ⟨0, by omega, rfl, R5, S5, K5⟩
  case round =>
    clear R5 S5 K5
    obtain ⟨k, hk, rfl, R4, S4, K4⟩ := hrel
    rename World => V
    by_cases d : k < n1 ∧ k < 8
    · obtain ⟨d1', d2⟩ := d
      obtain ⟨g, o, x, rfl, _, hx, f1, f1', c0, c1'⟩ := R4.out.get d1'
      have hm := List.mem_of_getElem? hx
      have mx := Bg.may_of (HT.out.may hm)
      have q0 := mx.a0
      have q1 := mx.fit
      have q2 := mx.w0
      have q3 := mx.w1
      have P1 := Lib.hid (PC.out (x.1, 4) 4 (put_first HT.out hm) ⟨f1, in4⟩ V R4.out)
      have f2 : Bg.in64 (x.1 + wordsI x.2 - 64) ∧ Bg.in64 4 := ⟨⟨by omega, by omega⟩, in4⟩
      have ws : IntKind.i64.wrap (x.1 + wordsI x.2) = x.1 + wordsI x.2 := IntWalk.i64_in _ (by omega)
      have wt : IntKind.i64.wrap (x.1 + wordsI x.2 - 64) = x.1 + wordsI x.2 - 64 := IntWalk.i64_in _ (by omega)
      have pl := put_last HT.out hm
      have kn : (k : Int) < (n1 : Int) := by omega
      clear f1 f1' mx hm hx
      go_wp2_with fail
      refine P1.out.mono ?_
      rintro e W ⟨vz, rfl, k2⟩
      have d0 := Bg.cell_on k2 c0
      have d1 := Bg.cell_on k2 c1'
      have R5 := Lib.hid (R4.out.old k2)
      have S5 := Lib.hid (S4.out.old k2)
      have K5 := Lib.hid (K4.out.trans k2)
      clear k2 c0 c1' R4 S4 K4 P1
      have f2 := Lib.hid f2
      go_wp2_with fail
      rcases pl with hC | hC
      · have hC := hC
        refine wp_region_held_drew (S := (fun w' => Kept Old W w' ∧ w'.cell? ⟨g, o + k * 2, none⟩ = some (.int .i64 x.1) ∧ w'.cell? ⟨g, o + k * 2 + 1, none⟩ = some (.int .i64 x.2))) (by kernel_rfl) ⟨(Kept.refl Old W).drew, d0, d1⟩ (fun hHeld => ?_)
        refine wpAnyH_take (i := 0) (v := .slice (some ⟨g, o, none⟩) n1 c1) rfl (by kernel_rfl) (by decide +kernel) (by decide +kernel) (fun _ _ _ h => h) (Or.inl ⟨by rfl, fun w' hSw => ?_⟩) hHeld ?_
        · (go_simp)
        simp only [Act.put, List.getElem_toArray, List.getElem_cons_zero, List.setIfInBounds_toArray, List.set_cons_zero, List.set_cons_succ]
        refine wpAnyH_take (i := 1) (v := .slice (some ⟨g, o, none⟩) n1 c1) rfl (by kernel_rfl) (by decide +kernel) (by decide +kernel) (fun _ _ _ h => h) (Or.inl ⟨by rfl, fun w' hSw => ?_⟩) hHeld ?_
        · (go_simp)
        simp only [Act.put, List.getElem_toArray, List.getElem_cons_succ, List.getElem_cons_zero, List.setIfInBounds_toArray, List.set_cons_zero, List.set_cons_succ]
        refine wpAnyH_take (i := 2) (v := .int .i64 (k : Int)) rfl (by kernel_rfl) (by decide +kernel) (by decide +kernel) (fun _ _ _ h => h) (Or.inl ⟨by rfl, fun w' hSw => ?_⟩) hHeld ?_
        · (go_simp)
        simp only [Act.put, List.getElem_toArray, List.getElem_cons_succ, List.getElem_cons_zero, List.setIfInBounds_toArray, List.set_cons_zero, List.set_cons_succ]
        refine wpAnyH_take (i := 3) (v := .pointer (some ⟨g, o + k * 2, none⟩)) rfl (by kernel_rfl) (by decide +kernel) (by decide +kernel) (fun _ _ _ h => h) (Or.inl ⟨by rfl, fun w' hSw => ?_⟩) hHeld ?_
        · (go_simp)
        simp only [Act.put, List.getElem_toArray, List.getElem_cons_succ, List.getElem_cons_zero, List.setIfInBounds_toArray, List.set_cons_zero, List.set_cons_succ]
        refine wpAnyH_take (i := 4) (v := .pointer (some ⟨g, o + k * 2, none⟩)) rfl (by kernel_rfl) (by decide +kernel) (by decide +kernel) (fun _ _ _ h => h) (Or.inl ⟨by rfl, fun w' hSw => ?_⟩) hHeld ?_
        · (go_simp)
        simp only [Act.put, List.getElem_toArray, List.getElem_cons_succ, List.getElem_cons_zero, List.setIfInBounds_toArray, List.set_cons_zero, List.set_cons_succ]
        refine wpAnyH_take (i := 5) (v := .int .i64 x.1) rfl (by kernel_rfl) (by decide +kernel) (by decide +kernel) (fun _ _ _ h => h) (Or.inl ⟨by rfl, fun w' hSw => ?_⟩) hHeld ?_
        · (go_simp)
        simp only [Act.put, List.getElem_toArray, List.getElem_cons_succ, List.getElem_cons_zero, List.setIfInBounds_toArray, List.set_cons_zero, List.set_cons_succ]
        refine wpAnyH_take (i := 6) (v := .slice (some ⟨g, o, none⟩) n1 c1) rfl (by kernel_rfl) (by decide +kernel) (by decide +kernel) (fun _ _ _ h => h) (Or.inl ⟨by rfl, fun w' hSw => ?_⟩) hHeld ?_
        · (go_simp)
        simp only [Act.put, List.getElem_toArray, List.getElem_cons_succ, List.getElem_cons_zero, List.setIfInBounds_toArray, List.set_cons_zero, List.set_cons_succ]
        refine wpAnyH_take (i := 7) (v := .int .i64 (k : Int)) rfl (by kernel_rfl) (by decide +kernel) (by decide +kernel) (fun _ _ _ h => h) (Or.inl ⟨by rfl, fun w' hSw => ?_⟩) hHeld ?_
        · (go_simp)
        simp only [Act.put, List.getElem_toArray, List.getElem_cons_succ, List.getElem_cons_zero, List.setIfInBounds_toArray, List.set_cons_zero, List.set_cons_succ]
        refine wpAnyH_take (i := 8) (v := .pointer (some ⟨g, o + k * 2, none⟩)) rfl (by kernel_rfl) (by decide +kernel) (by decide +kernel) (fun _ _ _ h => h) (Or.inl ⟨by rfl, fun w' hSw => ?_⟩) hHeld ?_
        · (go_simp)
        simp only [Act.put, List.getElem_toArray, List.getElem_cons_succ, List.getElem_cons_zero, List.setIfInBounds_toArray, List.set_cons_zero, List.set_cons_succ]
        refine wpAnyH_take (i := 9) (v := .pointer (some ⟨g, o + k * 2 + 1, none⟩)) rfl (by kernel_rfl) (by decide +kernel) (by decide +kernel) (fun _ _ _ h => h) (Or.inl ⟨by rfl, fun w' hSw => ?_⟩) hHeld ?_
        · (go_simp)
        simp only [Act.put, List.getElem_toArray, List.getElem_cons_succ, List.getElem_cons_zero, List.setIfInBounds_toArray, List.set_cons_zero, List.set_cons_succ]
        refine wpAnyH_take (i := 10) (v := .int .i64 x.2) rfl (by kernel_rfl) (by decide +kernel) (by decide +kernel) (fun _ _ _ h => h) (Or.inl ⟨by rfl, fun w' hSw => ?_⟩) hHeld ?_
        · (go_simp)
        simp only [Act.put, List.getElem_toArray, List.getElem_cons_succ, List.getElem_cons_zero, List.setIfInBounds_toArray, List.set_cons_zero, List.set_cons_succ]
        refine wpAnyH_ready (rs := [11]) (by decide +kernel) (by simp) (AllReadyH.cons rfl (fun K hK => ?_) AllReadyH.nil)
        simp only [List.getElem_toArray, List.getElem_cons_succ, List.getElem_cons_zero]
        rw [if_pos (by rfl)]
        go_simp
        go_at_call 13
        refine (rwords_kept _ _).mono ?_
        rintro e w' ⟨rfl, k⟩
        refine hK.out _ _ ⟨hHeld.1.trans k, Bg.cell_on k hHeld.2.1, Bg.cell_on k hHeld.2.2⟩ (fun hHeld => ?_)
        clear hK K k
        refine wpAnyH_take (i := 12) (v := .int .i64 (x.1 + wordsI x.2)) rfl (by kernel_rfl) (by decide +kernel) (by decide +kernel) (fun _ _ _ h => h) (Or.inl ⟨by rfl, fun w' hSw => ?_⟩) hHeld ?_
        · (go_simp)
        simp only [Act.put, List.getElem_toArray, List.getElem_cons_succ, List.getElem_cons_zero, List.setIfInBounds_toArray, List.set_cons_zero, List.set_cons_succ]
        refine wpAnyH_take (i := 13) (v := .int .i64 (x.1 + wordsI x.2 - 64)) rfl (by kernel_rfl) (by decide +kernel) (by decide +kernel) (fun _ _ _ h => h) (Or.inl ⟨by rfl, fun w' hSw => ?_⟩) hHeld ?_
        · (go_simp)
        simp only [Act.put, List.getElem_toArray, List.getElem_cons_succ, List.getElem_cons_zero, List.setIfInBounds_toArray, List.set_cons_zero, List.set_cons_succ]
        refine wpAnyH_take (i := 14) (v := .agg #[.int .i64 (x.1 + wordsI x.2 - 64), .int .i64 4]) rfl (by kernel_rfl) (by decide +kernel) (by decide +kernel) (fun _ _ _ h => h) (Or.inl ⟨by rfl, fun w' hSw => ?_⟩) hHeld ?_
        · (go_simp)
        simp only [Act.put, List.getElem_toArray, List.getElem_cons_succ, List.getElem_cons_zero, List.setIfInBounds_toArray, List.set_cons_zero, List.set_cons_succ]
        refine wpAnyH_ready (rs := [15]) (by decide +kernel) (by simp) (AllReadyH.cons rfl (fun K hK => ?_) AllReadyH.nil)
        simp only [List.getElem_toArray, List.getElem_cons_succ, List.getElem_cons_zero]
        rw [if_pos (by rfl)]
        go_simp
        go_at_call 12
        refine (PC.out (x.1 + wordsI x.2 - 64, 4) 4 hC f2.out _ (R5.out.old hHeld.1)).mono ?_
        rintro e w' ⟨vv, rfl, k⟩
        refine hK.out _ _ ⟨hHeld.1.trans k, Bg.cell_on k hHeld.2.1, Bg.cell_on k hHeld.2.2⟩ (fun hHeld => ?_)
        clear hK K k
        refine wpAnyH_take (i := 16) (v := .tuple #[vv, .int .i64 4]) rfl (by kernel_rfl) (by decide +kernel) (by decide +kernel) (fun _ _ _ h => h) (Or.inl ⟨by rfl, fun w' hSw => ?_⟩) hHeld ?_
        · (go_simp)
        simp only [Act.put, List.getElem_toArray, List.getElem_cons_succ, List.getElem_cons_zero, List.setIfInBounds_toArray, List.set_cons_zero, List.set_cons_succ]
        refine wpAnyH_take (i := 17) (v := vv) rfl (by kernel_rfl) (by decide +kernel) (by decide +kernel) (fun _ _ _ h => h) (Or.inl ⟨by rfl, fun w' hSw => ?_⟩) hHeld ?_
        · (go_simp)
        simp only [Act.put, List.getElem_toArray, List.getElem_cons_succ, List.getElem_cons_zero, List.setIfInBounds_toArray, List.set_cons_zero, List.set_cons_succ]
        refine wpAnyH_take (i := 18) (v := .int .i64 4) rfl (by kernel_rfl) (by decide +kernel) (by decide +kernel) (fun _ _ _ h => h) (Or.inl ⟨by rfl, fun w' hSw => ?_⟩) hHeld ?_
        · (go_simp)
        simp only [Act.put, List.getElem_toArray, List.getElem_cons_succ, List.getElem_cons_zero, List.setIfInBounds_toArray, List.set_cons_zero, List.set_cons_succ]
        refine wpAnyH_take (i := 19) (v := vv) rfl (by kernel_rfl) (by decide +kernel) (by decide +kernel) (fun _ _ _ h => h) (Or.inl ⟨by rfl, fun w' hSw => ?_⟩) hHeld ?_
        · (go_simp)
        simp only [Act.put, List.getElem_toArray, List.getElem_cons_succ, List.getElem_cons_zero, List.setIfInBounds_toArray, List.set_cons_zero, List.set_cons_succ]
        refine wpAnyH_take (i := 20) (v := .int .i64 4) rfl (by kernel_rfl) (by decide +kernel) (by decide +kernel) (fun _ _ _ h => h) (Or.inl ⟨by rfl, fun w' hSw => ?_⟩) hHeld ?_
        · (go_simp)
        simp only [Act.put, List.getElem_toArray, List.getElem_cons_succ, List.getElem_cons_zero, List.setIfInBounds_toArray, List.set_cons_zero, List.set_cons_succ]
        refine wpAnyH_done (by decide +kernel) ?_ _
        have k2 := (‹Kept Old W _ ∧ _›).1
        have R6 := Lib.hid (R5.out.old k2)
        have S6 := Lib.hid (S5.out.old k2)
        have K6 := Lib.hid (K5.out.trans k2)
        clear k2
        go_wp2
        refine ⟨⟨k + 1, by omega, by go_num, R6, S6, K6⟩, ?_⟩
        simp [intOf]; omega
      · have hC := hC
        refine wp_region_held_drew (S := (fun w' => Kept Old W w' ∧ w'.cell? ⟨g, o + k * 2, none⟩ = some (.int .i64 x.1) ∧ w'.cell? ⟨g, o + k * 2 + 1, none⟩ = some (.int .i64 x.2))) (by kernel_rfl) ⟨(Kept.refl Old W).drew, d0, d1⟩ (fun hHeld => ?_)
        refine wpAnyH_take (i := 0) (v := .slice (some ⟨g, o, none⟩) n1 c1) rfl (by kernel_rfl) (by decide +kernel) (by decide +kernel) (fun _ _ _ h => h) (Or.inl ⟨by rfl, fun w' hSw => ?_⟩) hHeld ?_
        · (go_simp)
        simp only [Act.put, List.getElem_toArray, List.getElem_cons_zero, List.setIfInBounds_toArray, List.set_cons_zero, List.set_cons_succ]
        refine wpAnyH_take (i := 1) (v := .slice (some ⟨g, o, none⟩) n1 c1) rfl (by kernel_rfl) (by decide +kernel) (by decide +kernel) (fun _ _ _ h => h) (Or.inl ⟨by rfl, fun w' hSw => ?_⟩) hHeld ?_
        · (go_simp)
        simp only [Act.put, List.getElem_toArray, List.getElem_cons_succ, List.getElem_cons_zero, List.setIfInBounds_toArray, List.set_cons_zero, List.set_cons_succ]
        refine wpAnyH_take (i := 2) (v := .int .i64 (k : Int)) rfl (by kernel_rfl) (by decide +kernel) (by decide +kernel) (fun _ _ _ h => h) (Or.inl ⟨by rfl, fun w' hSw => ?_⟩) hHeld ?_
        · (go_simp)
        simp only [Act.put, List.getElem_toArray, List.getElem_cons_succ, List.getElem_cons_zero, List.setIfInBounds_toArray, List.set_cons_zero, List.set_cons_succ]
        refine wpAnyH_take (i := 3) (v := .pointer (some ⟨g, o + k * 2, none⟩)) rfl (by kernel_rfl) (by decide +kernel) (by decide +kernel) (fun _ _ _ h => h) (Or.inl ⟨by rfl, fun w' hSw => ?_⟩) hHeld ?_
        · (go_simp)
        simp only [Act.put, List.getElem_toArray, List.getElem_cons_succ, List.getElem_cons_zero, List.setIfInBounds_toArray, List.set_cons_zero, List.set_cons_succ]
        refine wpAnyH_take (i := 4) (v := .pointer (some ⟨g, o + k * 2, none⟩)) rfl (by kernel_rfl) (by decide +kernel) (by decide +kernel) (fun _ _ _ h => h) (Or.inl ⟨by rfl, fun w' hSw => ?_⟩) hHeld ?_
        · (go_simp)
        simp only [Act.put, List.getElem_toArray, List.getElem_cons_succ, List.getElem_cons_zero, List.setIfInBounds_toArray, List.set_cons_zero, List.set_cons_succ]
        refine wpAnyH_take (i := 5) (v := .int .i64 x.1) rfl (by kernel_rfl) (by decide +kernel) (by decide +kernel) (fun _ _ _ h => h) (Or.inl ⟨by rfl, fun w' hSw => ?_⟩) hHeld ?_
        · (go_simp)
        simp only [Act.put, List.getElem_toArray, List.getElem_cons_succ, List.getElem_cons_zero, List.setIfInBounds_toArray, List.set_cons_zero, List.set_cons_succ]
        refine wpAnyH_take (i := 6) (v := .slice (some ⟨g, o, none⟩) n1 c1) rfl (by kernel_rfl) (by decide +kernel) (by decide +kernel) (fun _ _ _ h => h) (Or.inl ⟨by rfl, fun w' hSw => ?_⟩) hHeld ?_
        · (go_simp)
        simp only [Act.put, List.getElem_toArray, List.getElem_cons_succ, List.getElem_cons_zero, List.setIfInBounds_toArray, List.set_cons_zero, List.set_cons_succ]
        refine wpAnyH_take (i := 7) (v := .int .i64 (k : Int)) rfl (by kernel_rfl) (by decide +kernel) (by decide +kernel) (fun _ _ _ h => h) (Or.inl ⟨by rfl, fun w' hSw => ?_⟩) hHeld ?_
        · (go_simp)
        simp only [Act.put, List.getElem_toArray, List.getElem_cons_succ, List.getElem_cons_zero, List.setIfInBounds_toArray, List.set_cons_zero, List.set_cons_succ]
        refine wpAnyH_take (i := 8) (v := .pointer (some ⟨g, o + k * 2, none⟩)) rfl (by kernel_rfl) (by decide +kernel) (by decide +kernel) (fun _ _ _ h => h) (Or.inl ⟨by rfl, fun w' hSw => ?_⟩) hHeld ?_
        · (go_simp)
        simp only [Act.put, List.getElem_toArray, List.getElem_cons_succ, List.getElem_cons_zero, List.setIfInBounds_toArray, List.set_cons_zero, List.set_cons_succ]
        refine wpAnyH_take (i := 9) (v := .pointer (some ⟨g, o + k * 2 + 1, none⟩)) rfl (by kernel_rfl) (by decide +kernel) (by decide +kernel) (fun _ _ _ h => h) (Or.inl ⟨by rfl, fun w' hSw => ?_⟩) hHeld ?_
        · (go_simp)
        simp only [Act.put, List.getElem_toArray, List.getElem_cons_succ, List.getElem_cons_zero, List.setIfInBounds_toArray, List.set_cons_zero, List.set_cons_succ]
        refine wpAnyH_take (i := 10) (v := .int .i64 x.2) rfl (by kernel_rfl) (by decide +kernel) (by decide +kernel) (fun _ _ _ h => h) (Or.inl ⟨by rfl, fun w' hSw => ?_⟩) hHeld ?_
        · (go_simp)
        simp only [Act.put, List.getElem_toArray, List.getElem_cons_succ, List.getElem_cons_zero, List.setIfInBounds_toArray, List.set_cons_zero, List.set_cons_succ]
        refine wpAnyH_ready (rs := [11]) (by decide +kernel) (by simp) (AllReadyH.cons rfl (fun K hK => ?_) AllReadyH.nil)
        simp only [List.getElem_toArray, List.getElem_cons_succ, List.getElem_cons_zero]
        rw [if_pos (by rfl)]
        go_simp
        go_at_call 13
        refine (rwords_kept _ _).mono ?_
        rintro e w' ⟨rfl, k⟩
        refine hK.out _ _ ⟨hHeld.1.trans k, Bg.cell_on k hHeld.2.1, Bg.cell_on k hHeld.2.2⟩ (fun hHeld => ?_)
        clear hK K k
        refine wpAnyH_take (i := 12) (v := .int .i64 (x.1 + wordsI x.2)) rfl (by kernel_rfl) (by decide +kernel) (by decide +kernel) (fun _ _ _ h => h) (Or.inl ⟨by rfl, fun w' hSw => ?_⟩) hHeld ?_
        · (go_simp)
        simp only [Act.put, List.getElem_toArray, List.getElem_cons_succ, List.getElem_cons_zero, List.setIfInBounds_toArray, List.set_cons_zero, List.set_cons_succ]
        refine wpAnyH_take (i := 13) (v := .int .i64 (x.1 + wordsI x.2 - 64)) rfl (by kernel_rfl) (by decide +kernel) (by decide +kernel) (fun _ _ _ h => h) (Or.inl ⟨by rfl, fun w' hSw => ?_⟩) hHeld ?_
        · (go_simp)
        simp only [Act.put, List.getElem_toArray, List.getElem_cons_succ, List.getElem_cons_zero, List.setIfInBounds_toArray, List.set_cons_zero, List.set_cons_succ]
        refine wpAnyH_take (i := 14) (v := .agg #[.int .i64 (x.1 + wordsI x.2 - 64), .int .i64 4]) rfl (by kernel_rfl) (by decide +kernel) (by decide +kernel) (fun _ _ _ h => h) (Or.inl ⟨by rfl, fun w' hSw => ?_⟩) hHeld ?_
        · (go_simp)
        simp only [Act.put, List.getElem_toArray, List.getElem_cons_succ, List.getElem_cons_zero, List.setIfInBounds_toArray, List.set_cons_zero, List.set_cons_succ]
        refine wpAnyH_ready (rs := [15]) (by decide +kernel) (by simp) (AllReadyH.cons rfl (fun K hK => ?_) AllReadyH.nil)
        simp only [List.getElem_toArray, List.getElem_cons_succ, List.getElem_cons_zero]
        rw [if_pos (by rfl)]
        go_simp
        go_at_call 12
        refine (PC.out (x.1 + wordsI x.2 - 64, 4) 1 hC f2.out _ (R5.out.old hHeld.1)).mono ?_
        rintro e w' ⟨vv, rfl, k⟩
        refine hK.out _ _ ⟨hHeld.1.trans k, Bg.cell_on k hHeld.2.1, Bg.cell_on k hHeld.2.2⟩ (fun hHeld => ?_)
        clear hK K k
        refine wpAnyH_take (i := 16) (v := .tuple #[vv, .int .i64 1]) rfl (by kernel_rfl) (by decide +kernel) (by decide +kernel) (fun _ _ _ h => h) (Or.inl ⟨by rfl, fun w' hSw => ?_⟩) hHeld ?_
        · (go_simp)
        simp only [Act.put, List.getElem_toArray, List.getElem_cons_succ, List.getElem_cons_zero, List.setIfInBounds_toArray, List.set_cons_zero, List.set_cons_succ]
        refine wpAnyH_take (i := 17) (v := vv) rfl (by kernel_rfl) (by decide +kernel) (by decide +kernel) (fun _ _ _ h => h) (Or.inl ⟨by rfl, fun w' hSw => ?_⟩) hHeld ?_
        · (go_simp)
        simp only [Act.put, List.getElem_toArray, List.getElem_cons_succ, List.getElem_cons_zero, List.setIfInBounds_toArray, List.set_cons_zero, List.set_cons_succ]
        refine wpAnyH_take (i := 18) (v := .int .i64 1) rfl (by kernel_rfl) (by decide +kernel) (by decide +kernel) (fun _ _ _ h => h) (Or.inl ⟨by rfl, fun w' hSw => ?_⟩) hHeld ?_
        · (go_simp)
        simp only [Act.put, List.getElem_toArray, List.getElem_cons_succ, List.getElem_cons_zero, List.setIfInBounds_toArray, List.set_cons_zero, List.set_cons_succ]
        refine wpAnyH_take (i := 19) (v := vv) rfl (by kernel_rfl) (by decide +kernel) (by decide +kernel) (fun _ _ _ h => h) (Or.inl ⟨by rfl, fun w' hSw => ?_⟩) hHeld ?_
        · (go_simp)
        simp only [Act.put, List.getElem_toArray, List.getElem_cons_succ, List.getElem_cons_zero, List.setIfInBounds_toArray, List.set_cons_zero, List.set_cons_succ]
        refine wpAnyH_take (i := 20) (v := .int .i64 1) rfl (by kernel_rfl) (by decide +kernel) (by decide +kernel) (fun _ _ _ h => h) (Or.inl ⟨by rfl, fun w' hSw => ?_⟩) hHeld ?_
        · (go_simp)
        simp only [Act.put, List.getElem_toArray, List.getElem_cons_succ, List.getElem_cons_zero, List.setIfInBounds_toArray, List.set_cons_zero, List.set_cons_succ]
        refine wpAnyH_done (by decide +kernel) ?_ _
        have k2 := (‹Kept Old W _ ∧ _›).1
        have R6 := Lib.hid (R5.out.old k2)
        have S6 := Lib.hid (S5.out.old k2)
        have K6 := Lib.hid (K5.out.trans k2)
        clear k2
        go_wp2
        refine ⟨⟨k + 1, by omega, by go_num, R6, S6, K6⟩, ?_⟩
        simp [intOf]; omega
    · have dd : ¬ (k : Int) < (n1 : Int) ∨ ((k : Int) < (n1 : Int) ∧ ¬ (k : Int) < 8) := by omega
      clear d
      have P3 := Lib.hid (PC.out (a1 * 64 + 32, 4) 1 (putC_bad (decide_eq_false (by show ¬ (_ ∧ _ ∧ _ ∧ (a1 * 64 + 32) % 64 = 0 ∧ _); omega))) ⟨⟨by show _ ≤ a1 * 64 + 32; omega, by show a1 * 64 + 32 ≤ _; omega⟩, in4⟩)
      obtain ⟨cc, hcc, hw⟩ : ∃ cc : Int, (cc < 4 ∨ 7 < cc) ∧ ((a2 < 4 ∧ cc = a2) ∨ (4 ≤ a2 ∧ a2 ≤ 7 ∧ IntKind.i64.wrap (a2 - 4) = cc) ∨ (4 ≤ a2 ∧ ¬ a2 ≤ 7 ∧ cc = a2)) := by
        by_cases h4 : a2 < 4
        · exact ⟨a2, .inl h4, .inl ⟨h4, rfl⟩⟩
        · by_cases h7 : a2 ≤ 7
          · exact ⟨a2 - 4, .inl (by omega), .inr (.inl ⟨by omega, h7, IntWalk.i64_in _ (by omega)⟩)⟩
          · exact ⟨a2, .inr (by omega), .inr (.inr ⟨by omega, h7, rfl⟩)⟩
      have icc : Bg.in64 cc := by
        rcases hw with ⟨_, e⟩ | ⟨_, _, e⟩ | ⟨_, _, e⟩
        · subst e; exact ⟨by omega, by omega⟩
        · rw [IntWalk.i64_in _ (by omega)] at e; subst e; exact ⟨by omega, by omega⟩
        · subst e; exact ⟨by omega, by omega⟩
      obtain ⟨t1, t2, t3⟩ := no_class HT.out hcc
      have T2 := Lib.hid (TC.out cc 2 0 t1 t3)
      have P2 := Lib.hid (PC.out (0, cc) 1 (putC_bad (decide_eq_false (by show ¬ (4 ≤ cc ∧ cc ≤ 7 ∧ _); omega))) ⟨in0, icc⟩)
      clear hcc icc t1 t2 t3 PC TC
      rcases dd with dd | ⟨dd, de⟩
      all_goals
        rcases hw with ⟨h4, rfl⟩ | ⟨h4, h7, hw⟩ | ⟨h4, h7, rfl⟩
        all_goals
          go_wp2_with fail
          refine (T2.out _ R4.out).mono ?_
          rintro e w6 ⟨va, rfl, k6⟩
          have R6 := Lib.hid (R4.out.old k6)
          have S6 := Lib.hid (S4.out.old k6)
          have K6 := Lib.hid (K4.out.trans k6)
          clear k6 R4 S4 K4
          go_wp2_with fail
          refine (P2.out _ R6.out).mono ?_
          rintro e w7 ⟨vb, rfl, k7⟩
          have R7 := Lib.hid (R6.out.old k7)
          have S7 := Lib.hid (S6.out.old k7)
          have K7 := Lib.hid (K6.out.trans k7)
          clear k7 R6 S6 K6
          go_wp2_with fail
          refine (P3.out _ R7.out).mono ?_
          rintro e w8 ⟨vc, rfl, k8⟩
          have R8 := Lib.hid (R7.out.old k8)
          have S8 := Lib.hid (S7.out.old k8)
          have K8 := Lib.hid (K7.out.trans k8)
          clear k8 R7 S7 K7
          go_wp2_with fail
          refine (Bg.same_yes _ _ _ _ _ _ _ R8.out S8.out (by omega)).mono ?_
          rintro e w9 ⟨rfl, k9⟩
          have K9 := Lib.hid (K8.out.trans k9)
          clear k9
          go_wp2_with fail
          refine (Bg.awake_any _).mono ?_
          rintro e w10 ⟨rfl, k10⟩
          go_wp2_with fail
          go_ret
          exact ⟨rfl, K9.out.trans k10⟩

/-- The row's step. -/
theorem lifted (os : Os) (started : os.Started) (H : Type) (enc : TypeId × Value → H) :
    ReturnsInHanded {} Try.checked os 6 .any (Rows.largeOwnSpec.pre6 enc Try.prog Try.f6 Rows.largeOwnRow.domain false) (Rows.largeOwnSpec.post enc Try.prog Try.f6 false true false false) := by
  refine returnsInHanded_of_change (C := Try.checked) own started (by kernel_rfl) Try.func6
    (ChangeSpec.witness6 (enc := enc) (C := Try.checked) false ⟨#[], #[.slice none 0 0, .int .u8 0, .int .i64 0], []⟩ 8 (by kernel_rfl) (by kernel_rfl) (by kernel_rfl) (by kernel_rfl)) ?_
  intro W base args ds gs before hval0 hW hcnd _
  have hval : ∀ (j : Nat) t v, Try.f6.params[j]? = some t → args[j]? = some v → Value.okWide Try.prog W .any base t v := hval0
  have hW' := hW
  obtain ⟨p, q, hA0, hV, rfl, hfz, hnd⟩ := hW
  have hA : DataW.TrodAll enc Try.prog W 0 (fun _ => true) true Try.f6.params.toList args.toList ds p := hA0
  rw [Try.params6] at hA hval
  obtain ⟨v0, vs0, d0, ds0, p0, q0, hargs, rfl, rfl, h0, r0⟩ := trodAll_cons hA
  obtain ⟨v1, vs1, d1, ds1, p1, q1, rfl, rfl, rfl, h1, r1⟩ := trodAll_cons r0
  obtain ⟨v2, vs2, d2, ds2, p2, q2, rfl, rfl, rfl, h2, r2⟩ := trodAll_cons r1
  obtain ⟨rfl, rfl, rfl⟩ := trodAll_nil r2
  obtain rfl : args = #[v0, v1, v2] := by cases args; simp_all
  obtain ⟨rfl, rfl⟩ := trodVars_none hV
  have k0 := h0
  have lt0 : ∀ x ∈ p0, x.block < W.heap.size := by obtain ⟨m, hm⟩ := k0; exact DataW.trod_lt m _ _ _ hm
  obtain ⟨a0, len0, cap0, rfl⟩ := okWide_slice Try.underlying28 (hval 0 28 v0 rfl rfl)
  obtain ⟨z0, w0⟩ := ints_in Try.underlying28 Try.underlying5 (by kernel_rfl) h0
  obtain ⟨a1, rfl, rfl, rfl, w1⟩ := open_int Try.underlying5 (hval 1 5 v1 rfl rfl) h1
  obtain ⟨a2, rfl, rfl, rfl, w2⟩ := open_int Try.underlying3 (hval 2 3 v2 rfl rfl) h2
  clear hA0 hval0
  refine (walk a0 len0 cap0 z0 a1 a2 W w0 w1 w2).mono fun e W' ⟨he, kept⟩ => ?_
  subst he
  have bel : Below W.heap.size W W' := kept.toBelow (Nat.le_refl _) (fun _ x => x.elim)
  exact ⟨_, rfl, _, _, _, [], _, [], hW', trodAll_mk1 (shut_bool Try.underlying4 _), (trodAll_cons_mk (Below.trod laidOut (by kernel_rfl) (of_decide_eq_true (by kernel_rfl)) k0 bel lt0) (trodAll_cons_mk (shut_int Try.underlying5 w1) (trodAll_cons_mk (shut_int Try.underlying3 w2) trodAll_mk0))), rfl, bel.frame _, fun h => by cases h⟩

theorem over : Rows.LargeOwnSaid :=
  OpenClaim.holds_of_wide 6 Try.f6 rfl rfl rfl rfl rfl rfl rfl ⟨rfl, rfl, rfl, rfl, rfl⟩ rfl rfl rfl rfl rfl (by kernel_rfl) Try.func6 (by kernel_rfl)
    (of_decide_eq_true (by kernel_rfl)) (by unfold Func.isWrapper; first | (rw [if_pos (by decide +kernel)]; kernel_rfl) | (rw [if_neg (by decide +kernel)]; exact ⟨rfl, rfl⟩))
    (fun os started H enc _ => lifted os started H enc)

/-- The statement. -/
theorem proved : Rows.LargeOwnSaid := over
#print axioms proved
end Go.Proofs.Ytiiojhmlagkcdaa.largeOwn
