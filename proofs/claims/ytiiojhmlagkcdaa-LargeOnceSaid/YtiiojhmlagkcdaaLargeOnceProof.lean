/-
  For every input the law LargeOnce of rickyard/rickyardlaw11 returns true, and its arguments read afterwards as before. The law's own sentence: What is put is taken, by its class, once; of one class those of lower addresses go first. No further conditions.
-/
import Derived.Test.YtiiojhmlagkcdaaRows
import Derived.Test.YtiiojhmlagkcdaaKept
import Derived.Test.YtiiojhmlagkcdaaShell
import Derived.Test.YtiiojhmlagkcdaaShellInts
import Derived.WalkKit
import Derived.ProofKit
import Derived.OpenShut
import Derived.ChangeOld
import Derived.Below
import Derived.Lib.SmallJoins
import Derived.Test.YtiiojhmlagkcdaaBigLaw
namespace Go.Proofs.Ytiiojhmlagkcdaa.largeOnce
open Go.ChangeShapes Go.WideShapes Go.ChangeAt Go.RowKit
set_option linter.unusedVariables false
set_option maxRecDepth 100000

theorem own : ownKnob Try.prog.godebug = none := by kernel_rfl
theorem laidOut : laidOutB Try.prog = true := by kernel_rfl
open Bg in
/-- Behind some takes: what is left of a list into which b was put. -/
structure Once (l : List R) (b : R) (L : List R) (a : Int) (mt : Bool) (k : Nat) : Prop where
  right : RightL L
  len : L.length + k = l.length + 1
  low : ∀ x ∈ L, x.2 = b.2 → a < x.1
  met : mt = false → b ∈ L
open Bg in
theorem Once.start {l : List R} {b : R} (r : RightL l) (m : mayB b = true) (n : anyB l b = false) : Once l b (insL l b) (-1) false 0 :=
  ⟨right_ins r m n, by rw [ins_length], fun x hx _ => by have := (may_of ((right_ins r m n).may hx)).a0; omega, fun _ => (ins_mem l b b).2 (.inl rfl)⟩
open Bg in
theorem Once.ways {l : List R} {b : R} {L : List R} {a : Int} {mt : Bool} {k : Nat} (h : Once l b L a mt k) :
    (takeC L b.2 = 2 ∧ takeL L b.2 = [] ∧ takeA L b.2 = 0 ∧ mt = true) ∨ ∃ x, takeC L b.2 = 0 ∧ takeA L b.2 = x ∧ a < x ∧ in64 x ∧ (takeL L b.2).length + 1 = L.length ∧ Once l b (takeL L b.2) x (mt || x == b.1) (k + 1) := by
  rcases take_ways L b.2 with ⟨hno, _, hC, hL, hA⟩ | ⟨x, hx, hc, hlt, hC, hL, hA⟩
  · refine .inl ⟨hC, hL, hA, ?_⟩
    cases mt with
    | true => rfl
    | false => exact absurd rfl (hno b (h.met rfl))
  · have hmem := List.mem_of_getElem? hx
    have mx := may_of (h.right.may hmem)
    have hlen : (takeL L b.2).length + 1 = L.length := by rw [hL]; simp; omega
    refine .inr ⟨x.1, hC, hA, h.low x hmem hc, ⟨by have := mx.a0; omega, by have := mx.fit; have := mx.w0; omega⟩, hlen, h.right.sub (take_sub _ _), by have := h.len; omega, fun y hy hyc => ?_, fun e => ?_⟩
    · rw [hL] at hy
      rcases List.mem_append.1 hy with hy | hy
      · obtain ⟨j, hj⟩ := List.getElem?_of_mem hy
        have hl := (List.getElem?_eq_some_iff.1 hj).1
        rw [List.length_take] at hl
        rw [List.getElem?_take, if_pos (by omega)] at hj
        exact absurd hyc (ix_lo L b.2 hj (by omega))
      · obtain ⟨j, hj⟩ := List.getElem?_of_mem hy
        rw [List.getElem?_drop] at hj
        have := of_decide_eq_true (h.right.up (i := ixL L b.2) (by omega) hx hj)
        omega
    · rw [Bool.or_eq_false_iff] at e
      have hb := h.met e.1
      have ne : x.1 ≠ b.1 := by simpa using e.2
      rw [hL]
      have spl : L = L.take (ixL L b.2) ++ x :: L.drop (ixL L b.2 + 1) := by
        obtain ⟨hh, ex⟩ := List.getElem?_eq_some_iff.1 hx
        rw [← ex, List.getElem_cons_drop]
        exact (List.take_append_drop _ _).symm
      rw [spl] at hb
      rcases List.mem_append.1 hb with hb | hb
      · exact List.mem_append.2 (.inl hb)
      · rcases List.mem_cons.1 hb with hb | hb
        · exact absurd (by rw [hb]) ne
        · exact List.mem_append.2 (.inr hb)
theorem rwords_kept (c : Int) (w : World) : Calls Try.prog 13 #[.int .i64 c] w fun e w' => e = .returned (.int .i64 (wordsI c)) ∧ Kept Old w w' := by
  refine (rwords_any c w).mono ?_
  rintro e w' ⟨rfl, rfl⟩
  exact ⟨rfl, Kept.refl _ _⟩
open Bg in
theorem far_out {b : R} (h : mayB b = false) (h0 : 4 ≤ b.2) (h1 : b.2 ≤ 7) (h2 : 0 ≤ b.1) (h3 : b.1 % 64 = 0) : 16384 < b.1 + wordsI b.2 := by
  have := of_decide_eq_false h
  omega
open Bg in
theorem right_lit {A : Option Addr} {n c : Nat} {l : List R} (w : World) (h : Rs w A n l) (hn : n ≤ 900) (hc : n ≤ c) (r : RightL l) : Calls Try.prog 8 #[.slice A n c] w fun e w' => e = .returned (.bool true) ∧ Kept Old w w' := by
  refine (right_any A n c l w h hn hc).mono ?_
  rintro e w' ⟨B, rfl, i, k⟩
  obtain rfl := i.2 r
  exact ⟨rfl, k⟩

set_option maxHeartbeats 1500000 in
/-- The walk: the Go text returns true, and nothing that was there has turned. -/
theorem walk (a0 : Option Addr) (len0 cap0 : Nat) (z0 : Nat → Int) (a1 : Int) (a2 : Int) (w : World) (w0 : len0 ≤ cap0 ∧ cap0 ≤ maxLen ∧ (∀ i, i < len0 → (Lit.int .u8 (z0 i)).wf = true) ∧ Sl w a0 1 len0 fun i _ => .int .u8 (z0 i)) (w1 : (Lit.int .u8 a1).wf = true) (w2 : (Lit.int .u8 a2).wf = true) :
    Calls Try.prog 4 #[.slice a0 len0 cap0, .int .u8 a1, .int .u8 a2] w fun e w' => e = .returned (.bool true) ∧ Kept Old w w' := by
  obtain ⟨v0, v1, v2, v3⟩ := w0
  have b1 := bounds_u8 w1
  have b2 := bounds_u8 w2
  have hl : len0 ≤ 9223372036854775807 := by unfold maxLen at v1; omega
  have hz := Lib.hid (show ∀ i, i < len0 → 0 ≤ z0 i ∧ z0 i ≤ 255 from fun i hi => bounds_u8 (v2 i hi))
  have HS := Lib.hid v3
  clear v0 v1 v2 v3 w1 w2
  have fu : a2.tmod 4 = a2 % 4 := Int.tmod_eq_emod_of_nonneg (by omega)
  have j4 : IntKind.i64.wrap a1 = a1 := IntWalk.i64_in _ (by omega)
  have j5 : IntKind.i64.wrap a2 = a2 := IntWalk.i64_in _ (by omega)
  have j6 : IntKind.i64.wrap (a2 % 4) = a2 % 4 := IntWalk.i64_in _ (by omega)
  have j7 : IntKind.i64.wrap (a1 * 64) = a1 * 64 := IntWalk.i64_in _ (by omega)
  have j8 : IntKind.i64.wrap (4 + a2 % 4) = 4 + a2 % 4 := IntWalk.i64_in _ (by omega)
  have bp : Hid (0 ≤ a1 * 64 ∧ a1 * 64 ≤ 16320 ∧ a1 * 64 % 64 = 0 ∧ 4 ≤ 4 + a2 % 4 ∧ 4 + a2 % 4 ≤ 7) := Lib.hid ⟨by omega, by omega, by omega, by omega, by omega⟩
  obtain ⟨HT, HN⟩ := Bg.right_made z0 len0
  go_enter Try.func4, Try.ntmps4
  go_wp2_with fail
  refine (Bg.made_any a0 len0 cap0 z0 w hl hz.out HS.out).mono ?_
  rintro e w1 ⟨v, rfl, A1, n1, c1, rfl, R1, hc1, hA1, k1⟩
  generalize Bg.madeB z0 len0 = l at *
  have lN := R1.len
  have R1 := Lib.hid R1
  have K1 := Lib.hid k1
  have hA := Lib.hid hA1.1
  have HT := Lib.hid HT
  clear hA1 k1 hz HS
  go_wp2_with fail
  have K2 := Lib.hid (K1.out.alloc (.cells #[.int .i64 (a1 * 64), .int .i64 (4 + a2 % 4)] 24))
  have B2 := Lib.hid (Bg.Bx.new w1 (a1 * 64, 4 + a2 % 4))
  clear fu j4 j5 j6 j7 j8
  generalize a1 * 64 = p at *
  generalize 4 + a2 % 4 = q at *
  obtain ⟨p0, p1, p2, q0, q1⟩ := bp.out
  clear bp b1 b2
  have fb := Lib.hid (show Bg.in64 p ∧ Bg.in64 q from ⟨⟨by omega, by omega⟩, ⟨by omega, by omega⟩⟩)
  have PU := Lib.hid (fun W h => Bg.put_any A1 n1 c1 l (p, q) W h HT.out fb.out (by omega) hc1 hA.out)
  generalize hs8 : w1.heap.size = s8 at *
  have R2 := Lib.hid (R1.out.alloc (.cells #[.int .i64 p, .int .i64 q] 24))
  generalize w1.alloc (.cells #[.int .i64 p, .int .i64 q] 24) = V1 at *
  clear R1 K1
  rcases Bg.put_ways l (p, q) with ⟨m, e1, e2⟩ | ⟨m, n, e1, e2⟩ | ⟨m, n, e1, e2⟩
  · have fo := far_out m q0 q1 p0 p2
    have fo : 16384 < p + wordsI q := fo
    have ws : IntKind.i64.wrap (p + wordsI q) = p + wordsI q := IntWalk.i64_in _ (by have := wordsI_lim q; omega)
    have wl := wordsI_lim q
    rw [e1, e2] at PU
    clear e1 e2 m
    refine (PU.out _ R2.out).mono ?_
    rintro e W ⟨v, rfl, A2, n2, c2, rfl, S2, _, _, k⟩
    obtain rfl : n2 = 0 := S2.len.symm
    have K := Lib.hid (K2.out.trans k)
    have B := B2.out.old k
    have x0 := B.c0
    have x1 := B.c1
    clear B k S2 B2 K2 R2
    go_wp2_with fail
    refine wp_region_held_drew (S := (fun w' => Kept Old W w' ∧ w'.cell? ⟨s8, 0, none⟩ = some (.int .i64 p) ∧ w'.cell? ⟨s8, 1, none⟩ = some (.int .i64 q))) (by kernel_rfl) ⟨(Kept.refl Old W).drew, x0, x1⟩ (fun hHeld => ?_)
    refine wpAnyH_take (i := 0) (v := .int .i64 1) rfl (by kernel_rfl) (by decide +kernel) (by decide +kernel) (fun _ _ _ h => h) (Or.inl ⟨by rfl, fun w' hSw => ?_⟩) hHeld ?_
    · (go_simp)
    simp only [Act.put, List.getElem_toArray, List.getElem_cons_zero, List.setIfInBounds_toArray, List.set_cons_zero, List.set_cons_succ]
    refine wpAnyH_take (i := 1) (v := .bool false) rfl (by kernel_rfl) (by decide +kernel) (by decide +kernel) (fun _ _ _ h => h) (Or.inl ⟨by rfl, fun w' hSw => ?_⟩) hHeld ?_
    · (go_simp)
    simp only [Act.put, List.getElem_toArray, List.getElem_cons_succ, List.getElem_cons_zero, List.setIfInBounds_toArray, List.set_cons_zero, List.set_cons_succ]
    refine wpAnyH_take (i := 2) (v := .bool false) rfl (by kernel_rfl) (by decide +kernel) (by decide +kernel) (fun _ _ _ h => h) (Or.inl ⟨by rfl, fun w' hSw => ?_⟩) hHeld ?_
    · (go_simp)
    simp only [Act.put, List.getElem_toArray, List.getElem_cons_succ, List.getElem_cons_zero, List.setIfInBounds_toArray, List.set_cons_zero, List.set_cons_succ]
    refine wpAnyH_take (i := 3) (v := .int .i64 1) rfl (by kernel_rfl) (by decide +kernel) (by decide +kernel) (fun _ _ _ h => h) (Or.inl ⟨by rfl, fun w' hSw => ?_⟩) hHeld ?_
    · (go_simp)
    simp only [Act.put, List.getElem_toArray, List.getElem_cons_succ, List.getElem_cons_zero, List.setIfInBounds_toArray, List.set_cons_zero, List.set_cons_succ]
    refine wpAnyH_take (i := 4) (v := .bool true) rfl (by kernel_rfl) (by decide +kernel) (by decide +kernel) (fun _ _ _ h => h) (Or.inl ⟨by rfl, fun w' hSw => ?_⟩) hHeld ?_
    · (go_simp)
    simp only [Act.put, List.getElem_toArray, List.getElem_cons_succ, List.getElem_cons_zero, List.setIfInBounds_toArray, List.set_cons_zero, List.set_cons_succ]
    refine wpAnyH_take (i := 5) (v := .bool true) rfl (by kernel_rfl) (by decide +kernel) (by decide +kernel) (fun _ _ _ h => h) (Or.inl ⟨by rfl, fun w' hSw => ?_⟩) hHeld ?_
    · (go_simp)
    simp only [Act.put, List.getElem_toArray, List.getElem_cons_succ, List.getElem_cons_zero, List.setIfInBounds_toArray, List.set_cons_zero, List.set_cons_succ]
    refine wpAnyH_take (i := 6) (v := .pointer (some ⟨s8, 0, none⟩)) rfl (by kernel_rfl) (by decide +kernel) (by decide +kernel) (fun _ _ _ h => h) (Or.inl ⟨by rfl, fun w' hSw => ?_⟩) hHeld ?_
    · (go_simp)
    simp only [Act.put, List.getElem_toArray, List.getElem_cons_succ, List.getElem_cons_zero, List.setIfInBounds_toArray, List.set_cons_zero, List.set_cons_succ]
    refine wpAnyH_take (i := 7) (v := .int .i64 p) rfl (by kernel_rfl) (by decide +kernel) (by decide +kernel) (fun _ _ _ h => h) (Or.inl ⟨by rfl, fun w' hSw => ?_⟩) hHeld ?_
    · (go_simp)
    simp only [Act.put, List.getElem_toArray, List.getElem_cons_succ, List.getElem_cons_zero, List.setIfInBounds_toArray, List.set_cons_zero, List.set_cons_succ]
    refine wpAnyH_take (i := 8) (v := .pointer (some ⟨s8, 1, none⟩)) rfl (by kernel_rfl) (by decide +kernel) (by decide +kernel) (fun _ _ _ h => h) (Or.inl ⟨by rfl, fun w' hSw => ?_⟩) hHeld ?_
    · (go_simp)
    simp only [Act.put, List.getElem_toArray, List.getElem_cons_succ, List.getElem_cons_zero, List.setIfInBounds_toArray, List.set_cons_zero, List.set_cons_succ]
    refine wpAnyH_take (i := 9) (v := .int .i64 q) rfl (by kernel_rfl) (by decide +kernel) (by decide +kernel) (fun _ _ _ h => h) (Or.inl ⟨by rfl, fun w' hSw => ?_⟩) hHeld ?_
    · (go_simp)
    simp only [Act.put, List.getElem_toArray, List.getElem_cons_succ, List.getElem_cons_zero, List.setIfInBounds_toArray, List.set_cons_zero, List.set_cons_succ]
    refine wpAnyH_ready (rs := [10]) (by decide +kernel) (by simp) (AllReadyH.cons rfl (fun K hK => ?_) AllReadyH.nil)
    simp only [List.getElem_toArray, List.getElem_cons_succ, List.getElem_cons_zero]
    rw [if_pos (by rfl)]
    go_simp
    go_at_call 13
    refine (rwords_kept _ _).mono ?_
    rintro e w' ⟨rfl, k⟩
    refine hK.out _ _ ⟨hHeld.1.trans k, Bg.cell_on k hHeld.2.1, Bg.cell_on k hHeld.2.2⟩ (fun hHeld => ?_)
    clear hK K k
    refine wpAnyH_take (i := 11) (v := .int .i64 (p + wordsI q)) rfl (by kernel_rfl) (by decide +kernel) (by decide +kernel) (fun _ _ _ h => h) (Or.inl ⟨by rfl, fun w' hSw => ?_⟩) hHeld ?_
    · (go_simp)
    simp only [Act.put, List.getElem_toArray, List.getElem_cons_succ, List.getElem_cons_zero, List.setIfInBounds_toArray, List.set_cons_zero, List.set_cons_succ]
    refine wpAnyH_take (i := 12) (v := .bool true) rfl (by kernel_rfl) (by decide +kernel) (by decide +kernel) (fun _ _ _ h => h) (Or.inl ⟨by rfl, fun w' hSw => ?_⟩) hHeld ?_
    · (go_simp)
    simp only [Act.put, List.getElem_toArray, List.getElem_cons_succ, List.getElem_cons_zero, List.setIfInBounds_toArray, List.set_cons_zero, List.set_cons_succ]
    refine wpAnyH_take (i := 13) (v := .bool true) rfl (by kernel_rfl) (by decide +kernel) (by decide +kernel) (fun _ _ _ h => h) (Or.inl ⟨by rfl, fun w' hSw => ?_⟩) hHeld ?_
    · (go_simp)
    simp only [Act.put, List.getElem_toArray, List.getElem_cons_succ, List.getElem_cons_zero, List.setIfInBounds_toArray, List.set_cons_zero, List.set_cons_succ]
    refine wpAnyH_take (i := 14) (v := .bool true) rfl (by kernel_rfl) (by decide +kernel) (by decide +kernel) (fun _ _ _ h => h) (Or.inl ⟨by rfl, fun w' hSw => ?_⟩) hHeld ?_
    · (go_simp)
    simp only [Act.put, List.getElem_toArray, List.getElem_cons_succ, List.getElem_cons_zero, List.setIfInBounds_toArray, List.set_cons_zero, List.set_cons_succ]
    refine wpAnyH_take (i := 15) (v := .bool true) rfl (by kernel_rfl) (by decide +kernel) (by decide +kernel) (fun _ _ _ h => h) (Or.inl ⟨by rfl, fun w' hSw => ?_⟩) hHeld ?_
    · (go_simp)
    simp only [Act.put, List.getElem_toArray, List.getElem_cons_succ, List.getElem_cons_zero, List.setIfInBounds_toArray, List.set_cons_zero, List.set_cons_succ]
    refine wpAnyH_take (i := 16) (v := .slice A2 0 c2) rfl (by kernel_rfl) (by decide +kernel) (by decide +kernel) (fun _ _ _ h => h) (Or.inl ⟨by rfl, fun w' hSw => ?_⟩) hHeld ?_
    · (go_simp)
    simp only [Act.put, List.getElem_toArray, List.getElem_cons_succ, List.getElem_cons_zero, List.setIfInBounds_toArray, List.set_cons_zero, List.set_cons_succ]
    refine wpAnyH_take (i := 17) (v := .int .i64 0) rfl (by kernel_rfl) (by decide +kernel) (by decide +kernel) (fun _ _ _ h => h) (Or.inl ⟨by rfl, fun w' hSw => ?_⟩) hHeld ?_
    · (go_simp)
    simp only [Act.put, List.getElem_toArray, List.getElem_cons_succ, List.getElem_cons_zero, List.setIfInBounds_toArray, List.set_cons_zero, List.set_cons_succ]
    refine wpAnyH_take (i := 18) (v := .bool true) rfl (by kernel_rfl) (by decide +kernel) (by decide +kernel) (fun _ _ _ h => h) (Or.inl ⟨by rfl, fun w' hSw => ?_⟩) hHeld ?_
    · (go_simp)
    simp only [Act.put, List.getElem_toArray, List.getElem_cons_succ, List.getElem_cons_zero, List.setIfInBounds_toArray, List.set_cons_zero, List.set_cons_succ]
    refine wpAnyH_take (i := 19) (v := .bool true) rfl (by kernel_rfl) (by decide +kernel) (by decide +kernel) (fun _ _ _ h => h) (Or.inl ⟨by rfl, fun w' hSw => ?_⟩) hHeld ?_
    · (go_simp)
    simp only [Act.put, List.getElem_toArray, List.getElem_cons_succ, List.getElem_cons_zero, List.setIfInBounds_toArray, List.set_cons_zero, List.set_cons_succ]
    refine wpAnyH_take (i := 20) (v := .bool true) rfl (by kernel_rfl) (by decide +kernel) (by decide +kernel) (fun _ _ _ h => h) (Or.inl ⟨by rfl, fun w' hSw => ?_⟩) hHeld ?_
    · (go_simp)
    simp only [Act.put, List.getElem_toArray, List.getElem_cons_succ, List.getElem_cons_zero, List.setIfInBounds_toArray, List.set_cons_zero, List.set_cons_succ]
    refine wpAnyH_ready (rs := [21]) (by decide +kernel) (by simp) (AllReadyH.cons rfl (fun K hK => ?_) AllReadyH.nil)
    simp only [List.getElem_toArray, List.getElem_cons_succ, List.getElem_cons_zero]
    rw [if_pos (by rfl)]
    go_simp
    go_at_call 7
    refine (Bg.awake_any _).mono ?_
    rintro e w' ⟨rfl, k⟩
    refine hK.out _ _ ⟨hHeld.1.trans k, Bg.cell_on k hHeld.2.1, Bg.cell_on k hHeld.2.2⟩ (fun hHeld => ?_)
    clear hK K k
    refine wpAnyH_take (i := 22) (v := .bool true) rfl (by kernel_rfl) (by decide +kernel) (by decide +kernel) (fun _ _ _ h => h) (Or.inl ⟨by rfl, fun w' hSw => ?_⟩) hHeld ?_
    · (go_simp)
    simp only [Act.put, List.getElem_toArray, List.getElem_cons_succ, List.getElem_cons_zero, List.setIfInBounds_toArray, List.set_cons_zero, List.set_cons_succ]
    refine wpAnyH_take (i := 23) (v := .bool true) rfl (by kernel_rfl) (by decide +kernel) (by decide +kernel) (fun _ _ _ h => h) (Or.inl ⟨by rfl, fun w' hSw => ?_⟩) hHeld ?_
    · (go_simp)
    simp only [Act.put, List.getElem_toArray, List.getElem_cons_succ, List.getElem_cons_zero, List.setIfInBounds_toArray, List.set_cons_zero, List.set_cons_succ]
    refine wpAnyH_done (by decide +kernel) ?_ _
    have k2 := Lib.hid (‹Kept Old W _ ∧ _›).1
    go_wp2
    go_ret
    exact ⟨rfl, K.out.trans k2.out⟩
  · rw [e1, e2] at PU
    clear e1 e2 m n
    refine (PU.out _ R2.out).mono ?_
    rintro e W ⟨v, rfl, A2, n2, c2, rfl, S2, _, _, k⟩
    obtain rfl : n2 = 0 := S2.len.symm
    have K := Lib.hid (K2.out.trans k)
    have B := B2.out.old k
    have x0 := B.c0
    clear B k S2 B2 K2 R2
    go_wp2_with fail
    refine wp_region_held_drew (S := (fun w' => Kept Old W w' ∧ w'.cell? ⟨s8, 0, none⟩ = some (.int .i64 p))) (by kernel_rfl) ⟨(Kept.refl Old W).drew, x0⟩ (fun hHeld => ?_)
    refine wpAnyH_take (i := 0) (v := .int .i64 4) rfl (by kernel_rfl) (by decide +kernel) (by decide +kernel) (fun _ _ _ h => h) (Or.inl ⟨by rfl, fun w' hSw => ?_⟩) hHeld ?_
    · (go_simp)
    simp only [Act.put, List.getElem_toArray, List.getElem_cons_zero, List.setIfInBounds_toArray, List.set_cons_zero, List.set_cons_succ]
    refine wpAnyH_take (i := 1) (v := .bool true) rfl (by kernel_rfl) (by decide +kernel) (by decide +kernel) (fun _ _ _ h => h) (Or.inl ⟨by rfl, fun w' hSw => ?_⟩) hHeld ?_
    · (go_simp)
    simp only [Act.put, List.getElem_toArray, List.getElem_cons_succ, List.getElem_cons_zero, List.setIfInBounds_toArray, List.set_cons_zero, List.set_cons_succ]
    refine wpAnyH_take (i := 2) (v := .bool true) rfl (by kernel_rfl) (by decide +kernel) (by decide +kernel) (fun _ _ _ h => h) (Or.inl ⟨by rfl, fun w' hSw => ?_⟩) hHeld ?_
    · (go_simp)
    simp only [Act.put, List.getElem_toArray, List.getElem_cons_succ, List.getElem_cons_zero, List.setIfInBounds_toArray, List.set_cons_zero, List.set_cons_succ]
    refine wpAnyH_take (i := 3) (v := undef) rfl (by kernel_rfl) (by decide +kernel) (by decide +kernel) (fun _ _ _ h => h) (Or.inr ⟨by rfl, rfl⟩) hHeld ?_
    simp only [Act.put, List.getElem_toArray, List.getElem_cons_succ, List.getElem_cons_zero, List.setIfInBounds_toArray, List.set_cons_zero, List.set_cons_succ]
    refine wpAnyH_take (i := 4) (v := undef) rfl (by kernel_rfl) (by decide +kernel) (by decide +kernel) (fun _ _ _ h => h) (Or.inr ⟨by rfl, rfl⟩) hHeld ?_
    simp only [Act.put, List.getElem_toArray, List.getElem_cons_succ, List.getElem_cons_zero, List.setIfInBounds_toArray, List.set_cons_zero, List.set_cons_succ]
    refine wpAnyH_take (i := 5) (v := undef) rfl (by kernel_rfl) (by decide +kernel) (by decide +kernel) (fun _ _ _ h => h) (Or.inr ⟨by rfl, rfl⟩) hHeld ?_
    simp only [Act.put, List.getElem_toArray, List.getElem_cons_succ, List.getElem_cons_zero, List.setIfInBounds_toArray, List.set_cons_zero, List.set_cons_succ]
    refine wpAnyH_take (i := 6) (v := undef) rfl (by kernel_rfl) (by decide +kernel) (by decide +kernel) (fun _ _ _ h => h) (Or.inr ⟨by rfl, rfl⟩) hHeld ?_
    simp only [Act.put, List.getElem_toArray, List.getElem_cons_succ, List.getElem_cons_zero, List.setIfInBounds_toArray, List.set_cons_zero, List.set_cons_succ]
    refine wpAnyH_take (i := 7) (v := undef) rfl (by kernel_rfl) (by decide +kernel) (by decide +kernel) (fun _ _ _ h => h) (Or.inr ⟨by rfl, rfl⟩) hHeld ?_
    simp only [Act.put, List.getElem_toArray, List.getElem_cons_succ, List.getElem_cons_zero, List.setIfInBounds_toArray, List.set_cons_zero, List.set_cons_succ]
    refine wpAnyH_take (i := 8) (v := undef) rfl (by kernel_rfl) (by decide +kernel) (by decide +kernel) (fun _ _ _ h => h) (Or.inr ⟨by rfl, rfl⟩) hHeld ?_
    simp only [Act.put, List.getElem_toArray, List.getElem_cons_succ, List.getElem_cons_zero, List.setIfInBounds_toArray, List.set_cons_zero, List.set_cons_succ]
    refine wpAnyH_take (i := 9) (v := undef) rfl (by kernel_rfl) (by decide +kernel) (by decide +kernel) (fun _ _ _ h => h) (Or.inr ⟨by rfl, rfl⟩) hHeld ?_
    simp only [Act.put, List.getElem_toArray, List.getElem_cons_succ, List.getElem_cons_zero, List.setIfInBounds_toArray, List.set_cons_zero, List.set_cons_succ]
    refine wpAnyH_take (i := 10) (v := undef) rfl (by kernel_rfl) (by decide +kernel) (by decide +kernel) (fun _ _ _ h => h) (Or.inr ⟨by rfl, rfl⟩) hHeld ?_
    simp only [Act.put, List.getElem_toArray, List.getElem_cons_succ, List.getElem_cons_zero, List.setIfInBounds_toArray, List.set_cons_zero, List.set_cons_succ]
    refine wpAnyH_take (i := 11) (v := undef) rfl (by kernel_rfl) (by decide +kernel) (by decide +kernel) (fun _ _ _ h => h) (Or.inr ⟨by rfl, rfl⟩) hHeld ?_
    simp only [Act.put, List.getElem_toArray, List.getElem_cons_succ, List.getElem_cons_zero, List.setIfInBounds_toArray, List.set_cons_zero, List.set_cons_succ]
    refine wpAnyH_take (i := 12) (v := undef) rfl (by kernel_rfl) (by decide +kernel) (by decide +kernel) (fun _ _ _ h => h) (Or.inr ⟨by rfl, rfl⟩) hHeld ?_
    simp only [Act.put, List.getElem_toArray, List.getElem_cons_succ, List.getElem_cons_zero, List.setIfInBounds_toArray, List.set_cons_zero, List.set_cons_succ]
    refine wpAnyH_take (i := 13) (v := undef) rfl (by kernel_rfl) (by decide +kernel) (by decide +kernel) (fun _ _ _ h => h) (Or.inr ⟨by rfl, rfl⟩) hHeld ?_
    simp only [Act.put, List.getElem_toArray, List.getElem_cons_succ, List.getElem_cons_zero, List.setIfInBounds_toArray, List.set_cons_zero, List.set_cons_succ]
    refine wpAnyH_take (i := 14) (v := .bool true) rfl (by kernel_rfl) (by decide +kernel) (by decide +kernel) (fun _ _ _ h => h) (Or.inl ⟨by rfl, fun w' hSw => ?_⟩) hHeld ?_
    · (go_simp)
    simp only [Act.put, List.getElem_toArray, List.getElem_cons_succ, List.getElem_cons_zero, List.setIfInBounds_toArray, List.set_cons_zero, List.set_cons_succ]
    refine wpAnyH_take (i := 15) (v := .bool true) rfl (by kernel_rfl) (by decide +kernel) (by decide +kernel) (fun _ _ _ h => h) (Or.inl ⟨by rfl, fun w' hSw => ?_⟩) hHeld ?_
    · (go_simp)
    simp only [Act.put, List.getElem_toArray, List.getElem_cons_succ, List.getElem_cons_zero, List.setIfInBounds_toArray, List.set_cons_zero, List.set_cons_succ]
    refine wpAnyH_take (i := 16) (v := .slice A2 0 c2) rfl (by kernel_rfl) (by decide +kernel) (by decide +kernel) (fun _ _ _ h => h) (Or.inl ⟨by rfl, fun w' hSw => ?_⟩) hHeld ?_
    · (go_simp)
    simp only [Act.put, List.getElem_toArray, List.getElem_cons_succ, List.getElem_cons_zero, List.setIfInBounds_toArray, List.set_cons_zero, List.set_cons_succ]
    refine wpAnyH_take (i := 17) (v := .int .i64 0) rfl (by kernel_rfl) (by decide +kernel) (by decide +kernel) (fun _ _ _ h => h) (Or.inl ⟨by rfl, fun w' hSw => ?_⟩) hHeld ?_
    · (go_simp)
    simp only [Act.put, List.getElem_toArray, List.getElem_cons_succ, List.getElem_cons_zero, List.setIfInBounds_toArray, List.set_cons_zero, List.set_cons_succ]
    refine wpAnyH_take (i := 18) (v := .bool true) rfl (by kernel_rfl) (by decide +kernel) (by decide +kernel) (fun _ _ _ h => h) (Or.inl ⟨by rfl, fun w' hSw => ?_⟩) hHeld ?_
    · (go_simp)
    simp only [Act.put, List.getElem_toArray, List.getElem_cons_succ, List.getElem_cons_zero, List.setIfInBounds_toArray, List.set_cons_zero, List.set_cons_succ]
    refine wpAnyH_take (i := 19) (v := .bool true) rfl (by kernel_rfl) (by decide +kernel) (by decide +kernel) (fun _ _ _ h => h) (Or.inl ⟨by rfl, fun w' hSw => ?_⟩) hHeld ?_
    · (go_simp)
    simp only [Act.put, List.getElem_toArray, List.getElem_cons_succ, List.getElem_cons_zero, List.setIfInBounds_toArray, List.set_cons_zero, List.set_cons_succ]
    refine wpAnyH_take (i := 20) (v := .bool true) rfl (by kernel_rfl) (by decide +kernel) (by decide +kernel) (fun _ _ _ h => h) (Or.inl ⟨by rfl, fun w' hSw => ?_⟩) hHeld ?_
    · (go_simp)
    simp only [Act.put, List.getElem_toArray, List.getElem_cons_succ, List.getElem_cons_zero, List.setIfInBounds_toArray, List.set_cons_zero, List.set_cons_succ]
    refine wpAnyH_ready (rs := [21]) (by decide +kernel) (by simp) (AllReadyH.cons rfl (fun K hK => ?_) AllReadyH.nil)
    simp only [List.getElem_toArray, List.getElem_cons_succ, List.getElem_cons_zero]
    rw [if_pos (by rfl)]
    go_simp
    go_at_call 7
    refine (Bg.awake_any _).mono ?_
    rintro e w' ⟨rfl, k⟩
    refine hK.out _ _ ⟨hHeld.1.trans k, Bg.cell_on k hHeld.2⟩ (fun hHeld => ?_)
    clear hK K k
    refine wpAnyH_take (i := 22) (v := .bool true) rfl (by kernel_rfl) (by decide +kernel) (by decide +kernel) (fun _ _ _ h => h) (Or.inl ⟨by rfl, fun w' hSw => ?_⟩) hHeld ?_
    · (go_simp)
    simp only [Act.put, List.getElem_toArray, List.getElem_cons_succ, List.getElem_cons_zero, List.setIfInBounds_toArray, List.set_cons_zero, List.set_cons_succ]
    refine wpAnyH_take (i := 23) (v := .bool true) rfl (by kernel_rfl) (by decide +kernel) (by decide +kernel) (fun _ _ _ h => h) (Or.inl ⟨by rfl, fun w' hSw => ?_⟩) hHeld ?_
    · (go_simp)
    simp only [Act.put, List.getElem_toArray, List.getElem_cons_succ, List.getElem_cons_zero, List.setIfInBounds_toArray, List.set_cons_zero, List.set_cons_succ]
    refine wpAnyH_done (by decide +kernel) ?_ _
    have k2 := Lib.hid (‹Kept Old W _ ∧ _›).1
    go_wp2
    go_ret
    exact ⟨rfl, K.out.trans k2.out⟩
  · have ON := Lib.hid (Once.start HT.out m n)
    have ln := Bg.ins_length l (p, q)
    rw [e1, e2] at PU
    clear e1 e2 m n
    refine (PU.out _ R2.out).mono ?_
    rintro e w2 ⟨v, rfl, A2, n2, c2, rfl, S2, hc2, hA2, k⟩
    have K := Lib.hid (K2.out.trans k)
    have B := Lib.hid (B2.out.old k)
    have R3 := Lib.hid (R2.out.old k)
    have M := Lib.hid (show Bg.Made1 (Bg.insL l (p, q)) w (.slice A2 n2 c2) w2 from ⟨A2, n2, c2, rfl, S2, hc2, ⟨hA2.1, fun ad e => Nat.le_trans K2.out.size (hA2.2 ad e)⟩, K.out⟩)
    generalize Bg.insL l (p, q) = L at *
    clear k S2 hc2 hA2 B2 K2 R2
    go_wp2_with fail
    go_loopw [9, 11, 12, 13] (fun m la me i wr => ∃ (k : Nat) (L : List Bg.R) (a : Int) (mt : Bool), i = .int .i64 (k : Int) ∧ la = .int .i64 a ∧ me = .bool mt ∧ Hid (Once l (p, q) L a mt k) ∧ Hid (Bg.Made1 L w m wr) ∧ Hid (Bg.Bx wr s8 (p, q)) ∧ Hid (Bg.Rs wr A1 n1 l)) (fun _ _ _ i _ => l.length + 2 - (intOf i).toNat)
    case atStart => exact ⟨0, L, -1, false, rfl, rfl, rfl, ON, M, B, R3⟩
    case round =>
      clear ON M B R3 K
      obtain ⟨k, L', a, mt, rfl, rfl, rfl, ON, M, B, R3⟩ := hrel
      rename World => V
      obtain ⟨A4, n4, c4, rfl, S4, hc4, hA4, K4⟩ := M.out
      have l4 := S4.len
      have ol := ON.out.len
      have kle : (k : Int) ≤ (n1 : Int) + 1 := by omega
      have y0 := B.out.c0
      have y1 := B.out.c1
      have TK := Lib.hid (Bg.take_any A4 n4 c4 L' q V S4 (by omega) hc4)
      have K4 := Lib.hid K4
      have wy := Lib.hid ON.out.ways
      have S4 := Lib.hid S4
      clear hA4
      rcases wy.out with ⟨hC, hL, hA', hm⟩ | ⟨x, hC, hA', hax, hx64, hln, ON2⟩
      · subst hm
        rw [show Bg.takeC L' q = 2 from hC, show Bg.takeL L' q = [] from hL, show Bg.takeA L' q = 0 from hA'] at TK
        clear wy hC hL hA'
        go_wp2_with fail
        refine TK.out.mono ?_
        rintro e w5 ⟨v, rfl, A5, n5, c5, rfl, S5, _, _, k5⟩
        have K5 := Lib.hid (K4.out.trans k5)
        have B5 := Lib.hid (B.out.old k5)
        have z0 := B5.out.c0
        have z1 := B5.out.c1
        have R5 := Lib.hid (R3.out.old k5)
        have S5' := Lib.hid (S4.out.old k5)
        clear k5 S5 y0 y1 K4 B R3 S4 TK
        go_wp2_with fail
        refine (PU.out _ R5.out).mono ?_
        rintro e w6 ⟨v, rfl, A6, n6, c6, rfl, _, _, _, k6⟩
        have K6 := Lib.hid (K5.out.trans k6)
        have S6 := Lib.hid (S5'.out.old k6)
        clear k6 z0 z1
        go_wp2_with fail
        refine (right_lit _ S6.out (by omega) hc4 ON.out.right).mono ?_
        rintro e w7 ⟨rfl, k7⟩
        have K7 := Lib.hid (K6.out.trans k7)
        clear k7
        go_wp2_with fail
        refine (Bg.awake_any _).mono ?_
        rintro e w8 ⟨rfl, k8⟩
        go_wp2_with fail
        go_ret
        exact ⟨rfl, K7.out.trans k8⟩
      · rw [show Bg.takeC L' q = 0 from hC, show Bg.takeA L' q = x from hA'] at TK
        have ON2 := Lib.hid (show Once l (p, q) (Bg.takeL L' q) x (mt || x == p) (k + 1) from ON2)
        have hln : (Bg.takeL L' q).length + 1 = L'.length := hln
        generalize Bg.takeL L' q = L5 at *
        clear wy hC hA'
        obtain ⟨hx1, hx2⟩ := hx64
        go_wp2_with fail
        refine TK.out.mono ?_
        rintro e w5 ⟨v, rfl, A5, n5, c5, rfl, S5, hc5, hA5, k5⟩
        have l5 := S5.len
        have wn : IntKind.i64.wrap ((n4 : Int) - 1) = (n5 : Int) := by rw [IntWalk.i64_in _ (by omega)]; omega
        have nx : ¬ x ≤ a := by omega
        have M5 := Lib.hid (show Bg.Made1 L5 w (.slice A5 n5 c5) w5 from ⟨A5, n5, c5, rfl, S5, hc5, ⟨hA5.1, fun ad e => Nat.le_trans K4.out.size (hA5.2 ad e)⟩, K4.out.trans k5⟩)
        have B5 := Lib.hid (B.out.old k5)
        have z0 := B5.out.c0
        have R5 := Lib.hid (R3.out.old k5)
        clear k5 S5 y0 y1 K4 B R3 S4 TK hA5
        cases mt with
        | true =>
          go_wp2
          refine ⟨⟨k + 1, L5, x, true, by go_num, rfl, rfl, ON2, M5, B5, R5⟩, ?_⟩
          simp [intOf]; omega
        | false =>
          go_wp2
          refine ⟨⟨k + 1, L5, x, x == p, by go_num, rfl, rfl, ON2, M5, B5, R5⟩, ?_⟩
          simp [intOf]; omega

/-- The row's step. -/
theorem lifted (os : Os) (started : os.Started) (H : Type) (enc : TypeId × Value → H) :
    ReturnsInHanded {} Try.checked os 4 .any (Rows.largeOnceSpec.pre6 enc Try.prog Try.f4 Rows.largeOnceRow.domain false) (Rows.largeOnceSpec.post enc Try.prog Try.f4 false true false false) := by
  refine returnsInHanded_of_change (C := Try.checked) own started (by kernel_rfl) Try.func4
    (ChangeSpec.witness6 (enc := enc) (C := Try.checked) false ⟨#[], #[.slice none 0 0, .int .u8 0, .int .u8 0], []⟩ 8 (by kernel_rfl) (by kernel_rfl) (by kernel_rfl) (by kernel_rfl)) ?_
  intro W base args ds gs before hval0 hW hcnd _
  have hval : ∀ (j : Nat) t v, Try.f4.params[j]? = some t → args[j]? = some v → Value.okWide Try.prog W .any base t v := hval0
  have hW' := hW
  obtain ⟨p, q, hA0, hV, rfl, hfz, hnd⟩ := hW
  have hA : DataW.TrodAll enc Try.prog W 0 (fun _ => true) true Try.f4.params.toList args.toList ds p := hA0
  rw [Try.params4] at hA hval
  obtain ⟨v0, vs0, d0, ds0, p0, q0, hargs, rfl, rfl, h0, r0⟩ := trodAll_cons hA
  obtain ⟨v1, vs1, d1, ds1, p1, q1, rfl, rfl, rfl, h1, r1⟩ := trodAll_cons r0
  obtain ⟨v2, vs2, d2, ds2, p2, q2, rfl, rfl, rfl, h2, r2⟩ := trodAll_cons r1
  obtain ⟨rfl, rfl, rfl⟩ := trodAll_nil r2
  obtain rfl : args = #[v0, v1, v2] := by cases args; simp_all
  obtain ⟨rfl, rfl⟩ := trodVars_none hV
  have k0 := h0
  have lt0 : ∀ x ∈ p0, x.block < W.heap.size := by obtain ⟨m, hm⟩ := k0; exact DataW.trod_lt m _ _ _ hm
  obtain ⟨a0, len0, cap0, rfl⟩ := okWide_slice Try.underlying28 (hval 0 28 v0 rfl rfl)
  obtain ⟨z0, w0⟩ := ints_in Try.underlying28 Try.underlying5 (by kernel_rfl) h0
  obtain ⟨a1, rfl, rfl, rfl, w1⟩ := open_int Try.underlying5 (hval 1 5 v1 rfl rfl) h1
  obtain ⟨a2, rfl, rfl, rfl, w2⟩ := open_int Try.underlying5 (hval 2 5 v2 rfl rfl) h2
  clear hA0 hval0
  refine (walk a0 len0 cap0 z0 a1 a2 W w0 w1 w2).mono fun e W' ⟨he, kept⟩ => ?_
  subst he
  have bel : Below W.heap.size W W' := kept.toBelow (Nat.le_refl _) (fun _ x => x.elim)
  exact ⟨_, rfl, _, _, _, [], _, [], hW', trodAll_mk1 (shut_bool Try.underlying4 _), (trodAll_cons_mk (Below.trod laidOut (by kernel_rfl) (of_decide_eq_true (by kernel_rfl)) k0 bel lt0) (trodAll_cons_mk (shut_int Try.underlying5 w1) (trodAll_cons_mk (shut_int Try.underlying5 w2) trodAll_mk0))), rfl, bel.frame _, fun h => by cases h⟩

theorem over : Rows.LargeOnceSaid :=
  OpenClaim.holds_of_wide 4 Try.f4 rfl rfl rfl rfl rfl rfl rfl ⟨rfl, rfl, rfl, rfl, rfl⟩ rfl rfl rfl rfl rfl (by kernel_rfl) Try.func4 (by kernel_rfl)
    (of_decide_eq_true (by kernel_rfl)) (by unfold Func.isWrapper; first | (rw [if_pos (by decide +kernel)]; kernel_rfl) | (rw [if_neg (by decide +kernel)]; exact ⟨rfl, rfl⟩))
    (fun os started H enc _ => lifted os started H enc)

/-- The statement. -/
theorem proved : Rows.LargeOnceSaid := over
#print axioms proved
end Go.Proofs.Ytiiojhmlagkcdaa.largeOnce
