/-
  For every input the law StoreQuiet of rickyard/rickyardlaw14 returns true, and its arguments read afterwards as before. The law's own sentence: When all is freed, in any order, and the phase is off, the heap is one run. No further conditions.
-/
import Derived.Test.YtjfkmgicbakmgaaGreatRows
import Derived.SizedLaws
import Derived.WalkKit
import Derived.ProofKit
import Derived.OpenShut
import Derived.ChangeOld
import Derived.Below
import Derived.Lib.SmallJoins
import Derived.Test.YtjfkmgicbakmgaaGreatJBase
import Derived.Test.YtjfkmgicbakmgaaGreatJModelNew
import Derived.Test.YtjfkmgicbakmgaaGreatJStoreCov
import Derived.Test.YtjfkmgicbakmgaaGreatJStorePlayed
import Derived.Test.YtjfkmgicbakmgaaGreatJStoreSameP
namespace Go.Proofs.YtjfkmgicbakmgaaGreat.storeQuiet
open Go.ChangeShapes Go.WideShapes Go.ChangeAt Go.RowKit
set_option linter.unusedVariables false
set_option maxRecDepth 100000

theorem own : ownKnob Tryz.prog.godebug = none := by kernel_rfl
theorem laidOut : laidOutB Tryz.prog = true := by kernel_rfl
open Sto
theorem del_gone {Z : Int} {live : List Lm.S} {a : Int} (v : Lm.Valid Z live) (h : Lm.hasB live a = true) : Lm.hasB (Lm.delL live a) a = false := by
  cases e : Lm.hasB (Lm.delL live a) a with
  | false => rfl
  | true =>
    exfalso
    obtain ⟨y, hy, ya, _⟩ := Lm.has_at e
    obtain ⟨j, ne, hj⟩ := mem_cut.1 (List.mem_of_getElem? hy)
    obtain ⟨x, hx, xa, _⟩ := Lm.has_at h
    rcases Nat.lt_or_gt_of_ne ne with q | q
    · have := v.lt hj hx q; omega
    · have := v.lt hx hj q; omega
theorem del_len {live : List Lm.S} {a : Int} (h : Lm.hasB live a = true) : (Lm.delL live a).length + 1 = live.length := by
  obtain ⟨x, hx, xa, hl⟩ := Lm.has_at h
  unfold Lm.delL
  rw [List.length_append, List.length_take, List.length_drop]
  omega
theorem freeR_yes {k : Sto.K} {live : List Lm.S} {a : Int} (h : Lm.hasB live a = true) : freeR k live a = (gaveR k a (classAt live a), Lm.delL live a, 0) := by unfold freeR; rw [if_pos h]
theorem freeR_no {k : Sto.K} {live : List Lm.S} {a : Int} (h : Lm.hasB live a = false) : freeR k live a = (k, live, 2) := by unfold freeR; rw [if_neg (by rw [h]; simp)]
theorem liv_lt {W : World} {A : Option Addr} {n : Nat} {l : List Lm.S} (h : Lm.RsS W A n l) {b : Nat} (hb : FR A n b) : b < W.heap.size := by
  obtain ⟨hn, ad, e, rfl⟩ := hb
  obtain ⟨g, o, rfl, hg, _⟩ := h.lies hn
  injection e with e
  subst e
  exact hg
theorem liv_fr {D : Nat → Prop} {W W' : World} {A : Option Addr} {n : Nat} {l : List Lm.S} (h : Lm.RsS W A n l) (k : Kept D W W') (hd : ∀ b, b < W.heap.size → FR A n b → ¬ D b) : Lm.RsS W' A n l := by
  by_cases hn : 0 < n
  · exact h.kept k (fun ad e => hd ad.block (liv_lt h ⟨hn, ad, e, rfl⟩) ⟨hn, ad, e, rfl⟩)
  · obtain rfl : n = 0 := by omega
    obtain rfl : l = [] := List.eq_nil_of_length_eq_zero h.len
    exact Lm.RsS.nil _ _
theorem quiet_parts {P : Nat} {k : Sto.K} {l0 l1 l3 l4 l5 : List Pc} (v : Sv P k []) (on : k.on = false) (po : PartsOf k [] l0 l1 l3 l4 l5) : l0 = [(0, (P : Int) * 64)] ∧ l1 = [] ∧ l3 = [] ∧ l4 = [] ∧ l5 = [] := by
  obtain ⟨q1, q2, q3, q4, q5⟩ := v.inv.quiet on (fun a c o => by obtain ⟨x, hx, _⟩ := o; cases hx)
  have p := po.p.perm.length_eq
  have b := po.b.perm.length_eq
  have t := po.t.perm.length_eq
  rw [q3] at b
  rw [q4] at t
  have e : poolP k.p = [] := by unfold poolP poolC; rw [q5 0 (by omega), q5 1 (by omega), q5 2 (by omega), q5 3 (by omega)]; rfl
  rw [e] at p
  refine ⟨by rw [po.r, q1]; unfold runsP; simp, List.eq_nil_of_length_eq_zero p, List.eq_nil_of_length_eq_zero b, List.eq_nil_of_length_eq_zero t, by rw [po.v]; rfl⟩

set_option maxHeartbeats 4000000 in
/-- The walk: the Go text returns true, and nothing that was there has turned. -/
theorem walk (a0 : Int) (a1 : Option Addr) (len1 cap1 : Nat) (z1 : Nat → Int) (a2 : Option Addr) (len2 cap2 : Nat) (z2 : Nat → Int) (a3 : Bool) (w : World) (w0 : (Lit.int .u8 a0).wf = true) (w1 : len1 ≤ cap1 ∧ cap1 ≤ maxLen ∧ (∀ i, i < len1 → (Lit.int .u8 (z1 i)).wf = true) ∧ Sl w a1 1 len1 fun i _ => .int .u8 (z1 i)) (rch1 : cap1 * 1 ≤ 140737488351232 ∧ (a1 = none → len1 = 0 ∧ cap1 = 0)) (w2 : len2 ≤ cap2 ∧ cap2 ≤ maxLen ∧ (∀ i, i < len2 → (Lit.int .u8 (z2 i)).wf = true) ∧ Sl w a2 1 len2 fun i _ => .int .u8 (z2 i)) (rch2 : cap2 * 1 ≤ 140737488351232 ∧ (a2 = none → len2 = 0 ∧ cap2 = 0)) :
    Calls Tryz.prog 6 #[.int .u8 a0, .slice a1 len1 cap1, .slice a2 len2 cap2, .bool a3] w fun e w' => e = .returned (.bool true) ∧ Kept Old w w' := by
  obtain ⟨v0, v1, v2, v3⟩ := w1
  have hl : len1 ≤ 9223372036854775807 := by unfold maxLen at v1; omega
  have hz := Lib.hid (show ∀ i, i < len1 → 0 ≤ z1 i ∧ z1 i ≤ 255 from fun i hi => bounds_u8 (v2 i hi))
  have HS := Lib.hid v3
  obtain ⟨p1, p2⟩ := bounds_u8 w0
  obtain ⟨u, rfl⟩ : ∃ u : Nat, a0 = (u : Int) := ⟨a0.toNat, by omega⟩
  obtain ⟨P, hP, P1, P2⟩ : ∃ P : Nat, 1 + (u : Int) = (P : Int) ∧ 1 ≤ P ∧ P ≤ 256 := ⟨1 + u, by omega, by omega, by omega⟩
  obtain ⟨u0, u1, u2, u3⟩ := w2
  have hl2 : len2 ≤ 9223372036854775807 := by unfold maxLen at u1; omega
  have hz2 := Lib.hid (show ∀ i, i < len2 → 0 ≤ z2 i ∧ z2 i ≤ 255 from fun i hi => bounds_u8 (u2 i hi))
  have HS2 := Lib.hid u3
  clear u0 u1 u2 u3 v0 v1 v2 v3 w0
  have PL := Lib.hid (played_any u P (by omega) hP a1 len1 cap1 z1 hl hz.out HS.out)
  go_enter Tryz.func6, Tryz.ntmps6
  go_wp2_with fail
  refine PL.out.mono ?_
  rintro e W1 ⟨s, rfl, k0, live0, pl0, m0, sv0⟩
  have M0 := Lib.hid m0
  have V0 := Lib.hid sv0
  clear m0 sv0 PL
  go_wp2_with fail
  · refine (sgc_any false M0.out V0.out.inv).mono ?_
    rintro e W2 ⟨rfl, ⟨pl1, m1, _⟩, f1⟩
    have M1 := Lib.hid m1
    have V1 := Lib.hid (V0.out.gc false)
    clear m1 f1 M0
    go_wp2_with fail
    go_loopw [10] (fun s10 wr => ∃ (i : Nat) (k : Sto.K) (live : List Lm.S) (pl : Pl), i ≤ 800 ∧ s10 = .int .i64 (i : Int) ∧ i + live.length ≤ 600 ∧ Hid (StM w wr s P k live NoB pl) ∧ Hid (Sv P k live)) (fun s10 _ => 802 - (intOf s10).toNat)
    case atStart => exact ⟨0, _, _, _, by omega, rfl, by have := V1.out.val.len; omega, M1, V1⟩
    case round =>
      clear M1 V1
      obtain ⟨i, k, live, pl, hi, rfl, hil, M, SV⟩ := hrel
      rename World => V
      have wi : IntKind.i64.wrap ((i : Int) + 1) = (i : Int) + 1 := IntWalk.i64_in _ (by omega)
      have ci : (i : Int) < 800 := by omega
      go_wp2_with fail
      refine (slive_any M.out (by omega)).mono ?_
      rintro e X1 ⟨vl, rfl, AL, nL, cL, rfl, RL, _, NL, kl⟩
      have ln := RL.len
      by_cases n0 : nL = 0
      · subst n0
        obtain rfl : live = [] := List.eq_nil_of_length_eq_zero ln
        have M := Lib.hid (M.out.old kl)
        clear RL NL kl ln
        go_wp2_with fail
        refine (sgc_any false M.out SV.out.inv).mono ?_
        rintro e X2 ⟨rfl, ⟨pl2, m2, _⟩, f2⟩
        have M2 := Lib.hid m2
        have V2 := Lib.hid (SV.out.gc false)
        clear m2 f2 M
        have zm : IntKind.i64.wrap ((P : Int) * 64) = (P : Int) * 64 := IntWalk.i64_in _ (by omega)
        have zP : IntKind.i64.wrap (P : Int) = (P : Int) := IntWalk.i64_in _ (by omega)
        have KA : Kept Old X2 ((X2.alloc (.cells #[.int .i64 0, .int .i64 ((P : Int) * 64)] 54)).alloc (.cells #[.slice (some ⟨X2.heap.size, 0, none⟩) 1 1, nilS, nilS, nilS, nilS, nilS, nilS] 44)) := ((Kept.refl Old X2).alloc _).alloc _
        have RW := ((Pc.Rs.one X2 (0, (P : Int) * 64) ⟨by simp only; omega, by simp only; omega⟩ ⟨by simp only; omega, by simp only; omega⟩ _ rfl).old ((Kept.refl Old _).alloc (.cells #[.slice (some ⟨X2.heap.size, 0, none⟩) 1 1, nilS, nilS, nilS, nilS, nilS, nilS] 44)))
        have XB := Blk.new (X2.alloc (.cells #[.int .i64 0, .int .i64 ((P : Int) * 64)] 54)) 44 [.slice (some ⟨X2.heap.size, 0, none⟩) 1 1, nilS, nilS, nilS, nilS, nilS, nilS]
        rw [show (X2.alloc (.cells #[.int .i64 0, .int .i64 ((P : Int) * 64)] 54)).heap.size = X2.heap.size + 1 by simp] at XB
        have M3 := Lib.hid (M2.out.old KA)
        have RW := Lib.hid RW
        have XB := Lib.hid XB
        clear KA M2
        go_wp2_with fail
        generalize hX3 : (X2.alloc (.cells #[.int .i64 0, .int .i64 ((P : Int) * 64)] 54)).alloc (.cells #[.slice (some ⟨X2.heap.size, 0, none⟩) 1 1, nilS, nilS, nilS, nilS, nilS, nilS] 44) = X3 at *
        clear hX3
        generalize hrb : X2.heap.size = rb at *
        clear hrb
        have x0 := XB.out.cell 0
        have x1 := XB.out.cell 1
        have x2 := XB.out.cell 2
        have x3 := XB.out.cell 3
        have x4 := XB.out.cell 4
        have x5 := XB.out.cell 5
        have x6 := XB.out.cell 6
        simp only [List.getElem?_cons_succ, List.getElem?_cons_zero] at x0 x1 x2 x3 x4 x5 x6
        refine wp_region_held_drew (S := (fun w' => w'.cell? ⟨rb + 1, 0, none⟩ = some (.slice (some ⟨rb, 0, none⟩) 1 1) ∧ w'.cell? ⟨rb + 1, 1, none⟩ = some (.slice none 0 0) ∧ w'.cell? ⟨rb + 1, 2, none⟩ = some (.slice none 0 0) ∧ w'.cell? ⟨rb + 1, 3, none⟩ = some (.slice none 0 0) ∧ w'.cell? ⟨rb + 1, 4, none⟩ = some (.slice none 0 0) ∧ w'.cell? ⟨rb + 1, 5, none⟩ = some (.slice none 0 0) ∧ w'.cell? ⟨rb + 1, 6, none⟩ = some (.slice none 0 0))) (by kernel_rfl) ⟨x0, x1, x2, x3, x4, x5, x6⟩ (fun hHeld => ?_)
        refine wpAnyH_take (i := 0) (v := ptr s) rfl (by kernel_rfl) (by decide +kernel) (by decide +kernel) (fun _ _ _ h => h) (Or.inl ⟨by rfl, fun w' hSw => ?_⟩) hHeld ?_
        · (go_simp)
        simp only [Act.put, List.getElem_toArray, List.getElem_cons_zero, List.setIfInBounds_toArray, List.set_cons_zero, List.set_cons_succ]
        refine wpAnyH_ready (rs := [1]) (by decide +kernel) (by simp) (AllReadyH.cons rfl (fun K hK => ?_) AllReadyH.nil)
        simp only [List.getElem_toArray, List.getElem_cons_succ, List.getElem_cons_zero]
        rw [if_pos (by rfl)]
        go_simp
        go_at_call 24
        refine (slive_any (M3.out.old (Kept.refl Old X3).drew) (by have := V2.out.val.len; omega)).mono ?_
        rintro e V4 ⟨v5, rfl, AL, nL, cL, rfl, RL, _, _, k4⟩
        obtain rfl : nL = 0 := RL.len.symm
        have K4 := Lib.hid (show Kept Old X3 V4 from (Kept.refl Old X3).drew.trans k4)
        refine hK.out _ _ ⟨Bg.cell_on k4 hHeld.1, Bg.cell_on k4 hHeld.2.1, Bg.cell_on k4 hHeld.2.2.1, Bg.cell_on k4 hHeld.2.2.2.1, Bg.cell_on k4 hHeld.2.2.2.2.1, Bg.cell_on k4 hHeld.2.2.2.2.2.1, Bg.cell_on k4 hHeld.2.2.2.2.2.2⟩ (fun hHeld => ?_)
        clear hK K k4 RL
        refine wpAnyH_take (i := 2) (v := .int .i64 0) rfl (by kernel_rfl) (by decide +kernel) (by decide +kernel) (fun _ _ _ h => h) (Or.inl ⟨by rfl, fun w' hSw => ?_⟩) hHeld ?_
        · (go_simp)
        simp only [Act.put, List.getElem_toArray, List.getElem_cons_succ, List.getElem_cons_zero, List.setIfInBounds_toArray, List.set_cons_zero, List.set_cons_succ]
        refine wpAnyH_take (i := 3) (v := .bool true) rfl (by kernel_rfl) (by decide +kernel) (by decide +kernel) (fun _ _ _ h => h) (Or.inl ⟨by rfl, fun w' hSw => ?_⟩) hHeld ?_
        · (go_simp)
        simp only [Act.put, List.getElem_toArray, List.getElem_cons_succ, List.getElem_cons_zero, List.setIfInBounds_toArray, List.set_cons_zero, List.set_cons_succ]
        refine wpAnyH_take (i := 4) (v := .bool true) rfl (by kernel_rfl) (by decide +kernel) (by decide +kernel) (fun _ _ _ h => h) (Or.inl ⟨by rfl, fun w' hSw => ?_⟩) hHeld ?_
        · (go_simp)
        simp only [Act.put, List.getElem_toArray, List.getElem_cons_succ, List.getElem_cons_zero, List.setIfInBounds_toArray, List.set_cons_zero, List.set_cons_succ]
        refine wpAnyH_take (i := 5) (v := ptr s) rfl (by kernel_rfl) (by decide +kernel) (by decide +kernel) (fun _ _ _ h => h) (Or.inl ⟨by rfl, fun w' hSw => ?_⟩) hHeld ?_
        · (go_simp)
        simp only [Act.put, List.getElem_toArray, List.getElem_cons_succ, List.getElem_cons_zero, List.setIfInBounds_toArray, List.set_cons_zero, List.set_cons_succ]
        refine wpAnyH_take (i := 7) (v := .agg #[.slice (some ⟨rb, 0, none⟩) 1 1, nilS, nilS, nilS, nilS, nilS, nilS]) rfl (by kernel_rfl) (by decide +kernel) (by decide +kernel) (fun _ _ _ h => h) (Or.inl ⟨by rfl, fun w' hSw => ?_⟩) hHeld ?_
        · (go_simp)
        simp only [Act.put, List.getElem_toArray, List.getElem_cons_succ, List.getElem_cons_zero, List.setIfInBounds_toArray, List.set_cons_zero, List.set_cons_succ]
        refine wpAnyH_ready (rs := [6]) (by decide +kernel) (by simp) (AllReadyH.cons rfl (fun K hK => ?_) AllReadyH.nil)
        simp only [List.getElem_toArray, List.getElem_cons_succ, List.getElem_cons_zero]
        rw [if_pos (by rfl)]
        go_simp
        go_at_call 22
        refine (sparts_any (M3.out.old K4.out) V2.out).mono ?_
        rintro e V5 ⟨vp, l0, l1, l3, l4, l5, rfl, pa, po, k5⟩
        obtain ⟨rfl, rfl, rfl, rfl, rfl⟩ := quiet_parts V2.out rfl po
        have K5 := Lib.hid (K4.out.trans k5)
        have PA := Lib.hid pa
        have PB := Lib.hid (show PartsAt V5 (.agg #[.slice (some ⟨rb, 0, none⟩) 1 1, nilS, nilS, nilS, nilS, nilS, nilS]) [(0, (P : Int) * 64)] [] [] [] [] [] [] from ⟨_, _, _, _, _, _, _, rfl, ⟨_, _, _, rfl, RW.out.old K5.out, Nat.le_refl _⟩, Reads.nil _, Reads.nil _, Reads.nil _, Reads.nil _, Reads.nil _, Reads.nil _⟩)
        refine hK.out _ _ ⟨Bg.cell_on k5 hHeld.1, Bg.cell_on k5 hHeld.2.1, Bg.cell_on k5 hHeld.2.2.1, Bg.cell_on k5 hHeld.2.2.2.1, Bg.cell_on k5 hHeld.2.2.2.2.1, Bg.cell_on k5 hHeld.2.2.2.2.2.1, Bg.cell_on k5 hHeld.2.2.2.2.2.2⟩ (fun hHeld => ?_)
        clear hK K k5 pa po
        refine wpAnyH_ready (rs := [8]) (by decide +kernel) (by simp) (AllReadyH.cons rfl (fun K hK => ?_) AllReadyH.nil)
        simp only [List.getElem_toArray, List.getElem_cons_succ, List.getElem_cons_zero]
        rw [if_pos (by rfl)]
        go_simp
        go_at_call 27
        refine (parts_yes V5 PA.out PB.out (by simp) (by simp) (by simp) (by simp) (by simp) (by simp) (by simp)).mono ?_
        rintro e V6 ⟨rfl, k6⟩
        have K6 := Lib.hid (K5.out.trans k6)
        refine hK.out _ _ ⟨Bg.cell_on k6 hHeld.1, Bg.cell_on k6 hHeld.2.1, Bg.cell_on k6 hHeld.2.2.1, Bg.cell_on k6 hHeld.2.2.2.1, Bg.cell_on k6 hHeld.2.2.2.2.1, Bg.cell_on k6 hHeld.2.2.2.2.2.1, Bg.cell_on k6 hHeld.2.2.2.2.2.2⟩ (fun hHeld => ?_)
        clear hK K k6
        refine wpAnyH_take (i := 9) (v := .bool true) rfl (by kernel_rfl) (by decide +kernel) (by decide +kernel) (fun _ _ _ h => h) (Or.inl ⟨by rfl, fun w' hSw => ?_⟩) hHeld ?_
        · (go_simp)
        simp only [Act.put, List.getElem_toArray, List.getElem_cons_succ, List.getElem_cons_zero, List.setIfInBounds_toArray, List.set_cons_zero, List.set_cons_succ]
        refine wpAnyH_take (i := 10) (v := .bool true) rfl (by kernel_rfl) (by decide +kernel) (by decide +kernel) (fun _ _ _ h => h) (Or.inl ⟨by rfl, fun w' hSw => ?_⟩) hHeld ?_
        · (go_simp)
        simp only [Act.put, List.getElem_toArray, List.getElem_cons_succ, List.getElem_cons_zero, List.setIfInBounds_toArray, List.set_cons_zero, List.set_cons_succ]
        refine wpAnyH_ready (rs := [11]) (by decide +kernel) (by simp) (AllReadyH.cons rfl (fun K hK => ?_) AllReadyH.nil)
        simp only [List.getElem_toArray, List.getElem_cons_succ, List.getElem_cons_zero]
        rw [if_pos (by rfl)]
        go_simp
        go_at_call 17
        refine (awake_any _).mono ?_
        rintro e V7 ⟨rfl, k7⟩
        have K7 := Lib.hid (K6.out.trans k7)
        refine hK.out _ _ ⟨Bg.cell_on k7 hHeld.1, Bg.cell_on k7 hHeld.2.1, Bg.cell_on k7 hHeld.2.2.1, Bg.cell_on k7 hHeld.2.2.2.1, Bg.cell_on k7 hHeld.2.2.2.2.1, Bg.cell_on k7 hHeld.2.2.2.2.2.1, Bg.cell_on k7 hHeld.2.2.2.2.2.2⟩ (fun hHeld => ?_)
        clear hK K k7
        refine wpAnyH_take (i := 12) (v := .bool true) rfl (by kernel_rfl) (by decide +kernel) (by decide +kernel) (fun _ _ _ h => h) (Or.inl ⟨by rfl, fun w' hSw => ?_⟩) hHeld ?_
        · (go_simp)
        simp only [Act.put, List.getElem_toArray, List.getElem_cons_succ, List.getElem_cons_zero, List.setIfInBounds_toArray, List.set_cons_zero, List.set_cons_succ]
        refine wpAnyH_take (i := 13) (v := .bool true) rfl (by kernel_rfl) (by decide +kernel) (by decide +kernel) (fun _ _ _ h => h) (Or.inl ⟨by rfl, fun w' hSw => ?_⟩) hHeld ?_
        · (go_simp)
        simp only [Act.put, List.getElem_toArray, List.getElem_cons_succ, List.getElem_cons_zero, List.setIfInBounds_toArray, List.set_cons_zero, List.set_cons_succ]
        refine wpAnyH_done (by decide +kernel) ?_ _
        go_wp2_with fail
        go_ret
        exact ⟨rfl, M3.out.ff.kept.trans K7.out⟩
      · have MA := Lib.hid (M.out.more (G := FR AL nL) kl (fun b hb => by have lt := liv_lt RL hb; obtain ⟨_, ad, e1, rfl⟩ := hb; exact .inr ⟨NL.2 ad e1, lt⟩))
        have RA := Lib.hid RL
        have hn0 : ¬ (nL : Int) = 0 := by omega
        have HX := Lib.hid (show ∀ (j : Nat), i < len2 → ∃ g o, a2 = some ⟨g, o, none⟩ ∧ X1.cell? ⟨g, o + i, none⟩ = some (.int .u8 (z2 i)) from fun _ hi2 => by
          obtain ⟨g, o, e1, hg, hc⟩ := (HS2.out.old (M.out.ff.kept.trans kl)).lies (by omega)
          have x0 := hc i 0 hi2 (by omega)
          simp only [Nat.mul_one, Nat.add_zero] at x0
          exact ⟨g, o, e1, x0⟩)
        clear RL NL kl M
        by_cases c2 : i < len2
        · have c2' : (i : Int) < (len2 : Int) := by omega
          have i0 : ¬ (i : Int) < 0 := by omega
          obtain ⟨g, o, rfl, z0⟩ := HX.out 0 c2
          obtain ⟨q0, q1⟩ := hz2.out i c2
          obtain ⟨b, hb, hb5⟩ : ∃ b : Nat, z2 i = (b : Int) ∧ b ≤ 255 := ⟨(z2 i).toNat, by omega, by omega⟩
          rw [hb] at z0
          clear HX q0 q1 hb
          obtain ⟨q, hq, hqn⟩ : ∃ q : Nat, b % nL = q ∧ q < nL := ⟨_, rfl, Nat.mod_lt _ (by omega)⟩
          have hq2 : (b : Int) % (nL : Int) = (q : Int) := by omega
          obtain ⟨g3, o3, x, rfl, hg3, hx, _, y0, _, _⟩ := RA.out.get hqn
          obtain ⟨hh, _⟩ := SV.out.val.found hx rfl
          have FV := Lib.hid (SV.out.freeR x.a)
          rw [freeR_yes hh] at FV
          have F1 := sfree_any x.a MA.out SV.out
          rw [freeR_yes hh] at F1
          have dl := del_len hh
          have dg := del_gone SV.out.val hh
          have hqn2 : (q : Int) < (nL : Int) := by omega
          have F1 := Lib.hid F1
          have dg := Lib.hid dg
          clear hx hh
          go_wp2_with fail
          refine F1.out.mono ?_
          rintro e X2 ⟨rfl, ⟨pl2, m2, _⟩, f2⟩
          have RB := liv_fr RA.out f2 (fun b _ hb z => z hb)
          obtain ⟨g4, o4, x4, e4, _, hx4, _, y4, _, _⟩ := RB.get hqn
          injection e4 with e4
          injection e4 with e5 e6
          subst e5
          subst e6
          obtain ⟨g6, o6, x6, e7, _, hx6, _, y6, _, _⟩ := RA.out.get hqn
          injection e7 with e7
          injection e7 with e8 e9
          subst e8
          subst e9
          have xe : x4.a = x.a := by rw [hx6] at hx4; injection hx4 with hx4; rw [← hx4]; rw [y0] at y6; injection y6 with y6; injection y6 with _ y6; exact y6.symm
          rw [xe] at y4
          have F2 := sfree_any x.a m2 FV.out
          rw [freeR_no dg.out] at F2
          have F2 := Lib.hid F2
          clear y0 y6 hx4 hx6 xe RB m2 f2 F1
          go_wp2_with fail
          refine F2.out.mono ?_
          rintro e X3 ⟨rfl, ⟨pl3, m3, _⟩, f3⟩
          have M3 := Lib.hid (m3.less (F := NoB) (fun _ h => h.elim))
          clear m3 f3 F2 y4
          go_wp2_with fail
          exact ⟨⟨i + 1, _, _, _, by omega, by go_num, by first | omega | (simp only; omega), M3, FV⟩, by simp [intOf] <;> omega⟩
        · have c2' : ¬ (i : Int) < (len2 : Int) := by omega
          clear HX
          have hqn : 0 < nL := by omega
          obtain ⟨g3, o3, x, rfl, hg3, hx, _, y0, _, _⟩ := RA.out.get hqn
          simp only [Nat.zero_mul, Nat.add_zero] at y0
          obtain ⟨hh, _⟩ := SV.out.val.found hx rfl
          have FV := Lib.hid (SV.out.freeR x.a)
          rw [freeR_yes hh] at FV
          have F1 := sfree_any x.a MA.out SV.out
          rw [freeR_yes hh] at F1
          have dl := del_len hh
          have dg := del_gone SV.out.val hh
          have hqn2 : (0 : Int) < (nL : Int) := by omega
          have F1 := Lib.hid F1
          have dg := Lib.hid dg
          clear hx hh
          go_wp2_with fail
          refine F1.out.mono ?_
          rintro e X2 ⟨rfl, ⟨pl2, m2, _⟩, f2⟩
          have RB := liv_fr RA.out f2 (fun b _ hb z => z hb)
          obtain ⟨g4, o4, x4, e4, _, hx4, _, y4, _, _⟩ := RB.get hqn
          simp only [Nat.zero_mul, Nat.add_zero] at y4
          injection e4 with e4
          injection e4 with e5 e6
          subst e5
          subst e6
          obtain ⟨g6, o6, x6, e7, _, hx6, _, y6, _, _⟩ := RA.out.get hqn
          simp only [Nat.zero_mul, Nat.add_zero] at y6
          injection e7 with e7
          injection e7 with e8 e9
          subst e8
          subst e9
          have xe : x4.a = x.a := by rw [hx6] at hx4; injection hx4 with hx4; rw [← hx4]; rw [y0] at y6; injection y6 with y6; injection y6 with _ y6; exact y6.symm
          rw [xe] at y4
          have F2 := sfree_any x.a m2 FV.out
          rw [freeR_no dg.out] at F2
          have F2 := Lib.hid F2
          clear y0 y6 hx4 hx6 xe RB m2 f2 F1
          go_wp2_with fail
          refine F2.out.mono ?_
          rintro e X3 ⟨rfl, ⟨pl3, m3, _⟩, f3⟩
          have M3 := Lib.hid (m3.less (F := NoB) (fun _ h => h.elim))
          clear m3 f3 F2 y4
          go_wp2_with fail
          exact ⟨⟨i + 1, _, _, _, by omega, by go_num, by first | omega | (simp only; omega), M3, FV⟩, by simp [intOf] <;> omega⟩
  · obtain rfl : a3 = false := by assumption
    have M1 := M0
    have V1 := V0
    go_loopw [10] (fun s10 wr => ∃ (i : Nat) (k : Sto.K) (live : List Lm.S) (pl : Pl), i ≤ 800 ∧ s10 = .int .i64 (i : Int) ∧ i + live.length ≤ 600 ∧ Hid (StM w wr s P k live NoB pl) ∧ Hid (Sv P k live)) (fun s10 _ => 802 - (intOf s10).toNat)
    case atStart => exact ⟨0, _, _, _, by omega, rfl, by have := V1.out.val.len; omega, M1, V1⟩
    case round =>
      clear M1 V1
      obtain ⟨i, k, live, pl, hi, rfl, hil, M, SV⟩ := hrel
      rename World => V
      have wi : IntKind.i64.wrap ((i : Int) + 1) = (i : Int) + 1 := IntWalk.i64_in _ (by omega)
      have ci : (i : Int) < 800 := by omega
      go_wp2_with fail
      refine (slive_any M.out (by omega)).mono ?_
      rintro e X1 ⟨vl, rfl, AL, nL, cL, rfl, RL, _, NL, kl⟩
      have ln := RL.len
      by_cases n0 : nL = 0
      · subst n0
        obtain rfl : live = [] := List.eq_nil_of_length_eq_zero ln
        have M := Lib.hid (M.out.old kl)
        clear RL NL kl ln
        go_wp2_with fail
        refine (sgc_any false M.out SV.out.inv).mono ?_
        rintro e X2 ⟨rfl, ⟨pl2, m2, _⟩, f2⟩
        have M2 := Lib.hid m2
        have V2 := Lib.hid (SV.out.gc false)
        clear m2 f2 M
        have zm : IntKind.i64.wrap ((P : Int) * 64) = (P : Int) * 64 := IntWalk.i64_in _ (by omega)
        have zP : IntKind.i64.wrap (P : Int) = (P : Int) := IntWalk.i64_in _ (by omega)
        have KA : Kept Old X2 ((X2.alloc (.cells #[.int .i64 0, .int .i64 ((P : Int) * 64)] 54)).alloc (.cells #[.slice (some ⟨X2.heap.size, 0, none⟩) 1 1, nilS, nilS, nilS, nilS, nilS, nilS] 44)) := ((Kept.refl Old X2).alloc _).alloc _
        have RW := ((Pc.Rs.one X2 (0, (P : Int) * 64) ⟨by simp only; omega, by simp only; omega⟩ ⟨by simp only; omega, by simp only; omega⟩ _ rfl).old ((Kept.refl Old _).alloc (.cells #[.slice (some ⟨X2.heap.size, 0, none⟩) 1 1, nilS, nilS, nilS, nilS, nilS, nilS] 44)))
        have XB := Blk.new (X2.alloc (.cells #[.int .i64 0, .int .i64 ((P : Int) * 64)] 54)) 44 [.slice (some ⟨X2.heap.size, 0, none⟩) 1 1, nilS, nilS, nilS, nilS, nilS, nilS]
        rw [show (X2.alloc (.cells #[.int .i64 0, .int .i64 ((P : Int) * 64)] 54)).heap.size = X2.heap.size + 1 by simp] at XB
        have M3 := Lib.hid (M2.out.old KA)
        have RW := Lib.hid RW
        have XB := Lib.hid XB
        clear KA M2
        go_wp2_with fail
        generalize hX3 : (X2.alloc (.cells #[.int .i64 0, .int .i64 ((P : Int) * 64)] 54)).alloc (.cells #[.slice (some ⟨X2.heap.size, 0, none⟩) 1 1, nilS, nilS, nilS, nilS, nilS, nilS] 44) = X3 at *
        clear hX3
        generalize hrb : X2.heap.size = rb at *
        clear hrb
        have x0 := XB.out.cell 0
        have x1 := XB.out.cell 1
        have x2 := XB.out.cell 2
        have x3 := XB.out.cell 3
        have x4 := XB.out.cell 4
        have x5 := XB.out.cell 5
        have x6 := XB.out.cell 6
        simp only [List.getElem?_cons_succ, List.getElem?_cons_zero] at x0 x1 x2 x3 x4 x5 x6
        refine wp_region_held_drew (S := (fun w' => w'.cell? ⟨rb + 1, 0, none⟩ = some (.slice (some ⟨rb, 0, none⟩) 1 1) ∧ w'.cell? ⟨rb + 1, 1, none⟩ = some (.slice none 0 0) ∧ w'.cell? ⟨rb + 1, 2, none⟩ = some (.slice none 0 0) ∧ w'.cell? ⟨rb + 1, 3, none⟩ = some (.slice none 0 0) ∧ w'.cell? ⟨rb + 1, 4, none⟩ = some (.slice none 0 0) ∧ w'.cell? ⟨rb + 1, 5, none⟩ = some (.slice none 0 0) ∧ w'.cell? ⟨rb + 1, 6, none⟩ = some (.slice none 0 0))) (by kernel_rfl) ⟨x0, x1, x2, x3, x4, x5, x6⟩ (fun hHeld => ?_)
        refine wpAnyH_take (i := 0) (v := ptr s) rfl (by kernel_rfl) (by decide +kernel) (by decide +kernel) (fun _ _ _ h => h) (Or.inl ⟨by rfl, fun w' hSw => ?_⟩) hHeld ?_
        · (go_simp)
        simp only [Act.put, List.getElem_toArray, List.getElem_cons_zero, List.setIfInBounds_toArray, List.set_cons_zero, List.set_cons_succ]
        refine wpAnyH_ready (rs := [1]) (by decide +kernel) (by simp) (AllReadyH.cons rfl (fun K hK => ?_) AllReadyH.nil)
        simp only [List.getElem_toArray, List.getElem_cons_succ, List.getElem_cons_zero]
        rw [if_pos (by rfl)]
        go_simp
        go_at_call 24
        refine (slive_any (M3.out.old (Kept.refl Old X3).drew) (by have := V2.out.val.len; omega)).mono ?_
        rintro e V4 ⟨v5, rfl, AL, nL, cL, rfl, RL, _, _, k4⟩
        obtain rfl : nL = 0 := RL.len.symm
        have K4 := Lib.hid (show Kept Old X3 V4 from (Kept.refl Old X3).drew.trans k4)
        refine hK.out _ _ ⟨Bg.cell_on k4 hHeld.1, Bg.cell_on k4 hHeld.2.1, Bg.cell_on k4 hHeld.2.2.1, Bg.cell_on k4 hHeld.2.2.2.1, Bg.cell_on k4 hHeld.2.2.2.2.1, Bg.cell_on k4 hHeld.2.2.2.2.2.1, Bg.cell_on k4 hHeld.2.2.2.2.2.2⟩ (fun hHeld => ?_)
        clear hK K k4 RL
        refine wpAnyH_take (i := 2) (v := .int .i64 0) rfl (by kernel_rfl) (by decide +kernel) (by decide +kernel) (fun _ _ _ h => h) (Or.inl ⟨by rfl, fun w' hSw => ?_⟩) hHeld ?_
        · (go_simp)
        simp only [Act.put, List.getElem_toArray, List.getElem_cons_succ, List.getElem_cons_zero, List.setIfInBounds_toArray, List.set_cons_zero, List.set_cons_succ]
        refine wpAnyH_take (i := 3) (v := .bool true) rfl (by kernel_rfl) (by decide +kernel) (by decide +kernel) (fun _ _ _ h => h) (Or.inl ⟨by rfl, fun w' hSw => ?_⟩) hHeld ?_
        · (go_simp)
        simp only [Act.put, List.getElem_toArray, List.getElem_cons_succ, List.getElem_cons_zero, List.setIfInBounds_toArray, List.set_cons_zero, List.set_cons_succ]
        refine wpAnyH_take (i := 4) (v := .bool true) rfl (by kernel_rfl) (by decide +kernel) (by decide +kernel) (fun _ _ _ h => h) (Or.inl ⟨by rfl, fun w' hSw => ?_⟩) hHeld ?_
        · (go_simp)
        simp only [Act.put, List.getElem_toArray, List.getElem_cons_succ, List.getElem_cons_zero, List.setIfInBounds_toArray, List.set_cons_zero, List.set_cons_succ]
        refine wpAnyH_take (i := 5) (v := ptr s) rfl (by kernel_rfl) (by decide +kernel) (by decide +kernel) (fun _ _ _ h => h) (Or.inl ⟨by rfl, fun w' hSw => ?_⟩) hHeld ?_
        · (go_simp)
        simp only [Act.put, List.getElem_toArray, List.getElem_cons_succ, List.getElem_cons_zero, List.setIfInBounds_toArray, List.set_cons_zero, List.set_cons_succ]
        refine wpAnyH_take (i := 7) (v := .agg #[.slice (some ⟨rb, 0, none⟩) 1 1, nilS, nilS, nilS, nilS, nilS, nilS]) rfl (by kernel_rfl) (by decide +kernel) (by decide +kernel) (fun _ _ _ h => h) (Or.inl ⟨by rfl, fun w' hSw => ?_⟩) hHeld ?_
        · (go_simp)
        simp only [Act.put, List.getElem_toArray, List.getElem_cons_succ, List.getElem_cons_zero, List.setIfInBounds_toArray, List.set_cons_zero, List.set_cons_succ]
        refine wpAnyH_ready (rs := [6]) (by decide +kernel) (by simp) (AllReadyH.cons rfl (fun K hK => ?_) AllReadyH.nil)
        simp only [List.getElem_toArray, List.getElem_cons_succ, List.getElem_cons_zero]
        rw [if_pos (by rfl)]
        go_simp
        go_at_call 22
        refine (sparts_any (M3.out.old K4.out) V2.out).mono ?_
        rintro e V5 ⟨vp, l0, l1, l3, l4, l5, rfl, pa, po, k5⟩
        obtain ⟨rfl, rfl, rfl, rfl, rfl⟩ := quiet_parts V2.out rfl po
        have K5 := Lib.hid (K4.out.trans k5)
        have PA := Lib.hid pa
        have PB := Lib.hid (show PartsAt V5 (.agg #[.slice (some ⟨rb, 0, none⟩) 1 1, nilS, nilS, nilS, nilS, nilS, nilS]) [(0, (P : Int) * 64)] [] [] [] [] [] [] from ⟨_, _, _, _, _, _, _, rfl, ⟨_, _, _, rfl, RW.out.old K5.out, Nat.le_refl _⟩, Reads.nil _, Reads.nil _, Reads.nil _, Reads.nil _, Reads.nil _, Reads.nil _⟩)
        refine hK.out _ _ ⟨Bg.cell_on k5 hHeld.1, Bg.cell_on k5 hHeld.2.1, Bg.cell_on k5 hHeld.2.2.1, Bg.cell_on k5 hHeld.2.2.2.1, Bg.cell_on k5 hHeld.2.2.2.2.1, Bg.cell_on k5 hHeld.2.2.2.2.2.1, Bg.cell_on k5 hHeld.2.2.2.2.2.2⟩ (fun hHeld => ?_)
        clear hK K k5 pa po
        refine wpAnyH_ready (rs := [8]) (by decide +kernel) (by simp) (AllReadyH.cons rfl (fun K hK => ?_) AllReadyH.nil)
        simp only [List.getElem_toArray, List.getElem_cons_succ, List.getElem_cons_zero]
        rw [if_pos (by rfl)]
        go_simp
        go_at_call 27
        refine (parts_yes V5 PA.out PB.out (by simp) (by simp) (by simp) (by simp) (by simp) (by simp) (by simp)).mono ?_
        rintro e V6 ⟨rfl, k6⟩
        have K6 := Lib.hid (K5.out.trans k6)
        refine hK.out _ _ ⟨Bg.cell_on k6 hHeld.1, Bg.cell_on k6 hHeld.2.1, Bg.cell_on k6 hHeld.2.2.1, Bg.cell_on k6 hHeld.2.2.2.1, Bg.cell_on k6 hHeld.2.2.2.2.1, Bg.cell_on k6 hHeld.2.2.2.2.2.1, Bg.cell_on k6 hHeld.2.2.2.2.2.2⟩ (fun hHeld => ?_)
        clear hK K k6
        refine wpAnyH_take (i := 9) (v := .bool true) rfl (by kernel_rfl) (by decide +kernel) (by decide +kernel) (fun _ _ _ h => h) (Or.inl ⟨by rfl, fun w' hSw => ?_⟩) hHeld ?_
        · (go_simp)
        simp only [Act.put, List.getElem_toArray, List.getElem_cons_succ, List.getElem_cons_zero, List.setIfInBounds_toArray, List.set_cons_zero, List.set_cons_succ]
        refine wpAnyH_take (i := 10) (v := .bool true) rfl (by kernel_rfl) (by decide +kernel) (by decide +kernel) (fun _ _ _ h => h) (Or.inl ⟨by rfl, fun w' hSw => ?_⟩) hHeld ?_
        · (go_simp)
        simp only [Act.put, List.getElem_toArray, List.getElem_cons_succ, List.getElem_cons_zero, List.setIfInBounds_toArray, List.set_cons_zero, List.set_cons_succ]
        refine wpAnyH_ready (rs := [11]) (by decide +kernel) (by simp) (AllReadyH.cons rfl (fun K hK => ?_) AllReadyH.nil)
        simp only [List.getElem_toArray, List.getElem_cons_succ, List.getElem_cons_zero]
        rw [if_pos (by rfl)]
        go_simp
        go_at_call 17
        refine (awake_any _).mono ?_
        rintro e V7 ⟨rfl, k7⟩
        have K7 := Lib.hid (K6.out.trans k7)
        refine hK.out _ _ ⟨Bg.cell_on k7 hHeld.1, Bg.cell_on k7 hHeld.2.1, Bg.cell_on k7 hHeld.2.2.1, Bg.cell_on k7 hHeld.2.2.2.1, Bg.cell_on k7 hHeld.2.2.2.2.1, Bg.cell_on k7 hHeld.2.2.2.2.2.1, Bg.cell_on k7 hHeld.2.2.2.2.2.2⟩ (fun hHeld => ?_)
        clear hK K k7
        refine wpAnyH_take (i := 12) (v := .bool true) rfl (by kernel_rfl) (by decide +kernel) (by decide +kernel) (fun _ _ _ h => h) (Or.inl ⟨by rfl, fun w' hSw => ?_⟩) hHeld ?_
        · (go_simp)
        simp only [Act.put, List.getElem_toArray, List.getElem_cons_succ, List.getElem_cons_zero, List.setIfInBounds_toArray, List.set_cons_zero, List.set_cons_succ]
        refine wpAnyH_take (i := 13) (v := .bool true) rfl (by kernel_rfl) (by decide +kernel) (by decide +kernel) (fun _ _ _ h => h) (Or.inl ⟨by rfl, fun w' hSw => ?_⟩) hHeld ?_
        · (go_simp)
        simp only [Act.put, List.getElem_toArray, List.getElem_cons_succ, List.getElem_cons_zero, List.setIfInBounds_toArray, List.set_cons_zero, List.set_cons_succ]
        refine wpAnyH_done (by decide +kernel) ?_ _
        go_wp2_with fail
        go_ret
        exact ⟨rfl, M3.out.ff.kept.trans K7.out⟩
      · have MA := Lib.hid (M.out.more (G := FR AL nL) kl (fun b hb => by have lt := liv_lt RL hb; obtain ⟨_, ad, e1, rfl⟩ := hb; exact .inr ⟨NL.2 ad e1, lt⟩))
        have RA := Lib.hid RL
        have hn0 : ¬ (nL : Int) = 0 := by omega
        have HX := Lib.hid (show ∀ (j : Nat), i < len2 → ∃ g o, a2 = some ⟨g, o, none⟩ ∧ X1.cell? ⟨g, o + i, none⟩ = some (.int .u8 (z2 i)) from fun _ hi2 => by
          obtain ⟨g, o, e1, hg, hc⟩ := (HS2.out.old (M.out.ff.kept.trans kl)).lies (by omega)
          have x0 := hc i 0 hi2 (by omega)
          simp only [Nat.mul_one, Nat.add_zero] at x0
          exact ⟨g, o, e1, x0⟩)
        clear RL NL kl M
        by_cases c2 : i < len2
        · have c2' : (i : Int) < (len2 : Int) := by omega
          have i0 : ¬ (i : Int) < 0 := by omega
          obtain ⟨g, o, rfl, z0⟩ := HX.out 0 c2
          obtain ⟨q0, q1⟩ := hz2.out i c2
          obtain ⟨b, hb, hb5⟩ : ∃ b : Nat, z2 i = (b : Int) ∧ b ≤ 255 := ⟨(z2 i).toNat, by omega, by omega⟩
          rw [hb] at z0
          clear HX q0 q1 hb
          obtain ⟨q, hq, hqn⟩ : ∃ q : Nat, b % nL = q ∧ q < nL := ⟨_, rfl, Nat.mod_lt _ (by omega)⟩
          have hq2 : (b : Int) % (nL : Int) = (q : Int) := by omega
          obtain ⟨g3, o3, x, rfl, hg3, hx, _, y0, _, _⟩ := RA.out.get hqn
          obtain ⟨hh, _⟩ := SV.out.val.found hx rfl
          have FV := Lib.hid (SV.out.freeR x.a)
          rw [freeR_yes hh] at FV
          have F1 := sfree_any x.a MA.out SV.out
          rw [freeR_yes hh] at F1
          have dl := del_len hh
          have dg := del_gone SV.out.val hh
          have hqn2 : (q : Int) < (nL : Int) := by omega
          have F1 := Lib.hid F1
          have dg := Lib.hid dg
          clear hx hh
          go_wp2_with fail
          refine F1.out.mono ?_
          rintro e X2 ⟨rfl, ⟨pl2, m2, _⟩, f2⟩
          have RB := liv_fr RA.out f2 (fun b _ hb z => z hb)
          obtain ⟨g4, o4, x4, e4, _, hx4, _, y4, _, _⟩ := RB.get hqn
          injection e4 with e4
          injection e4 with e5 e6
          subst e5
          subst e6
          obtain ⟨g6, o6, x6, e7, _, hx6, _, y6, _, _⟩ := RA.out.get hqn
          injection e7 with e7
          injection e7 with e8 e9
          subst e8
          subst e9
          have xe : x4.a = x.a := by rw [hx6] at hx4; injection hx4 with hx4; rw [← hx4]; rw [y0] at y6; injection y6 with y6; injection y6 with _ y6; exact y6.symm
          rw [xe] at y4
          have F2 := sfree_any x.a m2 FV.out
          rw [freeR_no dg.out] at F2
          have F2 := Lib.hid F2
          clear y0 y6 hx4 hx6 xe RB m2 f2 F1
          go_wp2_with fail
          refine F2.out.mono ?_
          rintro e X3 ⟨rfl, ⟨pl3, m3, _⟩, f3⟩
          have M3 := Lib.hid (m3.less (F := NoB) (fun _ h => h.elim))
          clear m3 f3 F2 y4
          go_wp2_with fail
          exact ⟨⟨i + 1, _, _, _, by omega, by go_num, by first | omega | (simp only; omega), M3, FV⟩, by simp [intOf] <;> omega⟩
        · have c2' : ¬ (i : Int) < (len2 : Int) := by omega
          clear HX
          have hqn : 0 < nL := by omega
          obtain ⟨g3, o3, x, rfl, hg3, hx, _, y0, _, _⟩ := RA.out.get hqn
          simp only [Nat.zero_mul, Nat.add_zero] at y0
          obtain ⟨hh, _⟩ := SV.out.val.found hx rfl
          have FV := Lib.hid (SV.out.freeR x.a)
          rw [freeR_yes hh] at FV
          have F1 := sfree_any x.a MA.out SV.out
          rw [freeR_yes hh] at F1
          have dl := del_len hh
          have dg := del_gone SV.out.val hh
          have hqn2 : (0 : Int) < (nL : Int) := by omega
          have F1 := Lib.hid F1
          have dg := Lib.hid dg
          clear hx hh
          go_wp2_with fail
          refine F1.out.mono ?_
          rintro e X2 ⟨rfl, ⟨pl2, m2, _⟩, f2⟩
          have RB := liv_fr RA.out f2 (fun b _ hb z => z hb)
          obtain ⟨g4, o4, x4, e4, _, hx4, _, y4, _, _⟩ := RB.get hqn
          simp only [Nat.zero_mul, Nat.add_zero] at y4
          injection e4 with e4
          injection e4 with e5 e6
          subst e5
          subst e6
          obtain ⟨g6, o6, x6, e7, _, hx6, _, y6, _, _⟩ := RA.out.get hqn
          simp only [Nat.zero_mul, Nat.add_zero] at y6
          injection e7 with e7
          injection e7 with e8 e9
          subst e8
          subst e9
          have xe : x4.a = x.a := by rw [hx6] at hx4; injection hx4 with hx4; rw [← hx4]; rw [y0] at y6; injection y6 with y6; injection y6 with _ y6; exact y6.symm
          rw [xe] at y4
          have F2 := sfree_any x.a m2 FV.out
          rw [freeR_no dg.out] at F2
          have F2 := Lib.hid F2
          clear y0 y6 hx4 hx6 xe RB m2 f2 F1
          go_wp2_with fail
          refine F2.out.mono ?_
          rintro e X3 ⟨rfl, ⟨pl3, m3, _⟩, f3⟩
          have M3 := Lib.hid (m3.less (F := NoB) (fun _ h => h.elim))
          clear m3 f3 F2 y4
          go_wp2_with fail
          exact ⟨⟨i + 1, _, _, _, by omega, by go_num, by first | omega | (simp only; omega), M3, FV⟩, by simp [intOf] <;> omega⟩

/-- The row's step. -/
theorem lifted (os : Os) (started : os.Started) (H : Type) (enc : TypeId × Value → H) :
    ReturnsInHanded {} Tryz.checked os 6 .any (Rows.storeQuietSpec.pre6 enc Tryz.prog Tryz.f6 Rows.storeQuietRow.domain false) (Rows.storeQuietSpec.post enc Tryz.prog Tryz.f6 false true false false) := by
  refine returnsInHanded_of_change_sized (C := Tryz.checked) own started (by kernel_rfl) Tryz.func6
    (ChangeSpec.witness6 (enc := enc) (C := Tryz.checked) false ⟨#[], #[.int .u8 0, .slice none 0 0, .slice none 0 0, .bool false], []⟩ 8 (by kernel_rfl) (by kernel_rfl) (by kernel_rfl) (by kernel_rfl)) ?_
  intro W base args ds gs before hval0 hW hcnd hsz0 _
  have hsz : (DataW.weightsEach Tryz.prog (Tryz.f6.params.toList ++ Rows.storeQuietSpec.plain.varTypes Tryz.prog) (ds ++ gs)).all (· ≤ reachBytes) = true := hsz0
  have hval : ∀ (j : Nat) t v, Tryz.f6.params[j]? = some t → args[j]? = some v → Value.okWide Tryz.prog W .any base t v := hval0
  have hW' := hW
  obtain ⟨p, q, hA0, hV, rfl, hfz, hnd⟩ := hW
  have hA : DataW.TrodAll enc Tryz.prog W 0 (fun _ => true) true Tryz.f6.params.toList args.toList ds p := hA0
  rw [Tryz.params6] at hA hval hsz
  obtain ⟨v0, vs0, d0, ds0, p0, q0, hargs, rfl, rfl, h0, r0⟩ := trodAll_cons hA
  obtain ⟨v1, vs1, d1, ds1, p1, q1, rfl, rfl, rfl, h1, r1⟩ := trodAll_cons r0
  obtain ⟨v2, vs2, d2, ds2, p2, q2, rfl, rfl, rfl, h2, r2⟩ := trodAll_cons r1
  obtain ⟨v3, vs3, d3, ds3, p3, q3, rfl, rfl, rfl, h3, r3⟩ := trodAll_cons r2
  obtain ⟨rfl, rfl, rfl⟩ := trodAll_nil r3
  obtain rfl : args = #[v0, v1, v2, v3] := by cases args; simp_all
  obtain ⟨rfl, rfl⟩ := trodVars_none hV
  obtain ⟨a0, rfl, rfl, rfl, w0⟩ := open_int Tryz.underlying5 (hval 0 5 v0 rfl rfl) h0
  have k1 := h1
  have lt1 : ∀ x ∈ p1, x.block < W.heap.size := by obtain ⟨m, hm⟩ := k1; exact DataW.trod_lt m _ _ _ hm
  obtain ⟨a1, len1, cap1, rfl⟩ := okWide_slice Tryz.underlying22 (hval 1 22 v1 rfl rfl)
  obtain ⟨z1, w1⟩ := ints_in Tryz.underlying22 Tryz.underlying5 (by kernel_rfl) h1
  have rch1 := slice_reach (j := 1) Tryz.underlying22 (show Tryz.prog.bytesOf 5 = 1 by kernel_rfl) k1 hsz rfl rfl
  have k2 := h2
  have lt2 : ∀ x ∈ p2, x.block < W.heap.size := by obtain ⟨m, hm⟩ := k2; exact DataW.trod_lt m _ _ _ hm
  obtain ⟨a2, len2, cap2, rfl⟩ := okWide_slice Tryz.underlying22 (hval 2 22 v2 rfl rfl)
  obtain ⟨z2, w2⟩ := ints_in Tryz.underlying22 Tryz.underlying5 (by kernel_rfl) h2
  have rch2 := slice_reach (j := 2) Tryz.underlying22 (show Tryz.prog.bytesOf 5 = 1 by kernel_rfl) k2 hsz rfl rfl
  obtain ⟨a3, rfl, rfl, rfl⟩ := open_bool Tryz.underlying4 (hval 3 4 v3 rfl rfl) h3
  clear hA0 hval0
  refine (walk a0 a1 len1 cap1 z1 a2 len2 cap2 z2 a3 W w0 w1 rch1 w2 rch2).mono fun e W' ⟨he, kept⟩ => ?_
  subst he
  have bel : Below W.heap.size W W' := kept.toBelow (Nat.le_refl _) (fun _ x => x.elim)
  exact ⟨_, rfl, _, _, _, [], _, [], hW', trodAll_mk1 (shut_bool Tryz.underlying4 _), (trodAll_cons_mk (shut_int Tryz.underlying5 w0) (trodAll_cons_mk (Below.trod laidOut (by kernel_rfl) (of_decide_eq_true (by kernel_rfl)) k1 bel lt1) (trodAll_cons_mk (Below.trod laidOut (by kernel_rfl) (of_decide_eq_true (by kernel_rfl)) k2 bel lt2) (trodAll_cons_mk (shut_bool Tryz.underlying4 _) trodAll_mk0)))), rfl, bel.frame _, fun h => by cases h⟩

theorem over : Rows.StoreQuietSaid :=
  OpenClaim.holds_of_wide 6 Tryz.f6 rfl rfl rfl rfl rfl rfl rfl ⟨rfl, rfl, rfl, rfl, rfl⟩ rfl rfl rfl rfl rfl (by kernel_rfl) Tryz.func6 (by kernel_rfl)
    (of_decide_eq_true (by kernel_rfl)) (by unfold Func.isWrapper; first | (rw [if_pos (by decide +kernel)]; kernel_rfl) | (rw [if_neg (by decide +kernel)]; exact ⟨rfl, rfl⟩))
    (fun os started H enc _ => lifted os started H enc)

/-- The statement. -/
theorem proved : Rows.StoreQuietSaid := over
#print axioms proved
end Go.Proofs.YtjfkmgicbakmgaaGreat.storeQuiet
