/-
  For every input the law ShopQuiet of rickyard/rickyardlaw15 returns true, and its arguments read afterwards as before. The law's own sentence: When all is freed, by whichever worker, all caches are flushed, and the phase is off, the heap is one run. No further conditions.
-/
import Derived.Test.YtcndilpaijapkaaGreatRows
import Derived.SizedLaws
import Derived.WalkKit
import Derived.ProofKit
import Derived.OpenShut
import Derived.ChangeOld
import Derived.Below
import Derived.Lib.SmallJoins
import Derived.Test.YtcndilpaijapkaaGreatJBase
import Derived.Test.YtcndilpaijapkaaGreatJModelNew
import Derived.Test.YtcndilpaijapkaaGreatJShpD
import Derived.Test.YtcndilpaijapkaaGreatJShpH
import Derived.Test.YtcndilpaijapkaaGreatJShpPtA
namespace Go.Proofs.YtcndilpaijapkaaGreat.shopQuiet
open Go.ChangeShapes Go.WideShapes Go.ChangeAt Go.RowKit
set_option linter.unusedVariables false
set_option maxRecDepth 100000

theorem own : ownKnob Tryz.prog.godebug = none := by kernel_rfl
theorem laidOut : laidOutB Tryz.prog = true := by kernel_rfl
open Sto
open Shp
theorem del_gone {Z : Int} {live : List Lm.S} {a : Int} (v : Lm.Valid Z live) (h : Lm.hasB live a = true) : Lm.hasB (Lm.delL live a) a = false := by
  cases e : Lm.hasB (Lm.delL live a) a with
  | false => rfl
  | true =>
    exfalso
    obtain ⟨y, hy, ya, _⟩ := Lm.has_at e
    obtain ⟨j, ne, hj⟩ := mem_cut.1 (List.mem_of_getElem? hy)
    obtain ⟨x, hx, xa, _⟩ := Lm.has_at h
    rcases Nat.lt_or_gt_of_ne ne with q | q
    · have := v.lt hj hx q; omega
    · have := v.lt hx hj q; omega
theorem del_len {live : List Lm.S} {a : Int} (h : Lm.hasB live a = true) : (Lm.delL live a).length + 1 = live.length := by
  obtain ⟨x, hx, xa, hl⟩ := Lm.has_at h
  unfold Lm.delL
  rw [List.length_append, List.length_take, List.length_drop]
  omega
theorem freeW_yes {P nw : Nat} {k : Sto.K} {ca : Ca} {live : List Lm.S} {a : Int} (_ : Sq P nw k ca live) (h : Lm.hasB live a = true) (w : Nat) : ∃ rk rc, freeW k ca live w a = (rk, rc, Lm.delL live a, 0) := by unfold freeW; rw [if_pos h]; exact ⟨_, _, rfl⟩
theorem liv_lt {W : World} {A : Option Addr} {n : Nat} {l : List Lm.S} (h : Lm.RsS W A n l) {b : Nat} (hb : FR A n b) : b < W.heap.size := by
  obtain ⟨hn, ad, e, rfl⟩ := hb
  obtain ⟨g, o, rfl, hg, _⟩ := h.lies hn
  injection e with e
  subst e
  exact hg
theorem liv_fr {D : Nat → Prop} {W W' : World} {A : Option Addr} {n : Nat} {l : List Lm.S} (h : Lm.RsS W A n l) (k : Kept D W W') (hd : ∀ b, b < W.heap.size → FR A n b → ¬ D b) : Lm.RsS W' A n l := by
  by_cases hn : 0 < n
  · exact h.kept k (fun ad e => hd ad.block (liv_lt h ⟨hn, ad, e, rfl⟩) ⟨hn, ad, e, rfl⟩)
  · obtain rfl : n = 0 := by omega
    obtain rfl : l = [] := List.eq_nil_of_length_eq_zero h.len
    exact Lm.RsS.nil _ _
theorem quiet_parts {P nw : Nat} {k : Sto.K} {l0 l1 l2 l3 l4 l5 : List Pc} (v : Sq P nw k (fun _ _ => []) []) (on : k.on = false) (po : PartsOf nw k (fun _ _ => []) [] l0 l1 l2 l3 l4 l5) : l0 = [(0, (P : Int) * 64)] ∧ l1 = [] ∧ l2 = [] ∧ l3 = [] ∧ l4 = [] ∧ l5 = [] := by
  have eo : outs nw (fun _ _ => []) [] = [] := by unfold outs; rw [cache_none]; rfl
  obtain ⟨q1, q2, q3, q4, q5⟩ := v.iq.inv.quiet on (fun a c o => by rw [eo] at o; cases o)
  have p := po.p.perm.length_eq
  have cc := po.c.perm.length_eq
  have b := po.b.perm.length_eq
  have t := po.t.perm.length_eq
  rw [cache_none] at cc
  rw [q3] at b
  rw [q4] at t
  have e : poolP k.p = [] := by unfold poolP poolC; rw [q5 0 (by omega), q5 1 (by omega), q5 2 (by omega), q5 3 (by omega)]; rfl
  rw [e] at p
  refine ⟨by rw [po.r, q1]; unfold runsP; simp, List.eq_nil_of_length_eq_zero p, List.eq_nil_of_length_eq_zero cc, List.eq_nil_of_length_eq_zero b, List.eq_nil_of_length_eq_zero t, by rw [po.v]; rfl⟩

set_option maxHeartbeats 4000000 in
/-- The walk: the Go text returns true, and nothing that was there has turned. -/
theorem walk (a0 : Int) (a1 : Int) (a2 : Option Addr) (len2 cap2 : Nat) (z2 : Nat → Int) (a3 : Option Addr) (len3 cap3 : Nat) (z3 : Nat → Int) (a4 : Bool) (w : World) (w0 : (Lit.int .u8 a0).wf = true) (w1 : (Lit.int .u8 a1).wf = true) (w2 : len2 ≤ cap2 ∧ cap2 ≤ maxLen ∧ (∀ i, i < len2 → (Lit.int .u8 (z2 i)).wf = true) ∧ Sl w a2 1 len2 fun i _ => .int .u8 (z2 i)) (rch2 : cap2 * 1 ≤ 140737488351232 ∧ (a2 = none → len2 = 0 ∧ cap2 = 0)) (w3 : len3 ≤ cap3 ∧ cap3 ≤ maxLen ∧ (∀ i, i < len3 → (Lit.int .u8 (z3 i)).wf = true) ∧ Sl w a3 1 len3 fun i _ => .int .u8 (z3 i)) (rch3 : cap3 * 1 ≤ 140737488351232 ∧ (a3 = none → len3 = 0 ∧ cap3 = 0)) :
    Calls Tryz.prog 6 #[.int .u8 a0, .int .u8 a1, .slice a2 len2 cap2, .slice a3 len3 cap3, .bool a4] w fun e w' => e = .returned (.bool true) ∧ Kept Old w w' := by
  obtain ⟨v0, v1, v2, v3⟩ := w2
  have hl : len2 ≤ 9223372036854775807 := by unfold maxLen at v1; omega
  have hz := Lib.hid (show ∀ i, i < len2 → 0 ≤ z2 i ∧ z2 i ≤ 255 from fun i hi => bounds_u8 (v2 i hi))
  have HS := Lib.hid v3
  obtain ⟨p1, p2⟩ := bounds_u8 w0
  obtain ⟨p3, p4⟩ := bounds_u8 w1
  obtain ⟨u, rfl⟩ : ∃ u : Nat, a0 = (u : Int) := ⟨a0.toNat, by omega⟩
  obtain ⟨x, rfl⟩ : ∃ x : Nat, a1 = (x : Int) := ⟨a1.toNat, by omega⟩
  obtain ⟨P, hP, P1, P2⟩ : ∃ P : Nat, 1 + (u : Int) = (P : Int) ∧ 1 ≤ P ∧ P ≤ 256 := ⟨1 + u, by omega, by omega, by omega⟩
  obtain ⟨nw, hnw, N1, N2⟩ : ∃ nw : Nat, 1 + (x : Int) % 6 = (nw : Int) ∧ 1 ≤ nw ∧ nw ≤ 6 := ⟨1 + x % 6, by omega, by omega, by omega⟩
  obtain ⟨u0, u1, u2, u3⟩ := w3
  have hl3 : len3 ≤ 9223372036854775807 := by unfold maxLen at u1; omega
  have hz3 := Lib.hid (show ∀ i, i < len3 → 0 ≤ z3 i ∧ z3 i ≤ 255 from fun i hi => bounds_u8 (u2 i hi))
  have HS3 := Lib.hid u3
  have PL := Lib.hid (played_any u x P nw (by omega) (by omega) hP hnw a2 len2 cap2 z2 hl hz.out HS.out)
  have nz : ¬ (nw : Int) = 0 := by omega
  have nzn : ¬ nw = 0 := by omega
  clear u0 u1 u2 u3 v0 v1 v2 v3 w0 w1 HS hz
  go_enter Tryz.func6, Tryz.ntmps6
  go_wp2_with fail
  refine PL.out.mono ?_
  rintro e W1 ⟨s, rfl, k0, ca0, live0, pl0, m0, en0, sv0⟩
  have M0 := Lib.hid m0
  have EN0 := Lib.hid en0
  have V0 := Lib.hid sv0
  clear m0 en0 sv0 PL
  go_wp2_with fail
  · refine (sgc_any false M0.out V0.out.iq.inv).mono ?_
    rintro e W2 ⟨rfl, ⟨pl1, m1, e1⟩, f1⟩
    have M1 := Lib.hid m1
    have E1 := Lib.hid (show pl1.nw = nw from e1.nw.trans EN0.out)
    have V1 := Lib.hid (V0.out.gc false)
    clear m1 e1 f1 M0 V0 EN0
    go_wp2_with fail
    go_loopw [13] (fun s13 wr => ∃ (i : Nat) (k : Sto.K) (ca : Ca) (live : List Lm.S) (pl : Shp.Pl), i ≤ 800 ∧ s13 = .int .i64 (i : Int) ∧ i + live.length ≤ 600 ∧ Hid (Shp.StM w wr s P k ca live NoB pl) ∧ Hid (pl.nw = nw) ∧ Hid (Sq P nw k ca live)) (fun s13 _ => 802 - (intOf s13).toNat)
    case atStart => exact ⟨0, _, _, _, _, by omega, rfl, by have := V1.out.val.len; omega, M1, E1, V1⟩
    case round =>
      clear M1 V1 E1
      obtain ⟨i, k, ca, live, pl, hi, rfl, hil, M, EN, SV⟩ := hrel
      rename World => V
      have wi : IntKind.i64.wrap ((i : Int) + 1) = (i : Int) + 1 := IntWalk.i64_in _ (by omega)
      have ci : (i : Int) < 800 := by omega
      go_wp2_with fail
      refine (slive_any M.out (by omega)).mono ?_
      rintro e X1 ⟨vl, rfl, AL, nL, cL, rfl, RL, _, NL, kl⟩
      have ln := RL.len
      by_cases n0 : nL = 0
      · subst n0
        obtain rfl : live = [] := List.eq_nil_of_length_eq_zero ln
        have M := Lib.hid (M.out.old kl)
        have EN := Lib.hid (show (pl.re V.heap.size 97).nw = nw from EN.out)
        generalize pl.re V.heap.size 97 = pl at *
        clear RL NL kl ln
        go_wp2_with fail
        have FR : ∀ w' c', w' < 0 → ca w' c' = [] := fun _ _ h => absurd h (Nat.not_lt_zero _)
        have FR := Lib.hid FR
        go_loopw [16] (fun s16 wr => ∃ (j : Nat) (k : Sto.K) (ca : Ca) (pl : Shp.Pl), j ≤ nw ∧ s16 = .int .i64 (j : Int) ∧ Hid (Shp.StM w wr s P k ca [] NoB pl) ∧ Hid (pl.nw = nw) ∧ Hid (Sq P nw k ca []) ∧ Hid (∀ w' c', w' < j → ca w' c' = [])) (fun s16 _ => nw + 1 - (intOf s16).toNat)
        case atStart => exact ⟨0, _, _, _, Nat.zero_le _, rfl, M, EN, SV, FR⟩
        case round =>
          clear M SV FR EN
          obtain ⟨j, k, ca, pl, hj, rfl, M, EN, SV, FR⟩ := hrel
          rename World => VV
          have wj : IntKind.i64.wrap ((j : Int) + 1) = (j : Int) + 1 := IntWalk.i64_in _ (by omega)
          by_cases cj : j < nw
          · have cj' : (j : Int) < (nw : Int) := by omega
            have FL := sflush_any (w := j) (by have := EN.out; omega) M.out (by rw [EN.out]; exact SV.out)
            obtain ⟨rk, rc, hr⟩ : ∃ rk rc, flushW k ca j = (rk, rc) := ⟨_, _, rfl⟩
            have FV := SV.out.flushW cj
            rw [hr] at FL FV
            have FV := Lib.hid (show Sq P nw rk rc [] from FV)
            have FN := Lib.hid (show ∀ w' c', w' < j + 1 → rc w' c' = [] from fun w' c' h => by
              have e : rc w' c' = if w' = j ∧ c' < 4 then [] else ca w' c' := by
                have := flush_at j k ca 4 w' c'
                have h2 : flushR j 4 k ca = (rk, rc) := hr
                rw [h2] at this
                exact this
              rw [e]
              by_cases q : w' = j ∧ c' < 4
              · rw [if_pos q]
              · rw [if_neg q]
                by_cases q2 : w' < j
                · exact FR.out w' c' q2
                · exact SV.out.non w' c' (.inr (by omega)))
            have FL := Lib.hid FL
            clear hr
            go_wp2_with fail
            refine FL.out.mono ?_
            rintro e V2 ⟨rfl, ⟨pl2, m2, e2⟩, f2⟩
            have M2 := Lib.hid m2
            have E2 := Lib.hid (show pl2.nw = nw from e2.nw.trans EN.out)
            clear m2 e2 f2 FL M
            go_wp2_with fail
            exact ⟨⟨j + 1, rk, rc, pl2, by omega, by go_num, M2, E2, FV, FN⟩, by simp [intOf]; omega⟩
          · have cj' : ¬ (j : Int) < (nw : Int) := by omega
            obtain rfl : ca = fun _ _ => [] := by
              funext w' c'
              by_cases q : w' < nw
              · exact FR.out w' c' (by omega)
              · exact SV.out.non w' c' (.inl (by omega))
            clear FR cj hj wj
            go_wp2_with fail
            refine (sgc_any false M.out SV.out.iq.inv).mono ?_
            rintro e X2 ⟨rfl, ⟨pl2, m2, e2⟩, f2⟩
            have M2 := Lib.hid m2
            have E2 := Lib.hid (show pl2.nw = nw from e2.nw.trans EN.out)
            have V2 := Lib.hid (SV.out.gc false)
            clear m2 e2 f2 M
            have zm : IntKind.i64.wrap ((P : Int) * 64) = (P : Int) * 64 := IntWalk.i64_in _ (by omega)
            have KA : Kept Old X2 ((X2.alloc (.cells #[.int .i64 0, .int .i64 ((P : Int) * 64)] 54)).alloc (.cells #[.slice (some ⟨X2.heap.size, 0, none⟩) 1 1, nilS, nilS, nilS, nilS, nilS, nilS] 44)) := ((Kept.refl Old X2).alloc _).alloc _
            have RW := ((Pc.Rs.one X2 (0, (P : Int) * 64) ⟨by simp only; omega, by simp only; omega⟩ ⟨by simp only; omega, by simp only; omega⟩ _ rfl).old ((Kept.refl Old _).alloc (.cells #[.slice (some ⟨X2.heap.size, 0, none⟩) 1 1, nilS, nilS, nilS, nilS, nilS, nilS] 44)))
            have XB := Blk.new (X2.alloc (.cells #[.int .i64 0, .int .i64 ((P : Int) * 64)] 54)) 44 [.slice (some ⟨X2.heap.size, 0, none⟩) 1 1, nilS, nilS, nilS, nilS, nilS, nilS]
            rw [show (X2.alloc (.cells #[.int .i64 0, .int .i64 ((P : Int) * 64)] 54)).heap.size = X2.heap.size + 1 by simp] at XB
            have M3 := Lib.hid (M2.out.old KA)
            have E3 := Lib.hid (show (pl2.re X2.heap.size 97).nw = nw from E2.out)
            generalize pl2.re X2.heap.size 97 = pl3 at *
            have RW := Lib.hid RW
            have XB := Lib.hid XB
            clear KA M2
            go_wp2_with fail
            generalize hX3 : (X2.alloc (.cells #[.int .i64 0, .int .i64 ((P : Int) * 64)] 54)).alloc (.cells #[.slice (some ⟨X2.heap.size, 0, none⟩) 1 1, nilS, nilS, nilS, nilS, nilS, nilS] 44) = X3 at *
            clear hX3
            generalize hrb : X2.heap.size = rb at *
            clear hrb
            have x0 := XB.out.cell 0
            have x1 := XB.out.cell 1
            have x2 := XB.out.cell 2
            have x3 := XB.out.cell 3
            have x4 := XB.out.cell 4
            have x5 := XB.out.cell 5
            have x6 := XB.out.cell 6
            simp only [List.getElem?_cons_succ, List.getElem?_cons_zero] at x0 x1 x2 x3 x4 x5 x6
            refine wp_region_held_drew (S := (fun w' => w'.cell? ⟨rb + 1, 0, none⟩ = some (.slice (some ⟨rb, 0, none⟩) 1 1) ∧ w'.cell? ⟨rb + 1, 1, none⟩ = some (.slice none 0 0) ∧ w'.cell? ⟨rb + 1, 2, none⟩ = some (.slice none 0 0) ∧ w'.cell? ⟨rb + 1, 3, none⟩ = some (.slice none 0 0) ∧ w'.cell? ⟨rb + 1, 4, none⟩ = some (.slice none 0 0) ∧ w'.cell? ⟨rb + 1, 5, none⟩ = some (.slice none 0 0) ∧ w'.cell? ⟨rb + 1, 6, none⟩ = some (.slice none 0 0))) (by kernel_rfl) ⟨x0, x1, x2, x3, x4, x5, x6⟩ (fun hHeld => ?_)
            refine wpAnyH_take (i := 0) (v := ptr s) rfl (by kernel_rfl) (by decide +kernel) (by decide +kernel) (fun _ _ _ h => h) (Or.inl ⟨by rfl, fun w' hSw => ?_⟩) hHeld ?_
            · (go_simp)
            simp only [Act.put, List.getElem_toArray, List.getElem_cons_zero, List.setIfInBounds_toArray, List.set_cons_zero, List.set_cons_succ]
            refine wpAnyH_ready (rs := [1]) (by decide +kernel) (by simp) (AllReadyH.cons rfl (fun K hK => ?_) AllReadyH.nil)
            simp only [List.getElem_toArray, List.getElem_cons_succ, List.getElem_cons_zero]
            rw [if_pos (by rfl)]
            go_simp
            go_at_call 27
            refine (slive_any (M3.out.old (Kept.refl Old X3).drew) (by have := V2.out.val.len; omega)).mono ?_
            rintro e V4 ⟨v5, rfl, AL, nL, cL, rfl, RL, _, _, k4⟩
            obtain rfl : nL = 0 := RL.len.symm
            have K4 := Lib.hid (show Kept Old X3 V4 from (Kept.refl Old X3).drew.trans k4)
            refine hK.out _ _ ⟨Bg.cell_on k4 hHeld.1, Bg.cell_on k4 hHeld.2.1, Bg.cell_on k4 hHeld.2.2.1, Bg.cell_on k4 hHeld.2.2.2.1, Bg.cell_on k4 hHeld.2.2.2.2.1, Bg.cell_on k4 hHeld.2.2.2.2.2.1, Bg.cell_on k4 hHeld.2.2.2.2.2.2⟩ (fun hHeld => ?_)
            clear hK K k4 RL
            refine wpAnyH_take (i := 2) (v := .int .i64 0) rfl (by kernel_rfl) (by decide +kernel) (by decide +kernel) (fun _ _ _ h => h) (Or.inl ⟨by rfl, fun w' hSw => ?_⟩) hHeld ?_
            · (go_simp)
            simp only [Act.put, List.getElem_toArray, List.getElem_cons_succ, List.getElem_cons_zero, List.setIfInBounds_toArray, List.set_cons_zero, List.set_cons_succ]
            refine wpAnyH_take (i := 3) (v := .bool true) rfl (by kernel_rfl) (by decide +kernel) (by decide +kernel) (fun _ _ _ h => h) (Or.inl ⟨by rfl, fun w' hSw => ?_⟩) hHeld ?_
            · (go_simp)
            simp only [Act.put, List.getElem_toArray, List.getElem_cons_succ, List.getElem_cons_zero, List.setIfInBounds_toArray, List.set_cons_zero, List.set_cons_succ]
            refine wpAnyH_take (i := 4) (v := .bool true) rfl (by kernel_rfl) (by decide +kernel) (by decide +kernel) (fun _ _ _ h => h) (Or.inl ⟨by rfl, fun w' hSw => ?_⟩) hHeld ?_
            · (go_simp)
            simp only [Act.put, List.getElem_toArray, List.getElem_cons_succ, List.getElem_cons_zero, List.setIfInBounds_toArray, List.set_cons_zero, List.set_cons_succ]
            refine wpAnyH_take (i := 5) (v := ptr s) rfl (by kernel_rfl) (by decide +kernel) (by decide +kernel) (fun _ _ _ h => h) (Or.inl ⟨by rfl, fun w' hSw => ?_⟩) hHeld ?_
            · (go_simp)
            simp only [Act.put, List.getElem_toArray, List.getElem_cons_succ, List.getElem_cons_zero, List.setIfInBounds_toArray, List.set_cons_zero, List.set_cons_succ]
            refine wpAnyH_take (i := 7) (v := .agg #[.slice (some ⟨rb, 0, none⟩) 1 1, nilS, nilS, nilS, nilS, nilS, nilS]) rfl (by kernel_rfl) (by decide +kernel) (by decide +kernel) (fun _ _ _ h => h) (Or.inl ⟨by rfl, fun w' hSw => ?_⟩) hHeld ?_
            · (go_simp)
            simp only [Act.put, List.getElem_toArray, List.getElem_cons_succ, List.getElem_cons_zero, List.setIfInBounds_toArray, List.set_cons_zero, List.set_cons_succ]
            refine wpAnyH_ready (rs := [6]) (by decide +kernel) (by simp) (AllReadyH.cons rfl (fun K hK => ?_) AllReadyH.nil)
            simp only [List.getElem_toArray, List.getElem_cons_succ, List.getElem_cons_zero]
            rw [if_pos (by rfl)]
            go_simp
            go_at_call 25
            refine (sparts_any (pl := pl3.re X3.heap.size 97) E3.out N2 (M3.out.old K4.out) V2.out).mono ?_
            rintro e V5 ⟨vp, l0, l1, l2, l3, l4, l5, rfl, pa, po, k5⟩
            obtain ⟨rfl, rfl, rfl, rfl, rfl, rfl⟩ := quiet_parts V2.out rfl po
            have K5 := Lib.hid (K4.out.trans k5)
            have PA := Lib.hid pa
            have PB := Lib.hid (show PartsAt V5 (.agg #[.slice (some ⟨rb, 0, none⟩) 1 1, nilS, nilS, nilS, nilS, nilS, nilS]) [(0, (P : Int) * 64)] [] [] [] [] [] [] from ⟨_, _, _, _, _, _, _, rfl, ⟨_, _, _, rfl, RW.out.old K5.out, Nat.le_refl _⟩, Reads.nil _, Reads.nil _, Reads.nil _, Reads.nil _, Reads.nil _, Reads.nil _⟩)
            refine hK.out _ _ ⟨Bg.cell_on k5 hHeld.1, Bg.cell_on k5 hHeld.2.1, Bg.cell_on k5 hHeld.2.2.1, Bg.cell_on k5 hHeld.2.2.2.1, Bg.cell_on k5 hHeld.2.2.2.2.1, Bg.cell_on k5 hHeld.2.2.2.2.2.1, Bg.cell_on k5 hHeld.2.2.2.2.2.2⟩ (fun hHeld => ?_)
            clear hK K k5 pa po
            refine wpAnyH_ready (rs := [8]) (by decide +kernel) (by simp) (AllReadyH.cons rfl (fun K hK => ?_) AllReadyH.nil)
            simp only [List.getElem_toArray, List.getElem_cons_succ, List.getElem_cons_zero]
            rw [if_pos (by rfl)]
            go_simp
            go_at_call 30
            refine (parts_yes V5 PA.out PB.out (by simp) (by simp) (by simp) (by simp) (by simp) (by simp) (by simp)).mono ?_
            rintro e V6 ⟨rfl, k6⟩
            have K6 := Lib.hid (K5.out.trans k6)
            refine hK.out _ _ ⟨Bg.cell_on k6 hHeld.1, Bg.cell_on k6 hHeld.2.1, Bg.cell_on k6 hHeld.2.2.1, Bg.cell_on k6 hHeld.2.2.2.1, Bg.cell_on k6 hHeld.2.2.2.2.1, Bg.cell_on k6 hHeld.2.2.2.2.2.1, Bg.cell_on k6 hHeld.2.2.2.2.2.2⟩ (fun hHeld => ?_)
            clear hK K k6
            refine wpAnyH_take (i := 9) (v := .bool true) rfl (by kernel_rfl) (by decide +kernel) (by decide +kernel) (fun _ _ _ h => h) (Or.inl ⟨by rfl, fun w' hSw => ?_⟩) hHeld ?_
            · (go_simp)
            simp only [Act.put, List.getElem_toArray, List.getElem_cons_succ, List.getElem_cons_zero, List.setIfInBounds_toArray, List.set_cons_zero, List.set_cons_succ]
            refine wpAnyH_take (i := 10) (v := .bool true) rfl (by kernel_rfl) (by decide +kernel) (by decide +kernel) (fun _ _ _ h => h) (Or.inl ⟨by rfl, fun w' hSw => ?_⟩) hHeld ?_
            · (go_simp)
            simp only [Act.put, List.getElem_toArray, List.getElem_cons_succ, List.getElem_cons_zero, List.setIfInBounds_toArray, List.set_cons_zero, List.set_cons_succ]
            refine wpAnyH_ready (rs := [11]) (by decide +kernel) (by simp) (AllReadyH.cons rfl (fun K hK => ?_) AllReadyH.nil)
            simp only [List.getElem_toArray, List.getElem_cons_succ, List.getElem_cons_zero]
            rw [if_pos (by rfl)]
            go_simp
            go_at_call 17
            refine (awake_any _).mono ?_
            rintro e V7 ⟨rfl, k7⟩
            have K7 := Lib.hid (K6.out.trans k7)
            refine hK.out _ _ ⟨Bg.cell_on k7 hHeld.1, Bg.cell_on k7 hHeld.2.1, Bg.cell_on k7 hHeld.2.2.1, Bg.cell_on k7 hHeld.2.2.2.1, Bg.cell_on k7 hHeld.2.2.2.2.1, Bg.cell_on k7 hHeld.2.2.2.2.2.1, Bg.cell_on k7 hHeld.2.2.2.2.2.2⟩ (fun hHeld => ?_)
            clear hK K k7
            refine wpAnyH_take (i := 12) (v := .bool true) rfl (by kernel_rfl) (by decide +kernel) (by decide +kernel) (fun _ _ _ h => h) (Or.inl ⟨by rfl, fun w' hSw => ?_⟩) hHeld ?_
            · (go_simp)
            simp only [Act.put, List.getElem_toArray, List.getElem_cons_succ, List.getElem_cons_zero, List.setIfInBounds_toArray, List.set_cons_zero, List.set_cons_succ]
            refine wpAnyH_take (i := 13) (v := .bool true) rfl (by kernel_rfl) (by decide +kernel) (by decide +kernel) (fun _ _ _ h => h) (Or.inl ⟨by rfl, fun w' hSw => ?_⟩) hHeld ?_
            · (go_simp)
            simp only [Act.put, List.getElem_toArray, List.getElem_cons_succ, List.getElem_cons_zero, List.setIfInBounds_toArray, List.set_cons_zero, List.set_cons_succ]
            refine wpAnyH_done (by decide +kernel) ?_ _
            go_wp2_with fail
            go_ret
            exact ⟨rfl, M3.out.ff.kept.trans K7.out⟩
      · have MA := Lib.hid (M.out.more (G := FR AL nL) kl (fun b hb => by have lt := liv_lt RL hb; obtain ⟨_, ad, e1, rfl⟩ := hb; exact .inr ⟨NL.2 ad e1, lt⟩))
        have RA := Lib.hid RL
        have hn0 : ¬ (nL : Int) = 0 := by omega
        have HX := Lib.hid (show ∀ (j : Nat), i < len3 → ∃ g o, a3 = some ⟨g, o, none⟩ ∧ X1.cell? ⟨g, o + i, none⟩ = some (.int .u8 (z3 i)) from fun _ hi2 => by
          obtain ⟨g, o, e1, hg, hc⟩ := (HS3.out.old (M.out.ff.kept.trans kl)).lies (by omega)
          have x0 := hc i 0 hi2 (by omega)
          simp only [Nat.mul_one, Nat.add_zero] at x0
          exact ⟨g, o, e1, x0⟩)
        clear RL NL kl M
        by_cases c2 : i < len3
        · have c2' : (i : Int) < (len3 : Int) := by omega
          have i0 : ¬ (i : Int) < 0 := by omega
          obtain ⟨g, o, rfl, z0⟩ := HX.out 0 c2
          obtain ⟨q0, q1⟩ := hz3.out i c2
          obtain ⟨b, hb, hb5⟩ : ∃ b : Nat, z3 i = (b : Int) ∧ b ≤ 255 := ⟨(z3 i).toNat, by omega, by omega⟩
          rw [hb] at z0
          clear HX q0 q1 hb
          obtain ⟨q, hq, hqn⟩ : ∃ q : Nat, b % nL = q ∧ q < nL := ⟨_, rfl, Nat.mod_lt _ (by omega)⟩
          have hq2 : (b : Int) % (nL : Int) = (q : Int) := by omega
          obtain ⟨t, ht, htl⟩ : ∃ t : Nat, b % nw = t ∧ t < nw := ⟨_, rfl, Nat.mod_lt _ (by omega)⟩
          have ht2 : (b : Int) % (nw : Int) = (t : Int) := by omega
          have ht3 : Int.tmod (b : Int) (nw : Int) = (t : Int) := by rw [Int.tmod_eq_emod_of_nonneg (by omega)]; exact ht2
          have hq3 : Int.tmod (b : Int) (nL : Int) = (q : Int) := by rw [Int.tmod_eq_emod_of_nonneg (by omega)]; exact hq2
          obtain ⟨g3, o3, xx, rfl, hg3, hx, _, y0, _, _⟩ := RA.out.get hqn
          obtain ⟨hh, _⟩ := SV.out.val.found hx rfl
          obtain ⟨rk, rc, hfr⟩ := freeW_yes SV.out hh t
          have FV := SV.out.freeW (w := t) (by omega) xx.a
          rw [hfr] at FV
          have FV := Lib.hid FV
          have F1 := Lib.hid (fun X (q : Kept Old X1 X) => (show Calls Tryz.prog 21 #[ptr s, .int .i64 (t : Int), .int .i64 xx.a] X _ from by have h := sfree_any (w := t) (pl := (pl.re V.heap.size 98).re X1.heap.size 97) (by have := EN.out; show t < pl.nw; omega) xx.a (MA.out.old q) (by show Sq P pl.nw k ca live; rw [EN.out]; exact SV.out); unfold FreePost at h; rw [hfr] at h; exact h))
          have dl := del_len hh
          have hqn2 : (q : Int) < (nL : Int) := by omega
          clear hx hh hfr
          go_wp2_with fail
          refine wp_region_held_drew (S := (fun w' => w'.cell? ⟨g3, o3 + q * 3, none⟩ = some (.int .i64 xx.a))) (by kernel_rfl) y0 (fun hHeld => ?_)
          refine wpAnyH_take (i := 0) (v := ptr s) rfl (by kernel_rfl) (by decide +kernel) (by decide +kernel) (fun _ _ _ h => h) (Or.inl ⟨by rfl, fun w' hSw => ?_⟩) hHeld ?_
          · (go_simp)
          simp only [Act.put, List.getElem_toArray, List.getElem_cons_zero, List.setIfInBounds_toArray, List.set_cons_zero, List.set_cons_succ]
          refine wpAnyH_take (i := 1) (v := .int .i64 (b : Int)) rfl (by kernel_rfl) (by decide +kernel) (by decide +kernel) (fun _ _ _ h => h) (Or.inl ⟨by rfl, fun w' hSw => ?_⟩) hHeld ?_
          · (go_simp)
          simp only [Act.put, List.getElem_toArray, List.getElem_cons_succ, List.getElem_cons_zero, List.setIfInBounds_toArray, List.set_cons_zero, List.set_cons_succ]
          refine wpAnyH_take (i := 2) (v := .int .i64 (nw : Int)) rfl (by kernel_rfl) (by decide +kernel) (by decide +kernel) (fun _ _ _ h => h) (Or.inl ⟨by rfl, fun w' hSw => ?_⟩) hHeld ?_
          · (go_simp)
          simp only [Act.put, List.getElem_toArray, List.getElem_cons_succ, List.getElem_cons_zero, List.setIfInBounds_toArray, List.set_cons_zero, List.set_cons_succ]
          refine wpAnyH_take (i := 3) (v := .int .i64 (t : Int)) rfl (by kernel_rfl) (by decide +kernel) (by decide +kernel) (fun _ _ _ h => h) (Or.inl ⟨by rfl, fun w' hSw => ?_⟩) hHeld ?_
          · (go_simp)
          simp only [Act.put, List.getElem_toArray, List.getElem_cons_succ, List.getElem_cons_zero, List.setIfInBounds_toArray, List.set_cons_zero, List.set_cons_succ]
          refine wpAnyH_take (i := 4) (v := .slice (some ⟨g3, o3, none⟩) nL cL) rfl (by kernel_rfl) (by decide +kernel) (by decide +kernel) (fun _ _ _ h => h) (Or.inl ⟨by rfl, fun w' hSw => ?_⟩) hHeld ?_
          · (go_simp)
          simp only [Act.put, List.getElem_toArray, List.getElem_cons_succ, List.getElem_cons_zero, List.setIfInBounds_toArray, List.set_cons_zero, List.set_cons_succ]
          refine wpAnyH_take (i := 5) (v := .int .i64 (b : Int)) rfl (by kernel_rfl) (by decide +kernel) (by decide +kernel) (fun _ _ _ h => h) (Or.inl ⟨by rfl, fun w' hSw => ?_⟩) hHeld ?_
          · (go_simp)
          simp only [Act.put, List.getElem_toArray, List.getElem_cons_succ, List.getElem_cons_zero, List.setIfInBounds_toArray, List.set_cons_zero, List.set_cons_succ]
          refine wpAnyH_take (i := 6) (v := .slice (some ⟨g3, o3, none⟩) nL cL) rfl (by kernel_rfl) (by decide +kernel) (by decide +kernel) (fun _ _ _ h => h) (Or.inl ⟨by rfl, fun w' hSw => ?_⟩) hHeld ?_
          · (go_simp)
          simp only [Act.put, List.getElem_toArray, List.getElem_cons_succ, List.getElem_cons_zero, List.setIfInBounds_toArray, List.set_cons_zero, List.set_cons_succ]
          refine wpAnyH_take (i := 7) (v := .int .i64 (nL : Int)) rfl (by kernel_rfl) (by decide +kernel) (by decide +kernel) (fun _ _ _ h => h) (Or.inl ⟨by rfl, fun w' hSw => ?_⟩) hHeld ?_
          · (go_simp)
          simp only [Act.put, List.getElem_toArray, List.getElem_cons_succ, List.getElem_cons_zero, List.setIfInBounds_toArray, List.set_cons_zero, List.set_cons_succ]
          refine wpAnyH_take (i := 8) (v := .int .i64 (q : Int)) rfl (by kernel_rfl) (by decide +kernel) (by decide +kernel) (fun _ _ _ h => h) (Or.inl ⟨by rfl, fun w' hSw => ?_⟩) hHeld ?_
          · (go_simp)
          simp only [Act.put, List.getElem_toArray, List.getElem_cons_succ, List.getElem_cons_zero, List.setIfInBounds_toArray, List.set_cons_zero, List.set_cons_succ]
          refine wpAnyH_take (i := 9) (v := .pointer (some ⟨g3, o3 + q * 3, none⟩)) rfl (by kernel_rfl) (by decide +kernel) (by decide +kernel) (fun _ _ _ h => h) (Or.inl ⟨by rfl, fun w' hSw => ?_⟩) hHeld ?_
          · (go_simp)
          simp only [Act.put, List.getElem_toArray, List.getElem_cons_succ, List.getElem_cons_zero, List.setIfInBounds_toArray, List.set_cons_zero, List.set_cons_succ]
          refine wpAnyH_take (i := 10) (v := .pointer (some ⟨g3, o3 + q * 3, none⟩)) rfl (by kernel_rfl) (by decide +kernel) (by decide +kernel) (fun _ _ _ h => h) (Or.inl ⟨by rfl, fun w' hSw => ?_⟩) hHeld ?_
          · (go_simp)
          simp only [Act.put, List.getElem_toArray, List.getElem_cons_succ, List.getElem_cons_zero, List.setIfInBounds_toArray, List.set_cons_zero, List.set_cons_succ]
          refine wpAnyH_take (i := 11) (v := .int .i64 xx.a) rfl (by kernel_rfl) (by decide +kernel) (by decide +kernel) (fun _ _ _ h => h) (Or.inl ⟨by rfl, fun w' hSw => ?_⟩) hHeld ?_
          · (go_simp)
          simp only [Act.put, List.getElem_toArray, List.getElem_cons_succ, List.getElem_cons_zero, List.setIfInBounds_toArray, List.set_cons_zero, List.set_cons_succ]
          refine wpAnyH_ready (rs := [12]) (by decide +kernel) (by simp) (AllReadyH.cons rfl (fun K hK => ?_) AllReadyH.nil)
          simp only [List.getElem_toArray, List.getElem_cons_succ, List.getElem_cons_zero]
          rw [if_pos (by rfl)]
          go_simp
          go_at_call 21
          refine (F1.out _ (Kept.refl Old X1).drew).mono ?_
          rintro e X2 ⟨rfl, ⟨pl2, m2, e2⟩, f2⟩
          have M3 := Lib.hid (m2.less (F := NoB) (fun _ h => h.elim))
          have E3 := Lib.hid (show pl2.nw = nw from e2.nw.trans EN.out)
          have RB := liv_fr (RA.out.old (Kept.refl Old X1).drew) f2 (fun b _ hb z => z hb)
          obtain ⟨g4, o4, x4, e4, _, hx4, _, y4, _, _⟩ := RB.get hqn
          injection e4 with e4
          injection e4 with e5 e6
          subst e5
          subst e6
          obtain ⟨g6, o6, x6, e7, _, hx6, _, y6, _, _⟩ := RA.out.get hqn
          injection e7 with e7
          injection e7 with e8 e9
          subst e8
          subst e9
          have xe : x4.a = xx.a := by rw [hx6] at hx4; injection hx4 with hx4; rw [← hx4]; rw [y0] at y6; injection y6 with y6; injection y6 with _ y6; exact y6.symm
          rw [xe] at y4
          refine hK.out _ _ y4 (fun hHeld => ?_)
          clear hK K y0 y6 hx4 hx6 xe RB m2 e2 f2 F1 y4
          refine wpAnyH_take (i := 13) (v := .bool false) rfl (by kernel_rfl) (by decide +kernel) (by decide +kernel) (fun _ _ _ h => h) (Or.inl ⟨by rfl, fun w' hSw => ?_⟩) hHeld ?_
          · (go_simp)
          simp only [Act.put, List.getElem_toArray, List.getElem_cons_succ, List.getElem_cons_zero, List.setIfInBounds_toArray, List.set_cons_zero, List.set_cons_succ]
          refine wpAnyH_done (by decide +kernel) ?_ _
          clear hHeld
          go_wp2_with fail
          exact ⟨⟨i + 1, _, _, _, _, by omega, by go_num, by first | omega | (simp only; omega), M3, E3, FV⟩, by simp [intOf] <;> omega⟩
        · have c2' : ¬ (i : Int) < (len3 : Int) := by omega
          clear HX
          have hqn : 0 < nL := by omega
          obtain ⟨g3, o3, xx, rfl, hg3, hx, _, y0, _, _⟩ := RA.out.get hqn
          simp only [Nat.zero_mul, Nat.add_zero] at y0
          obtain ⟨hh, _⟩ := SV.out.val.found hx rfl
          obtain ⟨rk, rc, hfr⟩ := freeW_yes SV.out hh 0
          have FV := SV.out.freeW (w := 0) (by omega) xx.a
          rw [hfr] at FV
          have FV := Lib.hid FV
          have F1 := Lib.hid (fun X (q : Kept Old X1 X) => (show Calls Tryz.prog 21 #[ptr s, .int .i64 0, .int .i64 xx.a] X _ from by have h := sfree_any (w := 0) (pl := (pl.re V.heap.size 98).re X1.heap.size 97) (by have := EN.out; show 0 < pl.nw; omega) xx.a (MA.out.old q) (by show Sq P pl.nw k ca live; rw [EN.out]; exact SV.out); unfold FreePost at h; rw [hfr] at h; exact h))
          have dl := del_len hh
          have hqn2 : 0 < (nL : Int) := by omega
          clear hx hh hfr
          go_wp2_with fail
          refine wp_region_held_drew (S := (fun w' => w'.cell? ⟨g3, o3, none⟩ = some (.int .i64 xx.a))) (by kernel_rfl) y0 (fun hHeld => ?_)
          refine wpAnyH_take (i := 0) (v := ptr s) rfl (by kernel_rfl) (by decide +kernel) (by decide +kernel) (fun _ _ _ h => h) (Or.inl ⟨by rfl, fun w' hSw => ?_⟩) hHeld ?_
          · (go_simp)
          simp only [Act.put, List.getElem_toArray, List.getElem_cons_zero, List.setIfInBounds_toArray, List.set_cons_zero, List.set_cons_succ]
          refine wpAnyH_take (i := 1) (v := .int .i64 0) rfl (by kernel_rfl) (by decide +kernel) (by decide +kernel) (fun _ _ _ h => h) (Or.inl ⟨by rfl, fun w' hSw => ?_⟩) hHeld ?_
          · (go_simp)
          simp only [Act.put, List.getElem_toArray, List.getElem_cons_succ, List.getElem_cons_zero, List.setIfInBounds_toArray, List.set_cons_zero, List.set_cons_succ]
          refine wpAnyH_take (i := 2) (v := .int .i64 (nw : Int)) rfl (by kernel_rfl) (by decide +kernel) (by decide +kernel) (fun _ _ _ h => h) (Or.inl ⟨by rfl, fun w' hSw => ?_⟩) hHeld ?_
          · (go_simp)
          simp only [Act.put, List.getElem_toArray, List.getElem_cons_succ, List.getElem_cons_zero, List.setIfInBounds_toArray, List.set_cons_zero, List.set_cons_succ]
          refine wpAnyH_take (i := 3) (v := .int .i64 0) rfl (by kernel_rfl) (by decide +kernel) (by decide +kernel) (fun _ _ _ h => h) (Or.inl ⟨by rfl, fun w' hSw => ?_⟩) hHeld ?_
          · (go_simp)
          simp only [Act.put, List.getElem_toArray, List.getElem_cons_succ, List.getElem_cons_zero, List.setIfInBounds_toArray, List.set_cons_zero, List.set_cons_succ]
          refine wpAnyH_take (i := 4) (v := .slice (some ⟨g3, o3, none⟩) nL cL) rfl (by kernel_rfl) (by decide +kernel) (by decide +kernel) (fun _ _ _ h => h) (Or.inl ⟨by rfl, fun w' hSw => ?_⟩) hHeld ?_
          · (go_simp)
          simp only [Act.put, List.getElem_toArray, List.getElem_cons_succ, List.getElem_cons_zero, List.setIfInBounds_toArray, List.set_cons_zero, List.set_cons_succ]
          refine wpAnyH_take (i := 5) (v := .int .i64 0) rfl (by kernel_rfl) (by decide +kernel) (by decide +kernel) (fun _ _ _ h => h) (Or.inl ⟨by rfl, fun w' hSw => ?_⟩) hHeld ?_
          · (go_simp)
          simp only [Act.put, List.getElem_toArray, List.getElem_cons_succ, List.getElem_cons_zero, List.setIfInBounds_toArray, List.set_cons_zero, List.set_cons_succ]
          refine wpAnyH_take (i := 6) (v := .slice (some ⟨g3, o3, none⟩) nL cL) rfl (by kernel_rfl) (by decide +kernel) (by decide +kernel) (fun _ _ _ h => h) (Or.inl ⟨by rfl, fun w' hSw => ?_⟩) hHeld ?_
          · (go_simp)
          simp only [Act.put, List.getElem_toArray, List.getElem_cons_succ, List.getElem_cons_zero, List.setIfInBounds_toArray, List.set_cons_zero, List.set_cons_succ]
          refine wpAnyH_take (i := 7) (v := .int .i64 (nL : Int)) rfl (by kernel_rfl) (by decide +kernel) (by decide +kernel) (fun _ _ _ h => h) (Or.inl ⟨by rfl, fun w' hSw => ?_⟩) hHeld ?_
          · (go_simp)
          simp only [Act.put, List.getElem_toArray, List.getElem_cons_succ, List.getElem_cons_zero, List.setIfInBounds_toArray, List.set_cons_zero, List.set_cons_succ]
          refine wpAnyH_take (i := 8) (v := .int .i64 0) rfl (by kernel_rfl) (by decide +kernel) (by decide +kernel) (fun _ _ _ h => h) (Or.inl ⟨by rfl, fun w' hSw => ?_⟩) hHeld ?_
          · (go_simp)
          simp only [Act.put, List.getElem_toArray, List.getElem_cons_succ, List.getElem_cons_zero, List.setIfInBounds_toArray, List.set_cons_zero, List.set_cons_succ]
          refine wpAnyH_take (i := 9) (v := .pointer (some ⟨g3, o3, none⟩)) rfl (by kernel_rfl) (by decide +kernel) (by decide +kernel) (fun _ _ _ h => h) (Or.inl ⟨by rfl, fun w' hSw => ?_⟩) hHeld ?_
          · (go_simp)
          simp only [Act.put, List.getElem_toArray, List.getElem_cons_succ, List.getElem_cons_zero, List.setIfInBounds_toArray, List.set_cons_zero, List.set_cons_succ]
          refine wpAnyH_take (i := 10) (v := .pointer (some ⟨g3, o3, none⟩)) rfl (by kernel_rfl) (by decide +kernel) (by decide +kernel) (fun _ _ _ h => h) (Or.inl ⟨by rfl, fun w' hSw => ?_⟩) hHeld ?_
          · (go_simp)
          simp only [Act.put, List.getElem_toArray, List.getElem_cons_succ, List.getElem_cons_zero, List.setIfInBounds_toArray, List.set_cons_zero, List.set_cons_succ]
          refine wpAnyH_take (i := 11) (v := .int .i64 xx.a) rfl (by kernel_rfl) (by decide +kernel) (by decide +kernel) (fun _ _ _ h => h) (Or.inl ⟨by rfl, fun w' hSw => ?_⟩) hHeld ?_
          · (go_simp)
          simp only [Act.put, List.getElem_toArray, List.getElem_cons_succ, List.getElem_cons_zero, List.setIfInBounds_toArray, List.set_cons_zero, List.set_cons_succ]
          refine wpAnyH_ready (rs := [12]) (by decide +kernel) (by simp) (AllReadyH.cons rfl (fun K hK => ?_) AllReadyH.nil)
          simp only [List.getElem_toArray, List.getElem_cons_succ, List.getElem_cons_zero]
          rw [if_pos (by rfl)]
          go_simp
          go_at_call 21
          refine (F1.out _ (Kept.refl Old X1).drew).mono ?_
          rintro e X2 ⟨rfl, ⟨pl2, m2, e2⟩, f2⟩
          have M3 := Lib.hid (m2.less (F := NoB) (fun _ h => h.elim))
          have E3 := Lib.hid (show pl2.nw = nw from e2.nw.trans EN.out)
          have RB := liv_fr (RA.out.old (Kept.refl Old X1).drew) f2 (fun b _ hb z => z hb)
          obtain ⟨g4, o4, x4, e4, _, hx4, _, y4, _, _⟩ := RB.get hqn
          simp only [Nat.zero_mul, Nat.add_zero] at y4
          injection e4 with e4
          injection e4 with e5 e6
          subst e5
          subst e6
          obtain ⟨g6, o6, x6, e7, _, hx6, _, y6, _, _⟩ := RA.out.get hqn
          simp only [Nat.zero_mul, Nat.add_zero] at y6
          injection e7 with e7
          injection e7 with e8 e9
          subst e8
          subst e9
          have xe : x4.a = xx.a := by rw [hx6] at hx4; injection hx4 with hx4; rw [← hx4]; rw [y0] at y6; injection y6 with y6; injection y6 with _ y6; exact y6.symm
          rw [xe] at y4
          refine hK.out _ _ y4 (fun hHeld => ?_)
          clear hK K y0 y6 hx4 hx6 xe RB m2 e2 f2 F1 y4
          refine wpAnyH_take (i := 13) (v := .bool false) rfl (by kernel_rfl) (by decide +kernel) (by decide +kernel) (fun _ _ _ h => h) (Or.inl ⟨by rfl, fun w' hSw => ?_⟩) hHeld ?_
          · (go_simp)
          simp only [Act.put, List.getElem_toArray, List.getElem_cons_succ, List.getElem_cons_zero, List.setIfInBounds_toArray, List.set_cons_zero, List.set_cons_succ]
          refine wpAnyH_done (by decide +kernel) ?_ _
          clear hHeld
          go_wp2_with fail
          exact ⟨⟨i + 1, _, _, _, _, by omega, by go_num, by first | omega | (simp only; omega), M3, E3, FV⟩, by simp [intOf] <;> omega⟩
  · obtain rfl : a4 = false := by assumption
    have M1 := M0
    have V1 := V0
    have E1 := EN0
    go_loopw [13] (fun s13 wr => ∃ (i : Nat) (k : Sto.K) (ca : Ca) (live : List Lm.S) (pl : Shp.Pl), i ≤ 800 ∧ s13 = .int .i64 (i : Int) ∧ i + live.length ≤ 600 ∧ Hid (Shp.StM w wr s P k ca live NoB pl) ∧ Hid (pl.nw = nw) ∧ Hid (Sq P nw k ca live)) (fun s13 _ => 802 - (intOf s13).toNat)
    case atStart => exact ⟨0, _, _, _, _, by omega, rfl, by have := V1.out.val.len; omega, M1, E1, V1⟩
    case round =>
      clear M1 V1 E1
      obtain ⟨i, k, ca, live, pl, hi, rfl, hil, M, EN, SV⟩ := hrel
      rename World => V
      have wi : IntKind.i64.wrap ((i : Int) + 1) = (i : Int) + 1 := IntWalk.i64_in _ (by omega)
      have ci : (i : Int) < 800 := by omega
      go_wp2_with fail
      refine (slive_any M.out (by omega)).mono ?_
      rintro e X1 ⟨vl, rfl, AL, nL, cL, rfl, RL, _, NL, kl⟩
      have ln := RL.len
      by_cases n0 : nL = 0
      · subst n0
        obtain rfl : live = [] := List.eq_nil_of_length_eq_zero ln
        have M := Lib.hid (M.out.old kl)
        have EN := Lib.hid (show (pl.re V.heap.size 97).nw = nw from EN.out)
        generalize pl.re V.heap.size 97 = pl at *
        clear RL NL kl ln
        go_wp2_with fail
        have FR : ∀ w' c', w' < 0 → ca w' c' = [] := fun _ _ h => absurd h (Nat.not_lt_zero _)
        have FR := Lib.hid FR
        go_loopw [16] (fun s16 wr => ∃ (j : Nat) (k : Sto.K) (ca : Ca) (pl : Shp.Pl), j ≤ nw ∧ s16 = .int .i64 (j : Int) ∧ Hid (Shp.StM w wr s P k ca [] NoB pl) ∧ Hid (pl.nw = nw) ∧ Hid (Sq P nw k ca []) ∧ Hid (∀ w' c', w' < j → ca w' c' = [])) (fun s16 _ => nw + 1 - (intOf s16).toNat)
        case atStart => exact ⟨0, _, _, _, Nat.zero_le _, rfl, M, EN, SV, FR⟩
        case round =>
          clear M SV FR EN
          obtain ⟨j, k, ca, pl, hj, rfl, M, EN, SV, FR⟩ := hrel
          rename World => VV
          have wj : IntKind.i64.wrap ((j : Int) + 1) = (j : Int) + 1 := IntWalk.i64_in _ (by omega)
          by_cases cj : j < nw
          · have cj' : (j : Int) < (nw : Int) := by omega
            have FL := sflush_any (w := j) (by have := EN.out; omega) M.out (by rw [EN.out]; exact SV.out)
            obtain ⟨rk, rc, hr⟩ : ∃ rk rc, flushW k ca j = (rk, rc) := ⟨_, _, rfl⟩
            have FV := SV.out.flushW cj
            rw [hr] at FL FV
            have FV := Lib.hid (show Sq P nw rk rc [] from FV)
            have FN := Lib.hid (show ∀ w' c', w' < j + 1 → rc w' c' = [] from fun w' c' h => by
              have e : rc w' c' = if w' = j ∧ c' < 4 then [] else ca w' c' := by
                have := flush_at j k ca 4 w' c'
                have h2 : flushR j 4 k ca = (rk, rc) := hr
                rw [h2] at this
                exact this
              rw [e]
              by_cases q : w' = j ∧ c' < 4
              · rw [if_pos q]
              · rw [if_neg q]
                by_cases q2 : w' < j
                · exact FR.out w' c' q2
                · exact SV.out.non w' c' (.inr (by omega)))
            have FL := Lib.hid FL
            clear hr
            go_wp2_with fail
            refine FL.out.mono ?_
            rintro e V2 ⟨rfl, ⟨pl2, m2, e2⟩, f2⟩
            have M2 := Lib.hid m2
            have E2 := Lib.hid (show pl2.nw = nw from e2.nw.trans EN.out)
            clear m2 e2 f2 FL M
            go_wp2_with fail
            exact ⟨⟨j + 1, rk, rc, pl2, by omega, by go_num, M2, E2, FV, FN⟩, by simp [intOf]; omega⟩
          · have cj' : ¬ (j : Int) < (nw : Int) := by omega
            obtain rfl : ca = fun _ _ => [] := by
              funext w' c'
              by_cases q : w' < nw
              · exact FR.out w' c' (by omega)
              · exact SV.out.non w' c' (.inl (by omega))
            clear FR cj hj wj
            go_wp2_with fail
            refine (sgc_any false M.out SV.out.iq.inv).mono ?_
            rintro e X2 ⟨rfl, ⟨pl2, m2, e2⟩, f2⟩
            have M2 := Lib.hid m2
            have E2 := Lib.hid (show pl2.nw = nw from e2.nw.trans EN.out)
            have V2 := Lib.hid (SV.out.gc false)
            clear m2 e2 f2 M
            have zm : IntKind.i64.wrap ((P : Int) * 64) = (P : Int) * 64 := IntWalk.i64_in _ (by omega)
            have KA : Kept Old X2 ((X2.alloc (.cells #[.int .i64 0, .int .i64 ((P : Int) * 64)] 54)).alloc (.cells #[.slice (some ⟨X2.heap.size, 0, none⟩) 1 1, nilS, nilS, nilS, nilS, nilS, nilS] 44)) := ((Kept.refl Old X2).alloc _).alloc _
            have RW := ((Pc.Rs.one X2 (0, (P : Int) * 64) ⟨by simp only; omega, by simp only; omega⟩ ⟨by simp only; omega, by simp only; omega⟩ _ rfl).old ((Kept.refl Old _).alloc (.cells #[.slice (some ⟨X2.heap.size, 0, none⟩) 1 1, nilS, nilS, nilS, nilS, nilS, nilS] 44)))
            have XB := Blk.new (X2.alloc (.cells #[.int .i64 0, .int .i64 ((P : Int) * 64)] 54)) 44 [.slice (some ⟨X2.heap.size, 0, none⟩) 1 1, nilS, nilS, nilS, nilS, nilS, nilS]
            rw [show (X2.alloc (.cells #[.int .i64 0, .int .i64 ((P : Int) * 64)] 54)).heap.size = X2.heap.size + 1 by simp] at XB
            have M3 := Lib.hid (M2.out.old KA)
            have E3 := Lib.hid (show (pl2.re X2.heap.size 97).nw = nw from E2.out)
            generalize pl2.re X2.heap.size 97 = pl3 at *
            have RW := Lib.hid RW
            have XB := Lib.hid XB
            clear KA M2
            go_wp2_with fail
            generalize hX3 : (X2.alloc (.cells #[.int .i64 0, .int .i64 ((P : Int) * 64)] 54)).alloc (.cells #[.slice (some ⟨X2.heap.size, 0, none⟩) 1 1, nilS, nilS, nilS, nilS, nilS, nilS] 44) = X3 at *
            clear hX3
            generalize hrb : X2.heap.size = rb at *
            clear hrb
            have x0 := XB.out.cell 0
            have x1 := XB.out.cell 1
            have x2 := XB.out.cell 2
            have x3 := XB.out.cell 3
            have x4 := XB.out.cell 4
            have x5 := XB.out.cell 5
            have x6 := XB.out.cell 6
            simp only [List.getElem?_cons_succ, List.getElem?_cons_zero] at x0 x1 x2 x3 x4 x5 x6
            refine wp_region_held_drew (S := (fun w' => w'.cell? ⟨rb + 1, 0, none⟩ = some (.slice (some ⟨rb, 0, none⟩) 1 1) ∧ w'.cell? ⟨rb + 1, 1, none⟩ = some (.slice none 0 0) ∧ w'.cell? ⟨rb + 1, 2, none⟩ = some (.slice none 0 0) ∧ w'.cell? ⟨rb + 1, 3, none⟩ = some (.slice none 0 0) ∧ w'.cell? ⟨rb + 1, 4, none⟩ = some (.slice none 0 0) ∧ w'.cell? ⟨rb + 1, 5, none⟩ = some (.slice none 0 0) ∧ w'.cell? ⟨rb + 1, 6, none⟩ = some (.slice none 0 0))) (by kernel_rfl) ⟨x0, x1, x2, x3, x4, x5, x6⟩ (fun hHeld => ?_)
            refine wpAnyH_take (i := 0) (v := ptr s) rfl (by kernel_rfl) (by decide +kernel) (by decide +kernel) (fun _ _ _ h => h) (Or.inl ⟨by rfl, fun w' hSw => ?_⟩) hHeld ?_
            · (go_simp)
            simp only [Act.put, List.getElem_toArray, List.getElem_cons_zero, List.setIfInBounds_toArray, List.set_cons_zero, List.set_cons_succ]
            refine wpAnyH_ready (rs := [1]) (by decide +kernel) (by simp) (AllReadyH.cons rfl (fun K hK => ?_) AllReadyH.nil)
            simp only [List.getElem_toArray, List.getElem_cons_succ, List.getElem_cons_zero]
            rw [if_pos (by rfl)]
            go_simp
            go_at_call 27
            refine (slive_any (M3.out.old (Kept.refl Old X3).drew) (by have := V2.out.val.len; omega)).mono ?_
            rintro e V4 ⟨v5, rfl, AL, nL, cL, rfl, RL, _, _, k4⟩
            obtain rfl : nL = 0 := RL.len.symm
            have K4 := Lib.hid (show Kept Old X3 V4 from (Kept.refl Old X3).drew.trans k4)
            refine hK.out _ _ ⟨Bg.cell_on k4 hHeld.1, Bg.cell_on k4 hHeld.2.1, Bg.cell_on k4 hHeld.2.2.1, Bg.cell_on k4 hHeld.2.2.2.1, Bg.cell_on k4 hHeld.2.2.2.2.1, Bg.cell_on k4 hHeld.2.2.2.2.2.1, Bg.cell_on k4 hHeld.2.2.2.2.2.2⟩ (fun hHeld => ?_)
            clear hK K k4 RL
            refine wpAnyH_take (i := 2) (v := .int .i64 0) rfl (by kernel_rfl) (by decide +kernel) (by decide +kernel) (fun _ _ _ h => h) (Or.inl ⟨by rfl, fun w' hSw => ?_⟩) hHeld ?_
            · (go_simp)
            simp only [Act.put, List.getElem_toArray, List.getElem_cons_succ, List.getElem_cons_zero, List.setIfInBounds_toArray, List.set_cons_zero, List.set_cons_succ]
            refine wpAnyH_take (i := 3) (v := .bool true) rfl (by kernel_rfl) (by decide +kernel) (by decide +kernel) (fun _ _ _ h => h) (Or.inl ⟨by rfl, fun w' hSw => ?_⟩) hHeld ?_
            · (go_simp)
            simp only [Act.put, List.getElem_toArray, List.getElem_cons_succ, List.getElem_cons_zero, List.setIfInBounds_toArray, List.set_cons_zero, List.set_cons_succ]
            refine wpAnyH_take (i := 4) (v := .bool true) rfl (by kernel_rfl) (by decide +kernel) (by decide +kernel) (fun _ _ _ h => h) (Or.inl ⟨by rfl, fun w' hSw => ?_⟩) hHeld ?_
            · (go_simp)
            simp only [Act.put, List.getElem_toArray, List.getElem_cons_succ, List.getElem_cons_zero, List.setIfInBounds_toArray, List.set_cons_zero, List.set_cons_succ]
            refine wpAnyH_take (i := 5) (v := ptr s) rfl (by kernel_rfl) (by decide +kernel) (by decide +kernel) (fun _ _ _ h => h) (Or.inl ⟨by rfl, fun w' hSw => ?_⟩) hHeld ?_
            · (go_simp)
            simp only [Act.put, List.getElem_toArray, List.getElem_cons_succ, List.getElem_cons_zero, List.setIfInBounds_toArray, List.set_cons_zero, List.set_cons_succ]
            refine wpAnyH_take (i := 7) (v := .agg #[.slice (some ⟨rb, 0, none⟩) 1 1, nilS, nilS, nilS, nilS, nilS, nilS]) rfl (by kernel_rfl) (by decide +kernel) (by decide +kernel) (fun _ _ _ h => h) (Or.inl ⟨by rfl, fun w' hSw => ?_⟩) hHeld ?_
            · (go_simp)
            simp only [Act.put, List.getElem_toArray, List.getElem_cons_succ, List.getElem_cons_zero, List.setIfInBounds_toArray, List.set_cons_zero, List.set_cons_succ]
            refine wpAnyH_ready (rs := [6]) (by decide +kernel) (by simp) (AllReadyH.cons rfl (fun K hK => ?_) AllReadyH.nil)
            simp only [List.getElem_toArray, List.getElem_cons_succ, List.getElem_cons_zero]
            rw [if_pos (by rfl)]
            go_simp
            go_at_call 25
            refine (sparts_any (pl := pl3.re X3.heap.size 97) E3.out N2 (M3.out.old K4.out) V2.out).mono ?_
            rintro e V5 ⟨vp, l0, l1, l2, l3, l4, l5, rfl, pa, po, k5⟩
            obtain ⟨rfl, rfl, rfl, rfl, rfl, rfl⟩ := quiet_parts V2.out rfl po
            have K5 := Lib.hid (K4.out.trans k5)
            have PA := Lib.hid pa
            have PB := Lib.hid (show PartsAt V5 (.agg #[.slice (some ⟨rb, 0, none⟩) 1 1, nilS, nilS, nilS, nilS, nilS, nilS]) [(0, (P : Int) * 64)] [] [] [] [] [] [] from ⟨_, _, _, _, _, _, _, rfl, ⟨_, _, _, rfl, RW.out.old K5.out, Nat.le_refl _⟩, Reads.nil _, Reads.nil _, Reads.nil _, Reads.nil _, Reads.nil _, Reads.nil _⟩)
            refine hK.out _ _ ⟨Bg.cell_on k5 hHeld.1, Bg.cell_on k5 hHeld.2.1, Bg.cell_on k5 hHeld.2.2.1, Bg.cell_on k5 hHeld.2.2.2.1, Bg.cell_on k5 hHeld.2.2.2.2.1, Bg.cell_on k5 hHeld.2.2.2.2.2.1, Bg.cell_on k5 hHeld.2.2.2.2.2.2⟩ (fun hHeld => ?_)
            clear hK K k5 pa po
            refine wpAnyH_ready (rs := [8]) (by decide +kernel) (by simp) (AllReadyH.cons rfl (fun K hK => ?_) AllReadyH.nil)
            simp only [List.getElem_toArray, List.getElem_cons_succ, List.getElem_cons_zero]
            rw [if_pos (by rfl)]
            go_simp
            go_at_call 30
            refine (parts_yes V5 PA.out PB.out (by simp) (by simp) (by simp) (by simp) (by simp) (by simp) (by simp)).mono ?_
            rintro e V6 ⟨rfl, k6⟩
            have K6 := Lib.hid (K5.out.trans k6)
            refine hK.out _ _ ⟨Bg.cell_on k6 hHeld.1, Bg.cell_on k6 hHeld.2.1, Bg.cell_on k6 hHeld.2.2.1, Bg.cell_on k6 hHeld.2.2.2.1, Bg.cell_on k6 hHeld.2.2.2.2.1, Bg.cell_on k6 hHeld.2.2.2.2.2.1, Bg.cell_on k6 hHeld.2.2.2.2.2.2⟩ (fun hHeld => ?_)
            clear hK K k6
            refine wpAnyH_take (i := 9) (v := .bool true) rfl (by kernel_rfl) (by decide +kernel) (by decide +kernel) (fun _ _ _ h => h) (Or.inl ⟨by rfl, fun w' hSw => ?_⟩) hHeld ?_
            · (go_simp)
            simp only [Act.put, List.getElem_toArray, List.getElem_cons_succ, List.getElem_cons_zero, List.setIfInBounds_toArray, List.set_cons_zero, List.set_cons_succ]
            refine wpAnyH_take (i := 10) (v := .bool true) rfl (by kernel_rfl) (by decide +kernel) (by decide +kernel) (fun _ _ _ h => h) (Or.inl ⟨by rfl, fun w' hSw => ?_⟩) hHeld ?_
            · (go_simp)
            simp only [Act.put, List.getElem_toArray, List.getElem_cons_succ, List.getElem_cons_zero, List.setIfInBounds_toArray, List.set_cons_zero, List.set_cons_succ]
            refine wpAnyH_ready (rs := [11]) (by decide +kernel) (by simp) (AllReadyH.cons rfl (fun K hK => ?_) AllReadyH.nil)
            simp only [List.getElem_toArray, List.getElem_cons_succ, List.getElem_cons_zero]
            rw [if_pos (by rfl)]
            go_simp
            go_at_call 17
            refine (awake_any _).mono ?_
            rintro e V7 ⟨rfl, k7⟩
            have K7 := Lib.hid (K6.out.trans k7)
            refine hK.out _ _ ⟨Bg.cell_on k7 hHeld.1, Bg.cell_on k7 hHeld.2.1, Bg.cell_on k7 hHeld.2.2.1, Bg.cell_on k7 hHeld.2.2.2.1, Bg.cell_on k7 hHeld.2.2.2.2.1, Bg.cell_on k7 hHeld.2.2.2.2.2.1, Bg.cell_on k7 hHeld.2.2.2.2.2.2⟩ (fun hHeld => ?_)
            clear hK K k7
            refine wpAnyH_take (i := 12) (v := .bool true) rfl (by kernel_rfl) (by decide +kernel) (by decide +kernel) (fun _ _ _ h => h) (Or.inl ⟨by rfl, fun w' hSw => ?_⟩) hHeld ?_
            · (go_simp)
            simp only [Act.put, List.getElem_toArray, List.getElem_cons_succ, List.getElem_cons_zero, List.setIfInBounds_toArray, List.set_cons_zero, List.set_cons_succ]
            refine wpAnyH_take (i := 13) (v := .bool true) rfl (by kernel_rfl) (by decide +kernel) (by decide +kernel) (fun _ _ _ h => h) (Or.inl ⟨by rfl, fun w' hSw => ?_⟩) hHeld ?_
            · (go_simp)
            simp only [Act.put, List.getElem_toArray, List.getElem_cons_succ, List.getElem_cons_zero, List.setIfInBounds_toArray, List.set_cons_zero, List.set_cons_succ]
            refine wpAnyH_done (by decide +kernel) ?_ _
            go_wp2_with fail
            go_ret
            exact ⟨rfl, M3.out.ff.kept.trans K7.out⟩
      · have MA := Lib.hid (M.out.more (G := FR AL nL) kl (fun b hb => by have lt := liv_lt RL hb; obtain ⟨_, ad, e1, rfl⟩ := hb; exact .inr ⟨NL.2 ad e1, lt⟩))
        have RA := Lib.hid RL
        have hn0 : ¬ (nL : Int) = 0 := by omega
        have HX := Lib.hid (show ∀ (j : Nat), i < len3 → ∃ g o, a3 = some ⟨g, o, none⟩ ∧ X1.cell? ⟨g, o + i, none⟩ = some (.int .u8 (z3 i)) from fun _ hi2 => by
          obtain ⟨g, o, e1, hg, hc⟩ := (HS3.out.old (M.out.ff.kept.trans kl)).lies (by omega)
          have x0 := hc i 0 hi2 (by omega)
          simp only [Nat.mul_one, Nat.add_zero] at x0
          exact ⟨g, o, e1, x0⟩)
        clear RL NL kl M
        by_cases c2 : i < len3
        · have c2' : (i : Int) < (len3 : Int) := by omega
          have i0 : ¬ (i : Int) < 0 := by omega
          obtain ⟨g, o, rfl, z0⟩ := HX.out 0 c2
          obtain ⟨q0, q1⟩ := hz3.out i c2
          obtain ⟨b, hb, hb5⟩ : ∃ b : Nat, z3 i = (b : Int) ∧ b ≤ 255 := ⟨(z3 i).toNat, by omega, by omega⟩
          rw [hb] at z0
          clear HX q0 q1 hb
          obtain ⟨q, hq, hqn⟩ : ∃ q : Nat, b % nL = q ∧ q < nL := ⟨_, rfl, Nat.mod_lt _ (by omega)⟩
          have hq2 : (b : Int) % (nL : Int) = (q : Int) := by omega
          obtain ⟨t, ht, htl⟩ : ∃ t : Nat, b % nw = t ∧ t < nw := ⟨_, rfl, Nat.mod_lt _ (by omega)⟩
          have ht2 : (b : Int) % (nw : Int) = (t : Int) := by omega
          have ht3 : Int.tmod (b : Int) (nw : Int) = (t : Int) := by rw [Int.tmod_eq_emod_of_nonneg (by omega)]; exact ht2
          have hq3 : Int.tmod (b : Int) (nL : Int) = (q : Int) := by rw [Int.tmod_eq_emod_of_nonneg (by omega)]; exact hq2
          obtain ⟨g3, o3, xx, rfl, hg3, hx, _, y0, _, _⟩ := RA.out.get hqn
          obtain ⟨hh, _⟩ := SV.out.val.found hx rfl
          obtain ⟨rk, rc, hfr⟩ := freeW_yes SV.out hh t
          have FV := SV.out.freeW (w := t) (by omega) xx.a
          rw [hfr] at FV
          have FV := Lib.hid FV
          have F1 := Lib.hid (fun X (q : Kept Old X1 X) => (show Calls Tryz.prog 21 #[ptr s, .int .i64 (t : Int), .int .i64 xx.a] X _ from by have h := sfree_any (w := t) (pl := (pl.re V.heap.size 98).re X1.heap.size 97) (by have := EN.out; show t < pl.nw; omega) xx.a (MA.out.old q) (by show Sq P pl.nw k ca live; rw [EN.out]; exact SV.out); unfold FreePost at h; rw [hfr] at h; exact h))
          have dl := del_len hh
          have hqn2 : (q : Int) < (nL : Int) := by omega
          clear hx hh hfr
          go_wp2_with fail
          refine wp_region_held_drew (S := (fun w' => w'.cell? ⟨g3, o3 + q * 3, none⟩ = some (.int .i64 xx.a))) (by kernel_rfl) y0 (fun hHeld => ?_)
          refine wpAnyH_take (i := 0) (v := ptr s) rfl (by kernel_rfl) (by decide +kernel) (by decide +kernel) (fun _ _ _ h => h) (Or.inl ⟨by rfl, fun w' hSw => ?_⟩) hHeld ?_
          · (go_simp)
          simp only [Act.put, List.getElem_toArray, List.getElem_cons_zero, List.setIfInBounds_toArray, List.set_cons_zero, List.set_cons_succ]
          refine wpAnyH_take (i := 1) (v := .int .i64 (b : Int)) rfl (by kernel_rfl) (by decide +kernel) (by decide +kernel) (fun _ _ _ h => h) (Or.inl ⟨by rfl, fun w' hSw => ?_⟩) hHeld ?_
          · (go_simp)
          simp only [Act.put, List.getElem_toArray, List.getElem_cons_succ, List.getElem_cons_zero, List.setIfInBounds_toArray, List.set_cons_zero, List.set_cons_succ]
          refine wpAnyH_take (i := 2) (v := .int .i64 (nw : Int)) rfl (by kernel_rfl) (by decide +kernel) (by decide +kernel) (fun _ _ _ h => h) (Or.inl ⟨by rfl, fun w' hSw => ?_⟩) hHeld ?_
          · (go_simp)
          simp only [Act.put, List.getElem_toArray, List.getElem_cons_succ, List.getElem_cons_zero, List.setIfInBounds_toArray, List.set_cons_zero, List.set_cons_succ]
          refine wpAnyH_take (i := 3) (v := .int .i64 (t : Int)) rfl (by kernel_rfl) (by decide +kernel) (by decide +kernel) (fun _ _ _ h => h) (Or.inl ⟨by rfl, fun w' hSw => ?_⟩) hHeld ?_
          · (go_simp)
          simp only [Act.put, List.getElem_toArray, List.getElem_cons_succ, List.getElem_cons_zero, List.setIfInBounds_toArray, List.set_cons_zero, List.set_cons_succ]
          refine wpAnyH_take (i := 4) (v := .slice (some ⟨g3, o3, none⟩) nL cL) rfl (by kernel_rfl) (by decide +kernel) (by decide +kernel) (fun _ _ _ h => h) (Or.inl ⟨by rfl, fun w' hSw => ?_⟩) hHeld ?_
          · (go_simp)
          simp only [Act.put, List.getElem_toArray, List.getElem_cons_succ, List.getElem_cons_zero, List.setIfInBounds_toArray, List.set_cons_zero, List.set_cons_succ]
          refine wpAnyH_take (i := 5) (v := .int .i64 (b : Int)) rfl (by kernel_rfl) (by decide +kernel) (by decide +kernel) (fun _ _ _ h => h) (Or.inl ⟨by rfl, fun w' hSw => ?_⟩) hHeld ?_
          · (go_simp)
          simp only [Act.put, List.getElem_toArray, List.getElem_cons_succ, List.getElem_cons_zero, List.setIfInBounds_toArray, List.set_cons_zero, List.set_cons_succ]
          refine wpAnyH_take (i := 6) (v := .slice (some ⟨g3, o3, none⟩) nL cL) rfl (by kernel_rfl) (by decide +kernel) (by decide +kernel) (fun _ _ _ h => h) (Or.inl ⟨by rfl, fun w' hSw => ?_⟩) hHeld ?_
          · (go_simp)
          simp only [Act.put, List.getElem_toArray, List.getElem_cons_succ, List.getElem_cons_zero, List.setIfInBounds_toArray, List.set_cons_zero, List.set_cons_succ]
          refine wpAnyH_take (i := 7) (v := .int .i64 (nL : Int)) rfl (by kernel_rfl) (by decide +kernel) (by decide +kernel) (fun _ _ _ h => h) (Or.inl ⟨by rfl, fun w' hSw => ?_⟩) hHeld ?_
          · (go_simp)
          simp only [Act.put, List.getElem_toArray, List.getElem_cons_succ, List.getElem_cons_zero, List.setIfInBounds_toArray, List.set_cons_zero, List.set_cons_succ]
          refine wpAnyH_take (i := 8) (v := .int .i64 (q : Int)) rfl (by kernel_rfl) (by decide +kernel) (by decide +kernel) (fun _ _ _ h => h) (Or.inl ⟨by rfl, fun w' hSw => ?_⟩) hHeld ?_
          · (go_simp)
          simp only [Act.put, List.getElem_toArray, List.getElem_cons_succ, List.getElem_cons_zero, List.setIfInBounds_toArray, List.set_cons_zero, List.set_cons_succ]
          refine wpAnyH_take (i := 9) (v := .pointer (some ⟨g3, o3 + q * 3, none⟩)) rfl (by kernel_rfl) (by decide +kernel) (by decide +kernel) (fun _ _ _ h => h) (Or.inl ⟨by rfl, fun w' hSw => ?_⟩) hHeld ?_
          · (go_simp)
          simp only [Act.put, List.getElem_toArray, List.getElem_cons_succ, List.getElem_cons_zero, List.setIfInBounds_toArray, List.set_cons_zero, List.set_cons_succ]
          refine wpAnyH_take (i := 10) (v := .pointer (some ⟨g3, o3 + q * 3, none⟩)) rfl (by kernel_rfl) (by decide +kernel) (by decide +kernel) (fun _ _ _ h => h) (Or.inl ⟨by rfl, fun w' hSw => ?_⟩) hHeld ?_
          · (go_simp)
          simp only [Act.put, List.getElem_toArray, List.getElem_cons_succ, List.getElem_cons_zero, List.setIfInBounds_toArray, List.set_cons_zero, List.set_cons_succ]
          refine wpAnyH_take (i := 11) (v := .int .i64 xx.a) rfl (by kernel_rfl) (by decide +kernel) (by decide +kernel) (fun _ _ _ h => h) (Or.inl ⟨by rfl, fun w' hSw => ?_⟩) hHeld ?_
          · (go_simp)
          simp only [Act.put, List.getElem_toArray, List.getElem_cons_succ, List.getElem_cons_zero, List.setIfInBounds_toArray, List.set_cons_zero, List.set_cons_succ]
          refine wpAnyH_ready (rs := [12]) (by decide +kernel) (by simp) (AllReadyH.cons rfl (fun K hK => ?_) AllReadyH.nil)
          simp only [List.getElem_toArray, List.getElem_cons_succ, List.getElem_cons_zero]
          rw [if_pos (by rfl)]
          go_simp
          go_at_call 21
          refine (F1.out _ (Kept.refl Old X1).drew).mono ?_
          rintro e X2 ⟨rfl, ⟨pl2, m2, e2⟩, f2⟩
          have M3 := Lib.hid (m2.less (F := NoB) (fun _ h => h.elim))
          have E3 := Lib.hid (show pl2.nw = nw from e2.nw.trans EN.out)
          have RB := liv_fr (RA.out.old (Kept.refl Old X1).drew) f2 (fun b _ hb z => z hb)
          obtain ⟨g4, o4, x4, e4, _, hx4, _, y4, _, _⟩ := RB.get hqn
          injection e4 with e4
          injection e4 with e5 e6
          subst e5
          subst e6
          obtain ⟨g6, o6, x6, e7, _, hx6, _, y6, _, _⟩ := RA.out.get hqn
          injection e7 with e7
          injection e7 with e8 e9
          subst e8
          subst e9
          have xe : x4.a = xx.a := by rw [hx6] at hx4; injection hx4 with hx4; rw [← hx4]; rw [y0] at y6; injection y6 with y6; injection y6 with _ y6; exact y6.symm
          rw [xe] at y4
          refine hK.out _ _ y4 (fun hHeld => ?_)
          clear hK K y0 y6 hx4 hx6 xe RB m2 e2 f2 F1 y4
          refine wpAnyH_take (i := 13) (v := .bool false) rfl (by kernel_rfl) (by decide +kernel) (by decide +kernel) (fun _ _ _ h => h) (Or.inl ⟨by rfl, fun w' hSw => ?_⟩) hHeld ?_
          · (go_simp)
          simp only [Act.put, List.getElem_toArray, List.getElem_cons_succ, List.getElem_cons_zero, List.setIfInBounds_toArray, List.set_cons_zero, List.set_cons_succ]
          refine wpAnyH_done (by decide +kernel) ?_ _
          clear hHeld
          go_wp2_with fail
          exact ⟨⟨i + 1, _, _, _, _, by omega, by go_num, by first | omega | (simp only; omega), M3, E3, FV⟩, by simp [intOf] <;> omega⟩
        · have c2' : ¬ (i : Int) < (len3 : Int) := by omega
          clear HX
          have hqn : 0 < nL := by omega
          obtain ⟨g3, o3, xx, rfl, hg3, hx, _, y0, _, _⟩ := RA.out.get hqn
          simp only [Nat.zero_mul, Nat.add_zero] at y0
          obtain ⟨hh, _⟩ := SV.out.val.found hx rfl
          obtain ⟨rk, rc, hfr⟩ := freeW_yes SV.out hh 0
          have FV := SV.out.freeW (w := 0) (by omega) xx.a
          rw [hfr] at FV
          have FV := Lib.hid FV
          have F1 := Lib.hid (fun X (q : Kept Old X1 X) => (show Calls Tryz.prog 21 #[ptr s, .int .i64 0, .int .i64 xx.a] X _ from by have h := sfree_any (w := 0) (pl := (pl.re V.heap.size 98).re X1.heap.size 97) (by have := EN.out; show 0 < pl.nw; omega) xx.a (MA.out.old q) (by show Sq P pl.nw k ca live; rw [EN.out]; exact SV.out); unfold FreePost at h; rw [hfr] at h; exact h))
          have dl := del_len hh
          have hqn2 : 0 < (nL : Int) := by omega
          clear hx hh hfr
          go_wp2_with fail
          refine wp_region_held_drew (S := (fun w' => w'.cell? ⟨g3, o3, none⟩ = some (.int .i64 xx.a))) (by kernel_rfl) y0 (fun hHeld => ?_)
          refine wpAnyH_take (i := 0) (v := ptr s) rfl (by kernel_rfl) (by decide +kernel) (by decide +kernel) (fun _ _ _ h => h) (Or.inl ⟨by rfl, fun w' hSw => ?_⟩) hHeld ?_
          · (go_simp)
          simp only [Act.put, List.getElem_toArray, List.getElem_cons_zero, List.setIfInBounds_toArray, List.set_cons_zero, List.set_cons_succ]
          refine wpAnyH_take (i := 1) (v := .int .i64 0) rfl (by kernel_rfl) (by decide +kernel) (by decide +kernel) (fun _ _ _ h => h) (Or.inl ⟨by rfl, fun w' hSw => ?_⟩) hHeld ?_
          · (go_simp)
          simp only [Act.put, List.getElem_toArray, List.getElem_cons_succ, List.getElem_cons_zero, List.setIfInBounds_toArray, List.set_cons_zero, List.set_cons_succ]
          refine wpAnyH_take (i := 2) (v := .int .i64 (nw : Int)) rfl (by kernel_rfl) (by decide +kernel) (by decide +kernel) (fun _ _ _ h => h) (Or.inl ⟨by rfl, fun w' hSw => ?_⟩) hHeld ?_
          · (go_simp)
          simp only [Act.put, List.getElem_toArray, List.getElem_cons_succ, List.getElem_cons_zero, List.setIfInBounds_toArray, List.set_cons_zero, List.set_cons_succ]
          refine wpAnyH_take (i := 3) (v := .int .i64 0) rfl (by kernel_rfl) (by decide +kernel) (by decide +kernel) (fun _ _ _ h => h) (Or.inl ⟨by rfl, fun w' hSw => ?_⟩) hHeld ?_
          · (go_simp)
          simp only [Act.put, List.getElem_toArray, List.getElem_cons_succ, List.getElem_cons_zero, List.setIfInBounds_toArray, List.set_cons_zero, List.set_cons_succ]
          refine wpAnyH_take (i := 4) (v := .slice (some ⟨g3, o3, none⟩) nL cL) rfl (by kernel_rfl) (by decide +kernel) (by decide +kernel) (fun _ _ _ h => h) (Or.inl ⟨by rfl, fun w' hSw => ?_⟩) hHeld ?_
          · (go_simp)
          simp only [Act.put, List.getElem_toArray, List.getElem_cons_succ, List.getElem_cons_zero, List.setIfInBounds_toArray, List.set_cons_zero, List.set_cons_succ]
          refine wpAnyH_take (i := 5) (v := .int .i64 0) rfl (by kernel_rfl) (by decide +kernel) (by decide +kernel) (fun _ _ _ h => h) (Or.inl ⟨by rfl, fun w' hSw => ?_⟩) hHeld ?_
          · (go_simp)
          simp only [Act.put, List.getElem_toArray, List.getElem_cons_succ, List.getElem_cons_zero, List.setIfInBounds_toArray, List.set_cons_zero, List.set_cons_succ]
          refine wpAnyH_take (i := 6) (v := .slice (some ⟨g3, o3, none⟩) nL cL) rfl (by kernel_rfl) (by decide +kernel) (by decide +kernel) (fun _ _ _ h => h) (Or.inl ⟨by rfl, fun w' hSw => ?_⟩) hHeld ?_
          · (go_simp)
          simp only [Act.put, List.getElem_toArray, List.getElem_cons_succ, List.getElem_cons_zero, List.setIfInBounds_toArray, List.set_cons_zero, List.set_cons_succ]
          refine wpAnyH_take (i := 7) (v := .int .i64 (nL : Int)) rfl (by kernel_rfl) (by decide +kernel) (by decide +kernel) (fun _ _ _ h => h) (Or.inl ⟨by rfl, fun w' hSw => ?_⟩) hHeld ?_
          · (go_simp)
          simp only [Act.put, List.getElem_toArray, List.getElem_cons_succ, List.getElem_cons_zero, List.setIfInBounds_toArray, List.set_cons_zero, List.set_cons_succ]
          refine wpAnyH_take (i := 8) (v := .int .i64 0) rfl (by kernel_rfl) (by decide +kernel) (by decide +kernel) (fun _ _ _ h => h) (Or.inl ⟨by rfl, fun w' hSw => ?_⟩) hHeld ?_
          · (go_simp)
          simp only [Act.put, List.getElem_toArray, List.getElem_cons_succ, List.getElem_cons_zero, List.setIfInBounds_toArray, List.set_cons_zero, List.set_cons_succ]
          refine wpAnyH_take (i := 9) (v := .pointer (some ⟨g3, o3, none⟩)) rfl (by kernel_rfl) (by decide +kernel) (by decide +kernel) (fun _ _ _ h => h) (Or.inl ⟨by rfl, fun w' hSw => ?_⟩) hHeld ?_
          · (go_simp)
          simp only [Act.put, List.getElem_toArray, List.getElem_cons_succ, List.getElem_cons_zero, List.setIfInBounds_toArray, List.set_cons_zero, List.set_cons_succ]
          refine wpAnyH_take (i := 10) (v := .pointer (some ⟨g3, o3, none⟩)) rfl (by kernel_rfl) (by decide +kernel) (by decide +kernel) (fun _ _ _ h => h) (Or.inl ⟨by rfl, fun w' hSw => ?_⟩) hHeld ?_
          · (go_simp)
          simp only [Act.put, List.getElem_toArray, List.getElem_cons_succ, List.getElem_cons_zero, List.setIfInBounds_toArray, List.set_cons_zero, List.set_cons_succ]
          refine wpAnyH_take (i := 11) (v := .int .i64 xx.a) rfl (by kernel_rfl) (by decide +kernel) (by decide +kernel) (fun _ _ _ h => h) (Or.inl ⟨by rfl, fun w' hSw => ?_⟩) hHeld ?_
          · (go_simp)
          simp only [Act.put, List.getElem_toArray, List.getElem_cons_succ, List.getElem_cons_zero, List.setIfInBounds_toArray, List.set_cons_zero, List.set_cons_succ]
          refine wpAnyH_ready (rs := [12]) (by decide +kernel) (by simp) (AllReadyH.cons rfl (fun K hK => ?_) AllReadyH.nil)
          simp only [List.getElem_toArray, List.getElem_cons_succ, List.getElem_cons_zero]
          rw [if_pos (by rfl)]
          go_simp
          go_at_call 21
          refine (F1.out _ (Kept.refl Old X1).drew).mono ?_
          rintro e X2 ⟨rfl, ⟨pl2, m2, e2⟩, f2⟩
          have M3 := Lib.hid (m2.less (F := NoB) (fun _ h => h.elim))
          have E3 := Lib.hid (show pl2.nw = nw from e2.nw.trans EN.out)
          have RB := liv_fr (RA.out.old (Kept.refl Old X1).drew) f2 (fun b _ hb z => z hb)
          obtain ⟨g4, o4, x4, e4, _, hx4, _, y4, _, _⟩ := RB.get hqn
          simp only [Nat.zero_mul, Nat.add_zero] at y4
          injection e4 with e4
          injection e4 with e5 e6
          subst e5
          subst e6
          obtain ⟨g6, o6, x6, e7, _, hx6, _, y6, _, _⟩ := RA.out.get hqn
          simp only [Nat.zero_mul, Nat.add_zero] at y6
          injection e7 with e7
          injection e7 with e8 e9
          subst e8
          subst e9
          have xe : x4.a = xx.a := by rw [hx6] at hx4; injection hx4 with hx4; rw [← hx4]; rw [y0] at y6; injection y6 with y6; injection y6 with _ y6; exact y6.symm
          rw [xe] at y4
          refine hK.out _ _ y4 (fun hHeld => ?_)
          clear hK K y0 y6 hx4 hx6 xe RB m2 e2 f2 F1 y4
          refine wpAnyH_take (i := 13) (v := .bool false) rfl (by kernel_rfl) (by decide +kernel) (by decide +kernel) (fun _ _ _ h => h) (Or.inl ⟨by rfl, fun w' hSw => ?_⟩) hHeld ?_
          · (go_simp)
          simp only [Act.put, List.getElem_toArray, List.getElem_cons_succ, List.getElem_cons_zero, List.setIfInBounds_toArray, List.set_cons_zero, List.set_cons_succ]
          refine wpAnyH_done (by decide +kernel) ?_ _
          clear hHeld
          go_wp2_with fail
          exact ⟨⟨i + 1, _, _, _, _, by omega, by go_num, by first | omega | (simp only; omega), M3, E3, FV⟩, by simp [intOf] <;> omega⟩

/-- The row's step. -/
theorem lifted (os : Os) (started : os.Started) (H : Type) (enc : TypeId × Value → H) :
    ReturnsInHanded {} Tryz.checked os 6 .any (Rows.shopQuietSpec.pre6 enc Tryz.prog Tryz.f6 Rows.shopQuietRow.domain false) (Rows.shopQuietSpec.post enc Tryz.prog Tryz.f6 false true false false) := by
  refine returnsInHanded_of_change_sized (C := Tryz.checked) own started (by kernel_rfl) Tryz.func6
    (ChangeSpec.witness6 (enc := enc) (C := Tryz.checked) false ⟨#[], #[.int .u8 0, .int .u8 0, .slice none 0 0, .slice none 0 0, .bool false], []⟩ 8 (by kernel_rfl) (by kernel_rfl) (by kernel_rfl) (by kernel_rfl)) ?_
  intro W base args ds gs before hval0 hW hcnd hsz0 _
  have hsz : (DataW.weightsEach Tryz.prog (Tryz.f6.params.toList ++ Rows.shopQuietSpec.plain.varTypes Tryz.prog) (ds ++ gs)).all (· ≤ reachBytes) = true := hsz0
  have hval : ∀ (j : Nat) t v, Tryz.f6.params[j]? = some t → args[j]? = some v → Value.okWide Tryz.prog W .any base t v := hval0
  have hW' := hW
  obtain ⟨p, q, hA0, hV, rfl, hfz, hnd⟩ := hW
  have hA : DataW.TrodAll enc Tryz.prog W 0 (fun _ => true) true Tryz.f6.params.toList args.toList ds p := hA0
  rw [Tryz.params6] at hA hval hsz
  obtain ⟨v0, vs0, d0, ds0, p0, q0, hargs, rfl, rfl, h0, r0⟩ := trodAll_cons hA
  obtain ⟨v1, vs1, d1, ds1, p1, q1, rfl, rfl, rfl, h1, r1⟩ := trodAll_cons r0
  obtain ⟨v2, vs2, d2, ds2, p2, q2, rfl, rfl, rfl, h2, r2⟩ := trodAll_cons r1
  obtain ⟨v3, vs3, d3, ds3, p3, q3, rfl, rfl, rfl, h3, r3⟩ := trodAll_cons r2
  obtain ⟨v4, vs4, d4, ds4, p4, q4, rfl, rfl, rfl, h4, r4⟩ := trodAll_cons r3
  obtain ⟨rfl, rfl, rfl⟩ := trodAll_nil r4
  obtain rfl : args = #[v0, v1, v2, v3, v4] := by cases args; simp_all
  obtain ⟨rfl, rfl⟩ := trodVars_none hV
  obtain ⟨a0, rfl, rfl, rfl, w0⟩ := open_int Tryz.underlying5 (hval 0 5 v0 rfl rfl) h0
  obtain ⟨a1, rfl, rfl, rfl, w1⟩ := open_int Tryz.underlying5 (hval 1 5 v1 rfl rfl) h1
  have k2 := h2
  have lt2 : ∀ x ∈ p2, x.block < W.heap.size := by obtain ⟨m, hm⟩ := k2; exact DataW.trod_lt m _ _ _ hm
  obtain ⟨a2, len2, cap2, rfl⟩ := okWide_slice Tryz.underlying22 (hval 2 22 v2 rfl rfl)
  obtain ⟨z2, w2⟩ := ints_in Tryz.underlying22 Tryz.underlying5 (by kernel_rfl) h2
  have rch2 := slice_reach (j := 2) Tryz.underlying22 (show Tryz.prog.bytesOf 5 = 1 by kernel_rfl) k2 hsz rfl rfl
  have k3 := h3
  have lt3 : ∀ x ∈ p3, x.block < W.heap.size := by obtain ⟨m, hm⟩ := k3; exact DataW.trod_lt m _ _ _ hm
  obtain ⟨a3, len3, cap3, rfl⟩ := okWide_slice Tryz.underlying22 (hval 3 22 v3 rfl rfl)
  obtain ⟨z3, w3⟩ := ints_in Tryz.underlying22 Tryz.underlying5 (by kernel_rfl) h3
  have rch3 := slice_reach (j := 3) Tryz.underlying22 (show Tryz.prog.bytesOf 5 = 1 by kernel_rfl) k3 hsz rfl rfl
  obtain ⟨a4, rfl, rfl, rfl⟩ := open_bool Tryz.underlying4 (hval 4 4 v4 rfl rfl) h4
  clear hA0 hval0
  refine (walk a0 a1 a2 len2 cap2 z2 a3 len3 cap3 z3 a4 W w0 w1 w2 rch2 w3 rch3).mono fun e W' ⟨he, kept⟩ => ?_
  subst he
  have bel : Below W.heap.size W W' := kept.toBelow (Nat.le_refl _) (fun _ x => x.elim)
  exact ⟨_, rfl, _, _, _, [], _, [], hW', trodAll_mk1 (shut_bool Tryz.underlying4 _), (trodAll_cons_mk (shut_int Tryz.underlying5 w0) (trodAll_cons_mk (shut_int Tryz.underlying5 w1) (trodAll_cons_mk (Below.trod laidOut (by kernel_rfl) (of_decide_eq_true (by kernel_rfl)) k2 bel lt2) (trodAll_cons_mk (Below.trod laidOut (by kernel_rfl) (of_decide_eq_true (by kernel_rfl)) k3 bel lt3) (trodAll_cons_mk (shut_bool Tryz.underlying4 _) trodAll_mk0))))), rfl, bel.frame _, fun h => by cases h⟩

theorem over : Rows.ShopQuietSaid :=
  OpenClaim.holds_of_wide 6 Tryz.f6 rfl rfl rfl rfl rfl rfl rfl ⟨rfl, rfl, rfl, rfl, rfl⟩ rfl rfl rfl rfl rfl (by kernel_rfl) Tryz.func6 (by kernel_rfl)
    (of_decide_eq_true (by kernel_rfl)) (by unfold Func.isWrapper; first | (rw [if_pos (by decide +kernel)]; kernel_rfl) | (rw [if_neg (by decide +kernel)]; exact ⟨rfl, rfl⟩))
    (fun os started H enc _ => lifted os started H enc)

/-- The statement. -/
theorem proved : Rows.ShopQuietSaid := over
#print axioms proved
end Go.Proofs.YtcndilpaijapkaaGreat.shopQuiet
