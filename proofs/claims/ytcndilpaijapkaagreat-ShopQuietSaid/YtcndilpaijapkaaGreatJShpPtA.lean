/-
  A shop's Parts: each list of pieces is what its parts are. Own work; proved by a walk through the landed text, its drawn regions operation by operation.
-/
import Derived.Test.YtcndilpaijapkaaGreatRows
import Derived.WalkKit
import Derived.ProofKit
import Derived.OpenShut
import Derived.Outline
import Derived.Deep.Light
import Derived.Deep.QuietTactic
import Derived.BigQuiet
import Derived.IntWalk
import Derived.StillTailTactics
import Derived.RegionTactic
import Derived.Deep.RegionLaw
import Derived.Deep.RegionHeld3
import Derived.Deep.CutRange
import Derived.Test.YtcndilpaijapkaaGreatJRegionLast
import Derived.Test.YtcndilpaijapkaaGreatJShpG
namespace Go.Proofs.YtcndilpaijapkaaGreat.Shp
open Sto
open Go.ChangeShapes Go.WideShapes Go.ChangeAt Go.RowKit
set_option maxRecDepth 100000

section calls
variable {w0 W : World} {s P nw : Nat} {k : K} {ca : Ca} {live : List Lm.S} {F : Nat → Prop} {pl : Pl}
/-- The lists that are told lie in new memory. -/
def NewV (W : World) (e : Ending) : Prop := ∀ vs, e = .returned (.agg vs) → ∀ u ∈ vs.toList, ∀ b, some b = u.ownBlock → W.heap.size ≤ b
def PartsNew (W : World) (nw : Nat) (k : K) (ca : Ca) (live : List Lm.S) (e : Ending) (W' : World) : Prop := PartsPost W nw k ca live e W' ∧ NewV W e
set_option maxHeartbeats 16000000 in
theorem sparts_new (hn : pl.nw = nw) (n6 : nw ≤ 6) (m : StM w0 W s P k ca live F pl) (v : Sq P nw k ca live) : Calls Tryz.prog 25 #[ptr s] W (PartsNew W nw k ca live) := by
  have hP := v.iq.inv.pages
  have nr : k.rl.length ≤ 257 := v.iq.inv.whole.len.1
  have hr := Lib.hid (fun (y : R) (h : y ∈ k.rl) => v.iq.inv.whole.right.mem h)
  have KA0 : Kept Old W (W.alloc (.cells #[.slice none 0 0, .slice none 0 0, .slice none 0 0, .slice none 0 0, .slice none 0 0, .slice none 0 0, .slice none 0 0] 44)) := (Kept.refl Old W).alloc _
  have TA : Blk (W.alloc (.cells #[.slice none 0 0, .slice none 0 0, .slice none 0 0, .slice none 0 0, .slice none 0 0, .slice none 0 0, .slice none 0 0] 44)) W.heap.size 44 noCells := Blk.new W 44 noCells
  have M0 := Lib.hid (m.old KA0)
  have PO := Lib.hid (pooled_any M0.out v)
  have CA := Lib.hid (fun X (q : Kept Old (W.alloc (.cells #[.slice none 0 0, .slice none 0 0, .slice none 0 0, .slice none 0 0, .slice none 0 0, .slice none 0 0, .slice none 0 0] 44)) X) => cacheds_any (pl := (pl.re W.heap.size 97).re (W.alloc (.cells #[.slice none 0 0, .slice none 0 0, .slice none 0 0, .slice none 0 0, .slice none 0 0, .slice none 0 0, .slice none 0 0] 44)).heap.size 97) hn n6 (M0.out.old q) v)
  have PP := Lib.hid pages_piece
  have PS := Lib.hid stack_piece
  have TA := Lib.hid TA
  have KA0 := Lib.hid KA0
  have MW := Lib.hid m
  have VW := Lib.hid v
  clear m v
  go_enter Tryz.func25, Tryz.ntmps25
  go_wp2_with fail
  refine PO.out.mono ?_
  rintro e Va ⟨v1, L1, rfl, ⟨⟨Ap, np, cp, rfl, rp, hcp⟩, bp⟩, sp1, ka⟩
  have rp := Lib.hid rp
  have bp := Lib.hid bp
  have sp1 := Lib.hid sp1
  have KAa := Lib.hid ka
  clear ka
  go_wp2_with fail
  refine (CA.out _ KAa.out).mono ?_
  rintro e Vb ⟨v2, L2, rfl, ⟨⟨Ac, nc, cc, rfl, rc, hcc⟩, bc⟩, sp2, kb⟩
  have K0 : Kept Old W (Vb.alloc (.cells #[.slice none 0 0, .slice Ap np cp, .slice Ac nc cc, .slice none 0 0, .slice none 0 0, .slice none 0 0, .slice none 0 0] 44)) := ((KA0.out.trans KAa.out).trans kb).alloc _
  have T0 : Blk (Vb.alloc (.cells #[.slice none 0 0, .slice Ap np cp, .slice Ac nc cc, .slice none 0 0, .slice none 0 0, .slice none 0 0, .slice none 0 0] 44)) W.heap.size 44 noCells := (TA.out.kept (KAa.out.trans kb) (fun z => z)).alloc _
  have P0 : Blk (Vb.alloc (.cells #[.slice none 0 0, .slice Ap np cp, .slice Ac nc cc, .slice none 0 0, .slice none 0 0, .slice none 0 0, .slice none 0 0] 44)) Vb.heap.size 44 [.slice none 0 0, .slice Ap np cp, .slice Ac nc cc, .slice none 0 0, .slice none 0 0, .slice none 0 0, .slice none 0 0] := Blk.new Vb 44 [.slice none 0 0, .slice Ap np cp, .slice Ac nc cc, .slice none 0 0, .slice none 0 0, .slice none 0 0, .slice none 0 0]
  have kz : Kept Old Vb (Vb.alloc (.cells #[.slice none 0 0, .slice Ap np cp, .slice Ac nc cc, .slice none 0 0, .slice none 0 0, .slice none 0 0, .slice none 0 0] 44)) := (Kept.refl Old Vb).alloc _
  have hA := Lib.hid (show Va.heap.size ≤ Vb.heap.size from kb.size)
  have hW := Lib.hid (show W.heap.size < Va.heap.size from Nat.lt_of_lt_of_le TA.out.lt KAa.out.size)
  have S11a := Lib.hid (show RdB (Vb.alloc (.cells #[.slice none 0 0, .slice Ap np cp, .slice Ac nc cc, .slice none 0 0, .slice none 0 0, .slice none 0 0, .slice none 0 0] 44)) (W.heap.size + 1) Va.heap.size (.slice Ap np cp) L1 from ⟨⟨_, _, _, rfl, rp.out.old (kb.trans kz), hcp⟩, fun b e => ⟨by have := (bp.out b e).1; simpa using this, (bp.out b e).2⟩⟩)
  have S12a := Lib.hid (show RdB (Vb.alloc (.cells #[.slice none 0 0, .slice Ap np cp, .slice Ac nc cc, .slice none 0 0, .slice none 0 0, .slice none 0 0, .slice none 0 0] 44)) Va.heap.size Vb.heap.size (.slice Ac nc cc) L2 from ⟨⟨_, _, _, rfl, rc.old kz, hcc⟩, bc⟩)
  have sp2 := Lib.hid sp2
  have M0 := Lib.hid (MW.out.old K0)
  have s1 : (Vb.alloc (.cells #[.slice none 0 0, .slice Ap np cp, .slice Ac nc cc, .slice none 0 0, .slice none 0 0, .slice none 0 0, .slice none 0 0] 44)).cell? ⟨s, 1, none⟩ = some (ptr pl.h) := M0.out.c 1
  have sb := ((MW.out.old ((KA0.out.trans KAa.out).trans kb)).c 1)
  have hsl := (MW.out.old ((KA0.out.trans KAa.out).trans kb)).st.box.lt
  have HR := Lib.hid (show Calls Tryz.prog 72 #[ptr pl.h] (Vb.alloc (.cells #[.slice none 0 0, .slice Ap np cp, .slice Ac nc cc, .slice none 0 0, .slice none 0 0, .slice none 0 0, .slice none 0 0] 44)) _ from hp_runs M0.out.hp.hp)
  have P0 := Lib.hid P0
  have T0 := Lib.hid T0
  have K0 := Lib.hid K0
  clear rp bp rc bc kb kz KAa KA0 TA PO CA M0
  go_wp2_with fail
  refine HR.out.mono ?_
  rintro e V1 ⟨g, rfl, R1, K1, g1, g2⟩
  have PB := Lib.hid (P0.out.kept K1 (fun z => z))
  have KX := Lib.hid (show Kept (Only Vb.heap.size) (Vb.alloc (.cells #[.slice none 0 0, .slice Ap np cp, .slice Ac nc cc, .slice none 0 0, .slice none 0 0, .slice none 0 0, .slice none 0 0] 44)) V1 from K1.any)
  have S11 := Lib.hid (S11a.out.fr (D := Old) K1 (fun _ _ _ z => z))
  have S12 := Lib.hid (S12a.out.fr (D := Old) K1 (fun _ _ _ z => z))
  clear S11a S12a
  have gx : g ≠ Vb.heap.size := by have := P0.out.lt; omega
  have hxl := Lib.hid (show Vb.heap.size < V1.heap.size from PB.out.lt)
  have hx0 := Lib.hid (show W.heap.size < Vb.heap.size from Nat.lt_of_lt_of_le hW.out hA.out)
  have R1 := Lib.hid R1
  clear HR K1 s1 sb hsl g1 g2
  generalize (Vb.alloc (.cells #[.slice none 0 0, .slice Ap np cp, .slice Ac nc cc, .slice none 0 0, .slice none 0 0, .slice none 0 0, .slice none 0 0] 44)) = X0 at *
  generalize hx : Vb.heap.size = x at *
  clear hx
  have KW := Lib.hid (fun V (q : Kept (Only x) X0 V) => kept_new K0.out q (Nat.le_of_lt hx0.out))
  go_wp2_with fail
  go_loopw [26] (fun sl wr => ∃ (i : Nat) (A : Option Addr) (c : Nat), i ≤ k.rl.length ∧ sl = .int .i64 (i : Int) ∧ Hid (Blk wr x 44 [.slice A i c, .slice Ap np cp, .slice Ac nc cc, nilS, nilS, nilS, nilS]) ∧ Hid (Pc.Ow wr V1.heap.size (.slice A i c) i ((runsP k.rl).take i)) ∧ Hid (Kept (Only x) V1 wr)) (fun sl _ => k.rl.length + 1 - (intOf sl).toNat)
  case atStart => exact ⟨0, none, 0, Nat.zero_le _, rfl, PB, Lib.hid (Pc.Ow.nil _ _), Lib.hid (Kept.refl _ _)⟩
  case round =>
    obtain ⟨i, A, c, hi, rfl, B1, O1, K1⟩ := hrel
    rename World => U2
    clear PB
    have wi : IntKind.i64.wrap ((i : Int) + 1) = (i : Int) + 1 := IntWalk.i64_in _ (by omega)
    by_cases ci : i < k.rl.length
    · obtain ⟨g', o', y, e, _, hy, _, _, c0, c1⟩ := (R1.out.kept K1.out (fun ad ea => by injection ea with ea; subst ea; exact gx)).get ci
      obtain ⟨rfl, rfl⟩ : g = g' ∧ 0 = o' := by injection e with e; injection e with e1 e2; exact ⟨e1, e2⟩
      simp only [Nat.zero_add] at c0 c1
      clear e
      obtain ⟨_, y0, y1, y2⟩ := hr.out y (List.mem_of_getElem? hy)
      have nx : (runsP k.rl).take i ++ [(y.1 * 64, y.2 * 64)] = (runsP k.rl).take (i + 1) := take_next (map_at hy)
      have FP := Lib.hid (show Pc.in64 ((y.1 * 64, y.2 * 64)).1 ∧ Pc.in64 ((y.1 * 64, y.2 * 64)).2 from ⟨⟨by simp only; omega, by simp only; omega⟩, ⟨by simp only; omega, by simp only; omega⟩⟩)
      have CP := Lib.hid (fun X => PP.out y.1 y.2 (by omega) (by omega) X)
      have nx := Lib.hid nx
      clear hy
      have B2 := B1.out.alloc (.cells #[.int .i64 y.1, .int .i64 y.2] 91)
      have Z2 := Blk.new U2 91 [.int .i64 y.1, .int .i64 y.2]
      have px := B2.cell 0
      have q0 := Z2.cell 0
      have q1 := Z2.cell 1
      simp only [List.getElem?_cons_succ, List.getElem?_cons_zero] at px q0 q1
      have B2 := Lib.hid B2
      have Z2 := Lib.hid Z2
      have O2 := Lib.hid (O1.out.alloc (.cells #[.int .i64 y.1, .int .i64 y.2] 91))
      have K2 := Lib.hid (K1.out.alloc (.cells #[.int .i64 y.1, .int .i64 y.2] 91))
      have OB := Lib.hid (fun b (e : some b = (Value.slice A i c).ownBlock) => (O1.out.own b e).2)
      go_wp2_with fail
      generalize hrb : U2.heap.size = rb at *
      generalize U2.alloc (.cells #[.int .i64 y.1, .int .i64 y.2] 91) = V2 at *
      clear B1 O1 K1
      refine wp_region_last 10 (fun w' => w'.cell? ⟨x, 0, none⟩ = some (.slice A i c) ∧ w'.cell? ⟨rb, 0, none⟩ = some (.int .i64 y.1) ∧ w'.cell? ⟨rb, 1, none⟩ = some (.int .i64 y.2)) (by kernel_rfl) rfl (by decide +kernel) ⟨px, q0, q1⟩ (fun hHeld => ?_)
      simp only [List.pop_toArray, List.dropLast_cons_cons, List.dropLast_singleton]
      refine wpAnyH_take (i := 0) (v := .pointer (some ⟨x, 0, none⟩)) rfl (by kernel_rfl) (by decide +kernel) (by decide +kernel) (fun _ _ _ h => h) (Or.inl ⟨by rfl, fun w' hSw => ?_⟩) hHeld ?_
      · (go_simp)
      simp only [Act.put, List.getElem_toArray, List.getElem_cons_zero, List.setIfInBounds_toArray, List.set_cons_zero, List.set_cons_succ]
      refine wpAnyH_take (i := 1) (v := .slice A i c) rfl (by kernel_rfl) (by decide +kernel) (by decide +kernel) (fun _ _ _ h => h) (Or.inl ⟨by rfl, fun w' hSw => ?_⟩) hHeld ?_
      · (go_simp)
      simp only [Act.put, List.getElem_toArray, List.getElem_cons_succ, List.getElem_cons_zero, List.setIfInBounds_toArray, List.set_cons_zero, List.set_cons_succ]
      refine wpAnyH_take (i := 2) (v := .pointer (some ⟨rb, 0, none⟩)) rfl (by kernel_rfl) (by decide +kernel) (by decide +kernel) (fun _ _ _ h => h) (Or.inl ⟨by rfl, fun w' hSw => ?_⟩) hHeld ?_
      · (go_simp)
      simp only [Act.put, List.getElem_toArray, List.getElem_cons_succ, List.getElem_cons_zero, List.setIfInBounds_toArray, List.set_cons_zero, List.set_cons_succ]
      refine wpAnyH_take (i := 3) (v := .int .i64 y.1) rfl (by kernel_rfl) (by decide +kernel) (by decide +kernel) (fun _ _ _ h => h) (Or.inl ⟨by rfl, fun w' hSw => ?_⟩) hHeld ?_
      · (go_simp)
      simp only [Act.put, List.getElem_toArray, List.getElem_cons_succ, List.getElem_cons_zero, List.setIfInBounds_toArray, List.set_cons_zero, List.set_cons_succ]
      refine wpAnyH_take (i := 4) (v := .pointer (some ⟨rb, 1, none⟩)) rfl (by kernel_rfl) (by decide +kernel) (by decide +kernel) (fun _ _ _ h => h) (Or.inl ⟨by rfl, fun w' hSw => ?_⟩) hHeld ?_
      · (go_simp)
      simp only [Act.put, List.getElem_toArray, List.getElem_cons_succ, List.getElem_cons_zero, List.setIfInBounds_toArray, List.set_cons_zero, List.set_cons_succ]
      refine wpAnyH_take (i := 5) (v := .int .i64 y.2) rfl (by kernel_rfl) (by decide +kernel) (by decide +kernel) (fun _ _ _ h => h) (Or.inl ⟨by rfl, fun w' hSw => ?_⟩) hHeld ?_
      · (go_simp)
      simp only [Act.put, List.getElem_toArray, List.getElem_cons_succ, List.getElem_cons_zero, List.setIfInBounds_toArray, List.set_cons_zero, List.set_cons_succ]
      refine wpAnyH_ready (rs := [6]) (by decide +kernel) (by simp) (AllReadyH.cons rfl (fun K hK => ?_) AllReadyH.nil)
      simp only [List.getElem_toArray, List.getElem_cons_succ, List.getElem_cons_zero]
      rw [if_pos (by rfl)]
      go_simp
      go_at_call 73
      refine (CP.out _).mono ?_
      rintro e V3 ⟨rfl, k3⟩
      refine hK.out _ _ ⟨Bg.cell_on k3 hHeld.1, Bg.cell_on k3 hHeld.2.1, Bg.cell_on k3 hHeld.2.2⟩ (fun hHeld => ?_)
      clear hK K
      have k3 := (show Kept Old V2 V3 from (Kept.refl Old V2).drew.trans k3)
      have B3 := Lib.hid (B2.out.kept k3 (fun z => z))
      have O3 := Lib.hid (O2.out.old k3)
      have Z3 := Lib.hid (Z2.out.kept k3 (fun z => z))
      have K3 := Lib.hid (K2.out.join k3 (fun _ _ z => z.elim))
      clear k3 B2 O2 K2 Z2
      refine wpAnyH_ready (rs := [7]) (by decide +kernel) (by simp) (AllReadyH.cons rfl (fun K hK => ?_) AllReadyH.nil)
      simp only [List.getElem_toArray, List.getElem_cons_succ, List.getElem_cons_zero]
      rw [if_pos (by rfl)]
      go_simp
      refine hK.out _ _ ⟨Bg.cell_on ((Kept.refl Old V3).alloc _) hHeld.1, Bg.cell_on ((Kept.refl Old V3).alloc _) hHeld.2.1, Bg.cell_on ((Kept.refl Old V3).alloc _) hHeld.2.2⟩ (fun hHeld => ?_)
      clear hK K
      have R4 := Lib.hid (Pc.Rs.one V3 (y.1 * 64, y.2 * 64) FP.out.1 FP.out.2 _ rfl)
      have B4 := Lib.hid (B3.out.alloc (.cells #[.int .i64 ((y.1 * 64, y.2 * 64)).1, .int .i64 ((y.1 * 64, y.2 * 64)).2] 54))
      have O4 := Lib.hid (O3.out.alloc (.cells #[.int .i64 ((y.1 * 64, y.2 * 64)).1, .int .i64 ((y.1 * 64, y.2 * 64)).2] 54))
      have Z4 := Lib.hid (Z3.out.alloc (.cells #[.int .i64 ((y.1 * 64, y.2 * 64)).1, .int .i64 ((y.1 * 64, y.2 * 64)).2] 54))
      have K4 := Lib.hid (K3.out.alloc (.cells #[.int .i64 ((y.1 * 64, y.2 * 64)).1, .int .i64 ((y.1 * 64, y.2 * 64)).2] 54))
      have hv := Lib.hid (Nat.le_trans K4.out.size (Nat.le_refl _))
      refine wpAnyH_ready (rs := [8]) (by decide +kernel) (by simp) (AllReadyH.cons rfl (fun K hK => ?_) AllReadyH.nil)
      refine Pc.app_step rfl (.tmp 31) (.tmp 37) rfl rfl V1.heap.size (.slice A i c) i ((runsP k.rl).take i) (by first | rfl | simp [Act.eval]) O4.out (some ⟨V3.heap.size, 0, none⟩) 1 1 [(y.1 * 64, y.2 * 64)] (by first | rfl | simp [Act.eval]) R4.out (fun h => by cases h) (by omega) (by omega) hv.out (i + 1) rfl ((runsP k.rl).take (i + 1)) nx.out ?_
      intro v5 V5 O5 k5 a5
      obtain ⟨A5, c5, rfl, _⟩ := O5.out.rs
      have hown := Lib.hid O4.out.own
      have XB := B4.out.kept k5.out (fun e => by have := (hown.out x e).1; have := hxl.out; omega)
      have x5 := XB.cell 0
      have g5 := XB.frozen 0
      have ZB := Z4.out.kept k5.out (fun e => by have := OB.out rb e; omega)
      have z0 := ZB.cell 0
      have z1 := ZB.cell 1
      simp only [List.getElem?_cons_succ, List.getElem?_cons_zero] at x5 z0 z1
      have XB := Lib.hid XB
      refine hK.out _ _ ⟨x5, z0, z1⟩ (fun hHeld => ?_)
      clear hK K
      refine wpAnyH_take (i := 9) (v := .pointer (some ⟨x, 0, none⟩)) rfl (by kernel_rfl) (by decide +kernel) (by decide +kernel) (fun _ _ _ h => h) (Or.inl ⟨by rfl, fun w' hSw => ?_⟩) hHeld ?_
      · (go_simp)
      simp only [Act.put, List.getElem_toArray, List.getElem_cons_succ, List.getElem_cons_zero, List.setIfInBounds_toArray, List.set_cons_zero, List.set_cons_succ]
      refine wpAnyH_done (by decide +kernel) ?_ _
      unfold LastQ
      refine wpOp_step rfl (fun K hK => ?_)
      simp only [List.getElem_toArray, List.getElem_cons_succ, List.getElem_cons_zero]
      rw [if_pos (by rfl)]
      go_simp
      refine hK _ _ ?_
      clear hK K
      have B6 := Lib.hid (XB.out.put 0 (.slice A5 (i + 1) c5))
      have O6 := Lib.hid (O5.out.kept (only_setCell V5 x 0 (.slice A5 (i + 1) c5)) (fun j hj e => by have e : j = x := e; have := hxl.out; omega))
      have K6 := Lib.hid ((K4.out.join k5.out (fun j hj e => by have := (hown.out j e).1; omega)).trans (only_setCell V5 x 0 (.slice A5 (i + 1) c5)))
      clear px hHeld x5 g5
      go_wp2_with fail
      exact ⟨⟨i + 1, A5, c5, by omega, by go_num, B6, O6, K6⟩, by simp [intOf]; omega⟩
    · have ci' : ¬ ((i : Int) < ((k.rl.length : Nat) : Int)) := by omega
      have O0 := Lib.hid (show OwB U2 V1.heap.size U2.heap.size (.slice A i c) i (runsP k.rl) from ⟨by have h := O1.out; rwa [take_all (by unfold runsP; rw [List.length_map]; omega)] at h, fun b e => (O1.out.own b e).2⟩)
      have S11 := Lib.hid (S11.out.fr K1.out (fun b h1' h2' e => by have e : b = x := e; have := hA.out; omega))
      have S12 := Lib.hid (S12.out.fr K1.out (fun b h1' h2' e => by have e : b = x := e; omega))
      have KX := Lib.hid (KX.out.trans K1.out)
      have h0 := hxl
      have zA := Lib.hid K1.out.size
      have hxl := Lib.hid (Nat.lt_of_lt_of_le hxl.out K1.out.size)
      have PB := B1
      clear B1 O1 K1 R1 gx wi hi
      generalize hv0 : Value.slice A i c = v0 at *
      clear hv0
      obtain ⟨A1, n1, c1, s11, BR⟩ : ∃ A1 n1 c1, U2.cell? ⟨s, 11, none⟩ = some (.slice A1 n1 c1) ∧ Bg.Rs W A1 n1 k.big := ⟨_, _, _, (MW.out.old (KW.out U2 KX.out)).c 11, MW.out.kb.rs⟩
      have BR := Lib.hid BR
      have hb := Lib.hid (fun (y : Bg.R) (h : y ∈ k.big) => Bg.may_of ((Bg.right_pw.1 VW.out.iq.inv.right).1 y h))
      have nb := Lib.hid BR.out.len
      have nbl : n1 ≤ 300 := by have := big_len VW.out.iq.inv.right; have := BR.out.len; omega
      go_wp2_with fail
      go_loopw [46] (fun sl wr => ∃ (i : Nat) (A : Option Addr) (c : Nat), i ≤ n1 ∧ sl = .int .i64 (i : Int) ∧ Hid (Blk wr x 44 [v0, .slice Ap np cp, .slice Ac nc cc, .slice A i c, nilS, nilS, nilS]) ∧ Hid (Pc.Ow wr U2.heap.size (.slice A i c) i ((outP k.big).take i)) ∧ Hid (Kept (Only x) U2 wr)) (fun sl _ => n1 + 1 - (intOf sl).toNat)
      case atStart => exact ⟨0, none, 0, Nat.zero_le _, rfl, PB, Lib.hid (Pc.Ow.nil _ _), Lib.hid (Kept.refl _ _)⟩
      case round =>
        obtain ⟨i, A, c, hi, rfl, B1, O1, K1⟩ := hrel
        rename World => U5
        clear PB
        have wi : IntKind.i64.wrap ((i : Int) + 1) = (i : Int) + 1 := IntWalk.i64_in _ (by omega)
        by_cases ci : i < n1
        · obtain ⟨g', o', y, rfl, hg', hy, fy0, fy1, d0, d1⟩ := (BR.out.old (KW.out U5 (KX.out.trans K1.out))).get ci
          have nx := Lib.hid (show (outP k.big).take i ++ [(y.1, wordsI y.2)] = (outP k.big).take (i + 1) from take_next (map_at hy))
          have wq2 := Lib.hid (wordsI_lim y.2)
          have FP := Lib.hid (show Pc.in64 ((y.1, wordsI y.2)).1 ∧ Pc.in64 ((y.1, wordsI y.2)).2 from ⟨fy0, by have h := wq2.out; exact ⟨by simp only; omega, by simp only; omega⟩⟩)
          have CP := Lib.hid (fun X => PS.out y.1 y.2 X)
          clear hy
          have B2 := B1.out.alloc (.cells #[.int .i64 y.1, .int .i64 y.2] 113)
          have Z2 := Blk.new U5 113 [.int .i64 y.1, .int .i64 y.2]
          have px := B2.cell 3
          have q0 := Z2.cell 0
          have q1 := Z2.cell 1
          simp only [List.getElem?_cons_succ, List.getElem?_cons_zero] at px q0 q1
          have B2 := Lib.hid B2
          have Z2 := Lib.hid Z2
          have O2 := Lib.hid (O1.out.alloc (.cells #[.int .i64 y.1, .int .i64 y.2] 113))
          have K2 := Lib.hid (K1.out.alloc (.cells #[.int .i64 y.1, .int .i64 y.2] 113))
          have OB := Lib.hid (fun b (e : some b = (Value.slice A i c).ownBlock) => (O1.out.own b e).2)
          go_wp2_with fail
          generalize hrb : U5.heap.size = rb at *
          generalize U5.alloc (.cells #[.int .i64 y.1, .int .i64 y.2] 113) = V2 at *
          clear B1 O1 K1
          refine wp_region_last 10 (fun w' => w'.cell? ⟨x, 3, none⟩ = some (.slice A i c) ∧ w'.cell? ⟨rb, 0, none⟩ = some (.int .i64 y.1) ∧ w'.cell? ⟨rb, 1, none⟩ = some (.int .i64 y.2)) (by kernel_rfl) rfl (by decide +kernel) ⟨px, q0, q1⟩ (fun hHeld => ?_)
          simp only [List.pop_toArray, List.dropLast_cons_cons, List.dropLast_singleton]
          refine wpAnyH_take (i := 0) (v := .pointer (some ⟨x, 3, none⟩)) rfl (by kernel_rfl) (by decide +kernel) (by decide +kernel) (fun _ _ _ h => h) (Or.inl ⟨by rfl, fun w' hSw => ?_⟩) hHeld ?_
          · (go_simp)
          simp only [Act.put, List.getElem_toArray, List.getElem_cons_zero, List.setIfInBounds_toArray, List.set_cons_zero, List.set_cons_succ]
          refine wpAnyH_take (i := 1) (v := .slice A i c) rfl (by kernel_rfl) (by decide +kernel) (by decide +kernel) (fun _ _ _ h => h) (Or.inl ⟨by rfl, fun w' hSw => ?_⟩) hHeld ?_
          · (go_simp)
          simp only [Act.put, List.getElem_toArray, List.getElem_cons_succ, List.getElem_cons_zero, List.setIfInBounds_toArray, List.set_cons_zero, List.set_cons_succ]
          refine wpAnyH_take (i := 2) (v := .pointer (some ⟨rb, 0, none⟩)) rfl (by kernel_rfl) (by decide +kernel) (by decide +kernel) (fun _ _ _ h => h) (Or.inl ⟨by rfl, fun w' hSw => ?_⟩) hHeld ?_
          · (go_simp)
          simp only [Act.put, List.getElem_toArray, List.getElem_cons_succ, List.getElem_cons_zero, List.setIfInBounds_toArray, List.set_cons_zero, List.set_cons_succ]
          refine wpAnyH_take (i := 3) (v := .int .i64 y.1) rfl (by kernel_rfl) (by decide +kernel) (by decide +kernel) (fun _ _ _ h => h) (Or.inl ⟨by rfl, fun w' hSw => ?_⟩) hHeld ?_
          · (go_simp)
          simp only [Act.put, List.getElem_toArray, List.getElem_cons_succ, List.getElem_cons_zero, List.setIfInBounds_toArray, List.set_cons_zero, List.set_cons_succ]
          refine wpAnyH_take (i := 4) (v := .pointer (some ⟨rb, 1, none⟩)) rfl (by kernel_rfl) (by decide +kernel) (by decide +kernel) (fun _ _ _ h => h) (Or.inl ⟨by rfl, fun w' hSw => ?_⟩) hHeld ?_
          · (go_simp)
          simp only [Act.put, List.getElem_toArray, List.getElem_cons_succ, List.getElem_cons_zero, List.setIfInBounds_toArray, List.set_cons_zero, List.set_cons_succ]
          refine wpAnyH_take (i := 5) (v := .int .i64 y.2) rfl (by kernel_rfl) (by decide +kernel) (by decide +kernel) (fun _ _ _ h => h) (Or.inl ⟨by rfl, fun w' hSw => ?_⟩) hHeld ?_
          · (go_simp)
          simp only [Act.put, List.getElem_toArray, List.getElem_cons_succ, List.getElem_cons_zero, List.setIfInBounds_toArray, List.set_cons_zero, List.set_cons_succ]
          refine wpAnyH_ready (rs := [6]) (by decide +kernel) (by simp) (AllReadyH.cons rfl (fun K hK => ?_) AllReadyH.nil)
          simp only [List.getElem_toArray, List.getElem_cons_succ, List.getElem_cons_zero]
          rw [if_pos (by rfl)]
          go_simp
          go_at_call 74
          refine (CP.out _).mono ?_
          rintro e V3 ⟨rfl, k3⟩
          refine hK.out _ _ ⟨Bg.cell_on k3 hHeld.1, Bg.cell_on k3 hHeld.2.1, Bg.cell_on k3 hHeld.2.2⟩ (fun hHeld => ?_)
          clear hK K
          have k3 := (show Kept Old V2 V3 from (Kept.refl Old V2).drew.trans k3)
          have B3 := Lib.hid (B2.out.kept k3 (fun z => z))
          have O3 := Lib.hid (O2.out.old k3)
          have Z3 := Lib.hid (Z2.out.kept k3 (fun z => z))
          have K3 := Lib.hid (K2.out.join k3 (fun _ _ z => z.elim))
          clear k3 B2 O2 K2 Z2
          refine wpAnyH_ready (rs := [7]) (by decide +kernel) (by simp) (AllReadyH.cons rfl (fun K hK => ?_) AllReadyH.nil)
          simp only [List.getElem_toArray, List.getElem_cons_succ, List.getElem_cons_zero]
          rw [if_pos (by rfl)]
          go_simp
          refine hK.out _ _ ⟨Bg.cell_on ((Kept.refl Old V3).alloc _) hHeld.1, Bg.cell_on ((Kept.refl Old V3).alloc _) hHeld.2.1, Bg.cell_on ((Kept.refl Old V3).alloc _) hHeld.2.2⟩ (fun hHeld => ?_)
          clear hK K
          have R4 := Lib.hid (Pc.Rs.one V3 (y.1, wordsI y.2) FP.out.1 FP.out.2 _ rfl)
          have B4 := Lib.hid (B3.out.alloc (.cells #[.int .i64 ((y.1, wordsI y.2)).1, .int .i64 ((y.1, wordsI y.2)).2] 54))
          have O4 := Lib.hid (O3.out.alloc (.cells #[.int .i64 ((y.1, wordsI y.2)).1, .int .i64 ((y.1, wordsI y.2)).2] 54))
          have Z4 := Lib.hid (Z3.out.alloc (.cells #[.int .i64 ((y.1, wordsI y.2)).1, .int .i64 ((y.1, wordsI y.2)).2] 54))
          have K4 := Lib.hid (K3.out.alloc (.cells #[.int .i64 ((y.1, wordsI y.2)).1, .int .i64 ((y.1, wordsI y.2)).2] 54))
          have hv := Lib.hid (Nat.le_trans K4.out.size (Nat.le_refl _))
          refine wpAnyH_ready (rs := [8]) (by decide +kernel) (by simp) (AllReadyH.cons rfl (fun K hK => ?_) AllReadyH.nil)
          refine Pc.app_step rfl (.tmp 51) (.tmp 57) rfl rfl U2.heap.size (.slice A i c) i ((outP k.big).take i) (by first | rfl | simp [Act.eval]) O4.out (some ⟨V3.heap.size, 0, none⟩) 1 1 [(y.1, wordsI y.2)] (by first | rfl | simp [Act.eval]) R4.out (fun h => by cases h) (by omega) (by omega) hv.out (i + 1) rfl ((outP k.big).take (i + 1)) nx.out ?_
          intro v5 V5 O5 k5 a5
          obtain ⟨A5, c5, rfl, _⟩ := O5.out.rs
          have hown := Lib.hid O4.out.own
          have XB := B4.out.kept k5.out (fun e => by have := (hown.out x e).1; have := hxl.out; omega)
          have x5 := XB.cell 3
          have g5 := XB.frozen 3
          have ZB := Z4.out.kept k5.out (fun e => by have := OB.out rb e; omega)
          have z0 := ZB.cell 0
          have z1 := ZB.cell 1
          simp only [List.getElem?_cons_succ, List.getElem?_cons_zero] at x5 z0 z1
          have XB := Lib.hid XB
          refine hK.out _ _ ⟨x5, z0, z1⟩ (fun hHeld => ?_)
          clear hK K
          refine wpAnyH_take (i := 9) (v := .pointer (some ⟨x, 3, none⟩)) rfl (by kernel_rfl) (by decide +kernel) (by decide +kernel) (fun _ _ _ h => h) (Or.inl ⟨by rfl, fun w' hSw => ?_⟩) hHeld ?_
          · (go_simp)
          simp only [Act.put, List.getElem_toArray, List.getElem_cons_succ, List.getElem_cons_zero, List.setIfInBounds_toArray, List.set_cons_zero, List.set_cons_succ]
          refine wpAnyH_done (by decide +kernel) ?_ _
          unfold LastQ
          refine wpOp_step rfl (fun K hK => ?_)
          simp only [List.getElem_toArray, List.getElem_cons_succ, List.getElem_cons_zero]
          rw [if_pos (by rfl)]
          go_simp
          refine hK _ _ ?_
          clear hK K
          have B6 := Lib.hid (XB.out.put 3 (.slice A5 (i + 1) c5))
          have O6 := Lib.hid (O5.out.kept (only_setCell V5 x 3 (.slice A5 (i + 1) c5)) (fun j hj e => by have e : j = x := e; have := hxl.out; omega))
          have K6 := Lib.hid ((K4.out.join k5.out (fun j hj e => by have := (hown.out j e).1; omega)).trans (only_setCell V5 x 3 (.slice A5 (i + 1) c5)))
          clear px hHeld x5 g5
          go_wp2_with fail
          exact ⟨⟨i + 1, A5, c5, by omega, by go_num, B6, O6, K6⟩, by simp [intOf]; omega⟩
        · have ci' : ¬ ((i : Int) < ((n1 : Nat) : Int)) := by omega
          have O3' := Lib.hid (show OwB U5 U2.heap.size U5.heap.size (.slice A i c) i (outP k.big) from ⟨by have h := O1.out; rwa [take_all (by unfold outP; rw [List.length_map]; have := nb.out; omega)] at h, fun b e => (O1.out.own b e).2⟩)
          have O0 := Lib.hid (O0.out.fr K1.out (fun b h1' h2' e => by have e : b = x := e; have := h0.out; omega))
          have S11 := Lib.hid (S11.out.fr K1.out (fun b h1' h2' e => by have e : b = x := e; have := hA.out; omega))
          have S12 := Lib.hid (S12.out.fr K1.out (fun b h1' h2' e => by have e : b = x := e; omega))
          have KX := Lib.hid (KX.out.trans K1.out)
          have zB := Lib.hid K1.out.size
          have h3 := hxl
          have hxl := Lib.hid (Nat.lt_of_lt_of_le hxl.out K1.out.size)
          have PB := B1
          have n3 : i ≤ n1 := hi
          clear B1 O1 K1 wi hi ci
          generalize hv3 : Value.slice A i c = v3 at *
          clear hv3
          have i3 := Lib.hid n3
          clear n3
          obtain ⟨A2, n2, c2, s13, BQ⟩ : ∃ A2 n2 c2, U5.cell? ⟨s, 13, none⟩ = some (.slice A2 n2 c2) ∧ RsI W A2 n2 k.back := ⟨_, _, _, (MW.out.old (KW.out U5 KX.out)).c 13, MW.out.kq.rs⟩
          have BQ := Lib.hid BQ
          have nb2 := Lib.hid BQ.out.len
          have hbk := Lib.hid (fun (q : Int) (h : q ∈ k.back) => (show 0 ≤ q ∧ q + 8 ≤ P from by obtain ⟨_, _, hs, _⟩ := VW.out.iq.inv.back q h; have a0 := (VW.out.iq.inv.ok hs).a0; have up := (VW.out.iq.inv.ok hs).up; exact ⟨a0, up⟩))
          have lb2 := Lib.hid (show k.back.length ≤ 300 from by have := VW.out.iq.inv.back_len; omega)
          go_wp2_with fail
          go_loopw [67] (fun sl wr => ∃ (i : Nat) (A : Option Addr) (c : Nat), i ≤ n2 ∧ sl = .int .i64 (i : Int) ∧ Hid (Blk wr x 44 [v0, .slice Ap np cp, .slice Ac nc cc, v3, .slice A i c, nilS, nilS]) ∧ Hid (Pc.Ow wr U5.heap.size (.slice A i c) i ((lateP k.back).take i)) ∧ Hid (Kept (Only x) U5 wr)) (fun sl _ => n2 + 1 - (intOf sl).toNat)
          case atStart => exact ⟨0, none, 0, Nat.zero_le _, rfl, PB, Lib.hid (Pc.Ow.nil _ _), Lib.hid (Kept.refl _ _)⟩
          case round =>
            obtain ⟨i, A, c, hi, rfl, B2, O2, K2⟩ := hrel
            rename World => U6
            clear PB
            have i2' : n2 ≤ 300 := by have := nb2.out; have := lb2.out; omega
            have wi : IntKind.i64.wrap ((i : Int) + 1) = (i : Int) + 1 := IntWalk.i64_in _ (by omega)
            by_cases ci : i < n2
            · obtain ⟨g', o', y, rfl, hg', hy, fy0, c0⟩ := (BQ.out.old (KW.out U6 (KX.out.trans K2.out))).get ci
              obtain ⟨y0, y1⟩ := hbk.out y (List.mem_of_getElem? hy)
              have nx := Lib.hid (show (lateP k.back).take i ++ [(y * 64, 512)] = (lateP k.back).take (i + 1) from take_next (map_at hy))
              have FP := Lib.hid (show Pc.in64 ((y * 64, (512 : Int))).1 ∧ Pc.in64 ((y * 64, (512 : Int))).2 from ⟨⟨by simp only; omega, by simp only; omega⟩, ⟨by simp only; omega, by simp only; omega⟩⟩)
              have CP := Lib.hid (fun X => PP.out y 8 (by omega) (by omega) X)
              clear hy
              have px := B2.out.cell 4
              simp only [List.getElem?_cons_succ, List.getElem?_cons_zero] at px
              go_wp2_with fail
              refine wp_region_last 7 (fun w' => w'.cell? ⟨x, 4, none⟩ = some (.slice A i c)) (by kernel_rfl) rfl (by decide +kernel) px (fun hHeld => ?_)
              simp only [List.pop_toArray, List.dropLast_cons_cons, List.dropLast_singleton]
              refine wpAnyH_take (i := 0) (v := .pointer (some ⟨x, 4, none⟩)) rfl (by kernel_rfl) (by decide +kernel) (by decide +kernel) (fun _ _ _ h => h) (Or.inl ⟨by rfl, fun w' hSw => ?_⟩) hHeld ?_
              · (go_simp)
              simp only [Act.put, List.getElem_toArray, List.getElem_cons_zero, List.setIfInBounds_toArray, List.set_cons_zero, List.set_cons_succ]
              refine wpAnyH_take (i := 1) (v := .slice A i c) rfl (by kernel_rfl) (by decide +kernel) (by decide +kernel) (fun _ _ _ h => h) (Or.inl ⟨by rfl, fun w' hSw => ?_⟩) hHeld ?_
              · (go_simp)
              simp only [Act.put, List.getElem_toArray, List.getElem_cons_succ, List.getElem_cons_zero, List.setIfInBounds_toArray, List.set_cons_zero, List.set_cons_succ]
              refine wpAnyH_take (i := 2) (v := .int .i64 y) rfl (by kernel_rfl) (by decide +kernel) (by decide +kernel) (fun _ _ _ h => h) (Or.inl ⟨by rfl, fun w' hSw => ?_⟩) hHeld ?_
              · (go_simp)
              simp only [Act.put, List.getElem_toArray, List.getElem_cons_succ, List.getElem_cons_zero, List.setIfInBounds_toArray, List.set_cons_zero, List.set_cons_succ]
              refine wpAnyH_ready (rs := [3]) (by decide +kernel) (by simp) (AllReadyH.cons rfl (fun K hK => ?_) AllReadyH.nil)
              simp only [List.getElem_toArray, List.getElem_cons_succ, List.getElem_cons_zero]
              rw [if_pos (by rfl)]
              go_simp
              go_at_call 73
              refine (CP.out _).mono ?_
              rintro e V3 ⟨rfl, k3⟩
              refine hK.out _ _ (Bg.cell_on k3 hHeld) (fun hHeld => ?_)
              clear hK K
              have k3 := (show Kept Old U6 V3 from (Kept.refl Old U6).drew.trans k3)
              have B3 := Lib.hid (B2.out.kept k3 (fun z => z))
              have O3 := Lib.hid (O2.out.old k3)
              have K3 := Lib.hid (K2.out.join k3 (fun _ _ z => z.elim))
              clear k3 B2 O2 K2
              refine wpAnyH_ready (rs := [4]) (by decide +kernel) (by simp) (AllReadyH.cons rfl (fun K hK => ?_) AllReadyH.nil)
              simp only [List.getElem_toArray, List.getElem_cons_succ, List.getElem_cons_zero]
              rw [if_pos (by rfl)]
              go_simp
              refine hK.out _ _ (Bg.cell_on ((Kept.refl Old V3).alloc _) hHeld) (fun hHeld => ?_)
              clear hK K
              have R4 := Lib.hid (Pc.Rs.one V3 (y * 64, (512 : Int)) FP.out.1 FP.out.2 _ rfl)
              have B4 := Lib.hid (B3.out.alloc (.cells #[.int .i64 ((y * 64, (512 : Int))).1, .int .i64 ((y * 64, (512 : Int))).2] 54))
              have O4 := Lib.hid (O3.out.alloc (.cells #[.int .i64 ((y * 64, (512 : Int))).1, .int .i64 ((y * 64, (512 : Int))).2] 54))
              have K4 := Lib.hid (K3.out.alloc (.cells #[.int .i64 ((y * 64, (512 : Int))).1, .int .i64 ((y * 64, (512 : Int))).2] 54))
              have hv := Lib.hid (Nat.le_trans K4.out.size (Nat.le_refl _))
              refine wpAnyH_ready (rs := [5]) (by decide +kernel) (by simp) (AllReadyH.cons rfl (fun K hK => ?_) AllReadyH.nil)
              refine Pc.app_step rfl (.tmp 72) (.tmp 75) rfl rfl U5.heap.size (.slice A i c) i ((lateP k.back).take i) (by first | rfl | simp [Act.eval]) O4.out (some ⟨V3.heap.size, 0, none⟩) 1 1 [(y * 64, (512 : Int))] (by first | rfl | simp [Act.eval]) R4.out (fun h => by cases h) (by omega) (by omega) hv.out (i + 1) rfl ((lateP k.back).take (i + 1)) nx.out ?_
              intro v5 V5 O5 k5 a5
              obtain ⟨A5, c5, rfl, _⟩ := O5.out.rs
              have hown := Lib.hid O4.out.own
              have XB := B4.out.kept k5.out (fun e => by have := (hown.out x e).1; have := hxl.out; omega)
              have x5 := XB.cell 4
              have g5 := XB.frozen 4
              simp only [List.getElem?_cons_succ, List.getElem?_cons_zero] at x5
              have XB := Lib.hid XB
              refine hK.out _ _ x5 (fun hHeld => ?_)
              clear hK K
              refine wpAnyH_take (i := 6) (v := .pointer (some ⟨x, 4, none⟩)) rfl (by kernel_rfl) (by decide +kernel) (by decide +kernel) (fun _ _ _ h => h) (Or.inl ⟨by rfl, fun w' hSw => ?_⟩) hHeld ?_
              · (go_simp)
              simp only [Act.put, List.getElem_toArray, List.getElem_cons_succ, List.getElem_cons_zero, List.setIfInBounds_toArray, List.set_cons_zero, List.set_cons_succ]
              refine wpAnyH_done (by decide +kernel) ?_ _
              unfold LastQ
              refine wpOp_step rfl (fun K hK => ?_)
              simp only [List.getElem_toArray, List.getElem_cons_succ, List.getElem_cons_zero]
              rw [if_pos (by rfl)]
              go_simp
              refine hK _ _ ?_
              clear hK K
              have B6 := Lib.hid (XB.out.put 4 (.slice A5 (i + 1) c5))
              have O6 := Lib.hid (O5.out.kept (only_setCell V5 x 4 (.slice A5 (i + 1) c5)) (fun j hj e => by have e : j = x := e; have := hxl.out; omega))
              have K6 := Lib.hid ((K4.out.join k5.out (fun j hj e => by have := (hown.out j e).1; omega)).trans (only_setCell V5 x 4 (.slice A5 (i + 1) c5)))
              clear px hHeld x5 g5 c0
              go_wp2_with fail
              exact ⟨⟨i + 1, A5, c5, by omega, by go_num, B6, O6, K6⟩, by simp [intOf]; omega⟩
            · have ci' : ¬ ((i : Int) < ((n2 : Nat) : Int)) := by omega
              have O4' := Lib.hid (show OwB U6 U5.heap.size U6.heap.size (.slice A i c) i (lateP k.back) from ⟨by have h := O2.out; rwa [take_all (by unfold lateP; rw [List.length_map]; have := nb2.out; omega)] at h, fun b e => (O2.out.own b e).2⟩)
              have O0 := Lib.hid (O0.out.fr K2.out (fun b h1' h2' e => by have e : b = x := e; have := h0.out; omega))
              have O3' := Lib.hid (O3'.out.fr K2.out (fun b h1' h2' e => by have e : b = x := e; have := h3.out; omega))
              have S11 := Lib.hid (S11.out.fr K2.out (fun b h1' h2' e => by have e : b = x := e; have := hA.out; omega))
              have S12 := Lib.hid (S12.out.fr K2.out (fun b h1' h2' e => by have e : b = x := e; omega))
              have KX := Lib.hid (KX.out.trans K2.out)
              have zC := Lib.hid K2.out.size
              have h4 := hxl
              have hxl := Lib.hid (Nat.lt_of_lt_of_le hxl.out K2.out.size)
              have PB := B2
              clear B2 O2 K2 wi ci
              have i4 := Lib.hid (show i ≤ 300 from by omega)
              clear hi
              generalize hv4 : Value.slice A i c = v4 at *
              clear hv4
              obtain ⟨AL, cL, eL, RL, _, _⟩ := MW.out.lv.ow.rs
              have s14 : U6.cell? ⟨s, 14, none⟩ = some pl.lv := (MW.out.old (KW.out U6 KX.out)).c 14
              rw [eL] at s14
              have RL := Lib.hid RL
              have lL := Lib.hid (show live.length ≤ 600 from by have := VW.out.val.len; omega)
              clear eL
              go_wp2_with fail
              go_loopw [84] (fun sl wr => ∃ (i : Nat) (A : Option Addr) (c : Nat), i ≤ live.length ∧ sl = .int .i64 (i : Int) ∧ Hid (Blk wr x 44 [v0, .slice Ap np cp, .slice Ac nc cc, v3, v4, .slice A i c, nilS]) ∧ Hid (Pc.Ow wr U6.heap.size (.slice A i c) i ((liveP live).take i)) ∧ Hid (Kept (Only x) U6 wr)) (fun sl _ => live.length + 1 - (intOf sl).toNat)
              case atStart => exact ⟨0, none, 0, Nat.zero_le _, rfl, PB, Lib.hid (Pc.Ow.nil _ _), Lib.hid (Kept.refl _ _)⟩
              case round =>
                obtain ⟨i, A, c, hi, rfl, B1, O1, K1⟩ := hrel
                rename World => U7
                clear PB
                have lL' := lL.out
                have wi : IntKind.i64.wrap ((i : Int) + 1) = (i : Int) + 1 := IntWalk.i64_in _ (by omega)
                by_cases ci : i < live.length
                · obtain ⟨g', o', y, rfl, hg', hy, fy, d0, d1, d2⟩ := (RL.out.old (KW.out U7 (KX.out.trans K1.out))).get ci
                  have nx := Lib.hid (show (liveP live).take i ++ [(y.a, wordsI y.n)] = (liveP live).take (i + 1) from take_next (map_at hy))
                  have wq2 := Lib.hid (wordsI_lim y.n)
                  have FP := Lib.hid (show Pc.in64 ((y.a, wordsI y.n)).1 ∧ Pc.in64 ((y.a, wordsI y.n)).2 from ⟨fy.1, by have h := wq2.out; exact ⟨by simp only; omega, by simp only; omega⟩⟩)
                  have CP := Lib.hid (fun X => PS.out y.a y.n X)
                  clear hy fy
                  have B2 := B1.out.alloc (.cells #[.int .i64 y.a, .int .i64 y.n, .int .i64 y.c] 52)
                  have Z2 := Blk.new U7 52 [.int .i64 y.a, .int .i64 y.n, .int .i64 y.c]
                  have px := B2.cell 5
                  have q0 := Z2.cell 0
                  have q1 := Z2.cell 1
                  simp only [List.getElem?_cons_succ, List.getElem?_cons_zero] at px q0 q1
                  have B2 := Lib.hid B2
                  have Z2 := Lib.hid Z2
                  have O2 := Lib.hid (O1.out.alloc (.cells #[.int .i64 y.a, .int .i64 y.n, .int .i64 y.c] 52))
                  have K2 := Lib.hid (K1.out.alloc (.cells #[.int .i64 y.a, .int .i64 y.n, .int .i64 y.c] 52))
                  have OB := Lib.hid (fun b (e : some b = (Value.slice A i c).ownBlock) => (O1.out.own b e).2)
                  go_wp2_with fail
                  generalize hrb : U7.heap.size = rb at *
                  generalize U7.alloc (.cells #[.int .i64 y.a, .int .i64 y.n, .int .i64 y.c] 52) = V2 at *
                  clear B1 O1 K1
                  refine wp_region_last 10 (fun w' => w'.cell? ⟨x, 5, none⟩ = some (.slice A i c) ∧ w'.cell? ⟨rb, 0, none⟩ = some (.int .i64 y.a) ∧ w'.cell? ⟨rb, 1, none⟩ = some (.int .i64 y.n)) (by kernel_rfl) rfl (by decide +kernel) ⟨px, q0, q1⟩ (fun hHeld => ?_)
                  simp only [List.pop_toArray, List.dropLast_cons_cons, List.dropLast_singleton]
                  refine wpAnyH_take (i := 0) (v := .pointer (some ⟨x, 5, none⟩)) rfl (by kernel_rfl) (by decide +kernel) (by decide +kernel) (fun _ _ _ h => h) (Or.inl ⟨by rfl, fun w' hSw => ?_⟩) hHeld ?_
                  · (go_simp)
                  simp only [Act.put, List.getElem_toArray, List.getElem_cons_zero, List.setIfInBounds_toArray, List.set_cons_zero, List.set_cons_succ]
                  refine wpAnyH_take (i := 1) (v := .slice A i c) rfl (by kernel_rfl) (by decide +kernel) (by decide +kernel) (fun _ _ _ h => h) (Or.inl ⟨by rfl, fun w' hSw => ?_⟩) hHeld ?_
                  · (go_simp)
                  simp only [Act.put, List.getElem_toArray, List.getElem_cons_succ, List.getElem_cons_zero, List.setIfInBounds_toArray, List.set_cons_zero, List.set_cons_succ]
                  refine wpAnyH_take (i := 2) (v := .pointer (some ⟨rb, 0, none⟩)) rfl (by kernel_rfl) (by decide +kernel) (by decide +kernel) (fun _ _ _ h => h) (Or.inl ⟨by rfl, fun w' hSw => ?_⟩) hHeld ?_
                  · (go_simp)
                  simp only [Act.put, List.getElem_toArray, List.getElem_cons_succ, List.getElem_cons_zero, List.setIfInBounds_toArray, List.set_cons_zero, List.set_cons_succ]
                  refine wpAnyH_take (i := 3) (v := .int .i64 y.a) rfl (by kernel_rfl) (by decide +kernel) (by decide +kernel) (fun _ _ _ h => h) (Or.inl ⟨by rfl, fun w' hSw => ?_⟩) hHeld ?_
                  · (go_simp)
                  simp only [Act.put, List.getElem_toArray, List.getElem_cons_succ, List.getElem_cons_zero, List.setIfInBounds_toArray, List.set_cons_zero, List.set_cons_succ]
                  refine wpAnyH_take (i := 4) (v := .pointer (some ⟨rb, 1, none⟩)) rfl (by kernel_rfl) (by decide +kernel) (by decide +kernel) (fun _ _ _ h => h) (Or.inl ⟨by rfl, fun w' hSw => ?_⟩) hHeld ?_
                  · (go_simp)
                  simp only [Act.put, List.getElem_toArray, List.getElem_cons_succ, List.getElem_cons_zero, List.setIfInBounds_toArray, List.set_cons_zero, List.set_cons_succ]
                  refine wpAnyH_take (i := 5) (v := .int .i64 y.n) rfl (by kernel_rfl) (by decide +kernel) (by decide +kernel) (fun _ _ _ h => h) (Or.inl ⟨by rfl, fun w' hSw => ?_⟩) hHeld ?_
                  · (go_simp)
                  simp only [Act.put, List.getElem_toArray, List.getElem_cons_succ, List.getElem_cons_zero, List.setIfInBounds_toArray, List.set_cons_zero, List.set_cons_succ]
                  refine wpAnyH_ready (rs := [6]) (by decide +kernel) (by simp) (AllReadyH.cons rfl (fun K hK => ?_) AllReadyH.nil)
                  simp only [List.getElem_toArray, List.getElem_cons_succ, List.getElem_cons_zero]
                  rw [if_pos (by rfl)]
                  go_simp
                  go_at_call 74
                  refine (CP.out _).mono ?_
                  rintro e V3 ⟨rfl, k3⟩
                  refine hK.out _ _ ⟨Bg.cell_on k3 hHeld.1, Bg.cell_on k3 hHeld.2.1, Bg.cell_on k3 hHeld.2.2⟩ (fun hHeld => ?_)
                  clear hK K
                  have k3 := (show Kept Old V2 V3 from (Kept.refl Old V2).drew.trans k3)
                  have B3 := Lib.hid (B2.out.kept k3 (fun z => z))
                  have O3 := Lib.hid (O2.out.old k3)
                  have Z3 := Lib.hid (Z2.out.kept k3 (fun z => z))
                  have K3 := Lib.hid (K2.out.join k3 (fun _ _ z => z.elim))
                  clear k3 B2 O2 K2 Z2
                  refine wpAnyH_ready (rs := [7]) (by decide +kernel) (by simp) (AllReadyH.cons rfl (fun K hK => ?_) AllReadyH.nil)
                  simp only [List.getElem_toArray, List.getElem_cons_succ, List.getElem_cons_zero]
                  rw [if_pos (by rfl)]
                  go_simp
                  refine hK.out _ _ ⟨Bg.cell_on ((Kept.refl Old V3).alloc _) hHeld.1, Bg.cell_on ((Kept.refl Old V3).alloc _) hHeld.2.1, Bg.cell_on ((Kept.refl Old V3).alloc _) hHeld.2.2⟩ (fun hHeld => ?_)
                  clear hK K
                  have R4 := Lib.hid (Pc.Rs.one V3 (y.a, wordsI y.n) FP.out.1 FP.out.2 _ rfl)
                  have B4 := Lib.hid (B3.out.alloc (.cells #[.int .i64 ((y.a, wordsI y.n)).1, .int .i64 ((y.a, wordsI y.n)).2] 54))
                  have O4 := Lib.hid (O3.out.alloc (.cells #[.int .i64 ((y.a, wordsI y.n)).1, .int .i64 ((y.a, wordsI y.n)).2] 54))
                  have Z4 := Lib.hid (Z3.out.alloc (.cells #[.int .i64 ((y.a, wordsI y.n)).1, .int .i64 ((y.a, wordsI y.n)).2] 54))
                  have K4 := Lib.hid (K3.out.alloc (.cells #[.int .i64 ((y.a, wordsI y.n)).1, .int .i64 ((y.a, wordsI y.n)).2] 54))
                  have hv := Lib.hid (Nat.le_trans K4.out.size (Nat.le_refl _))
                  refine wpAnyH_ready (rs := [8]) (by decide +kernel) (by simp) (AllReadyH.cons rfl (fun K hK => ?_) AllReadyH.nil)
                  refine Pc.app_step rfl (.tmp 89) (.tmp 95) rfl rfl U6.heap.size (.slice A i c) i ((liveP live).take i) (by first | rfl | simp [Act.eval]) O4.out (some ⟨V3.heap.size, 0, none⟩) 1 1 [(y.a, wordsI y.n)] (by first | rfl | simp [Act.eval]) R4.out (fun h => by cases h) (by omega) (by omega) hv.out (i + 1) rfl ((liveP live).take (i + 1)) nx.out ?_
                  intro v5 V5 O5 k5 a5
                  obtain ⟨A5, c5, rfl, _⟩ := O5.out.rs
                  have hown := Lib.hid O4.out.own
                  have XB := B4.out.kept k5.out (fun e => by have := (hown.out x e).1; have := hxl.out; omega)
                  have x5 := XB.cell 5
                  have g5 := XB.frozen 5
                  have ZB := Z4.out.kept k5.out (fun e => by have := OB.out rb e; omega)
                  have z0 := ZB.cell 0
                  have z1 := ZB.cell 1
                  simp only [List.getElem?_cons_succ, List.getElem?_cons_zero] at x5 z0 z1
                  have XB := Lib.hid XB
                  refine hK.out _ _ ⟨x5, z0, z1⟩ (fun hHeld => ?_)
                  clear hK K
                  refine wpAnyH_take (i := 9) (v := .pointer (some ⟨x, 5, none⟩)) rfl (by kernel_rfl) (by decide +kernel) (by decide +kernel) (fun _ _ _ h => h) (Or.inl ⟨by rfl, fun w' hSw => ?_⟩) hHeld ?_
                  · (go_simp)
                  simp only [Act.put, List.getElem_toArray, List.getElem_cons_succ, List.getElem_cons_zero, List.setIfInBounds_toArray, List.set_cons_zero, List.set_cons_succ]
                  refine wpAnyH_done (by decide +kernel) ?_ _
                  unfold LastQ
                  refine wpOp_step rfl (fun K hK => ?_)
                  simp only [List.getElem_toArray, List.getElem_cons_succ, List.getElem_cons_zero]
                  rw [if_pos (by rfl)]
                  go_simp
                  refine hK _ _ ?_
                  clear hK K
                  have B6 := Lib.hid (XB.out.put 5 (.slice A5 (i + 1) c5))
                  have O6 := Lib.hid (O5.out.kept (only_setCell V5 x 5 (.slice A5 (i + 1) c5)) (fun j hj e => by have e : j = x := e; have := hxl.out; omega))
                  have K6 := Lib.hid ((K4.out.join k5.out (fun j hj e => by have := (hown.out j e).1; omega)).trans (only_setCell V5 x 5 (.slice A5 (i + 1) c5)))
                  clear px hHeld x5 g5
                  go_wp2_with fail
                  exact ⟨⟨i + 1, A5, c5, by omega, by go_num, B6, O6, K6⟩, by simp [intOf]; omega⟩
                · have ci' : ¬ ((i : Int) < ((live.length : Nat) : Int)) := by omega
                  have O5' := Lib.hid (show OwB U7 U6.heap.size U7.heap.size (.slice A i c) i (liveP live) from ⟨by have h := O1.out; rwa [take_all (by unfold liveP; rw [List.length_map]; omega)] at h, fun b e => (O1.out.own b e).2⟩)
                  have O0 := Lib.hid (O0.out.fr K1.out (fun b h1' h2' e => by have e : b = x := e; have := h0.out; omega))
                  have O3' := Lib.hid (O3'.out.fr K1.out (fun b h1' h2' e => by have e : b = x := e; have := h3.out; omega))
                  have O4' := Lib.hid (O4'.out.fr K1.out (fun b h1' h2' e => by have e : b = x := e; have := h4.out; omega))
                  have S11 := Lib.hid (S11.out.fr K1.out (fun b h1' h2' e => by have e : b = x := e; have := hA.out; omega))
                  have S12 := Lib.hid (S12.out.fr K1.out (fun b h1' h2' e => by have e : b = x := e; omega))
                  have KX := Lib.hid (KX.out.trans K1.out)
                  have zD := Lib.hid K1.out.size
                  have h5 := hxl
                  have PB := B1
                  have K7 := Lib.hid K1.out.size
                  clear B1 O1 K1 wi ci hxl
                  have i5 := Lib.hid (show i ≤ 600 from by omega)
                  generalize hv5 : Value.slice A i c = v5 at *
                  clear hv5 hi
                  have ND := Lib.hid (apartA VW.out.iq.inv VW.out.outsO)
                  have px3 := PB.out.cell 3
                  simp only [List.getElem?_cons_succ, List.getElem?_cons_zero] at px3
                  obtain ⟨_, nd2, _⟩ := List.pairwise_append.1 ND.out
                  obtain ⟨nd1, nd3, _⟩ := List.pairwise_append.1 nd2
                  obtain ⟨nd3, nd4, _⟩ := List.pairwise_append.1 nd3
                  obtain ⟨nd4, _, _⟩ := List.pairwise_append.1 nd4
                  have nd3 := Lib.hid nd3
                  have nd4 := Lib.hid nd4
                  clear nd1 nd2 ND
                  go_wp2_with fail
                  have S10 := Lib.hid O0.out.rd
                  have S15 := Lib.hid O5'.out.rd
                  have KF := Lib.hid (Kept.refl (fun b => x < b) U7)
                  refine (asc_any O3'.out.ow nd3.out (by have := i3.out; have := nbl; omega)).mono ?_
                  rintro e Y3 ⟨rfl, M3, a3, cc3, ev3, so3, r3, hc3, k3⟩
                  have own3 := Lib.hid O3'.out.own
                  have RD3 := Lib.hid (show RdB Y3 U2.heap.size U5.heap.size v3 M3 from ⟨⟨_, _, _, ev3, r3, hc3⟩, own3.out⟩)
                  have so3 := Lib.hid so3
                  have S10 := Lib.hid (S10.out.fr k3 (fun b h1' h2' e => by have := own3.out b e; have := hA.out; have := hW.out; have := h0.out; have := h3.out; have := h4.out; have := h5.out; have := zA.out; have := zB.out; have := zC.out; have := zD.out; omega))
                  have S11 := Lib.hid (S11.out.fr k3 (fun b h1' h2' e => by have := own3.out b e; have := hA.out; have := hW.out; have := h0.out; have := h3.out; have := h4.out; have := h5.out; have := zA.out; have := zB.out; have := zC.out; have := zD.out; omega))
                  have S12 := Lib.hid (S12.out.fr k3 (fun b h1' h2' e => by have := own3.out b e; have := hA.out; have := hW.out; have := h0.out; have := h3.out; have := h4.out; have := h5.out; have := zA.out; have := zB.out; have := zC.out; have := zD.out; omega))
                  have S15 := Lib.hid (S15.out.fr k3 (fun b h1' h2' e => by have := own3.out b e; have := hA.out; have := hW.out; have := h0.out; have := h3.out; have := h4.out; have := h5.out; have := zA.out; have := zB.out; have := zC.out; have := zD.out; omega))
                  have O4' := Lib.hid (O4'.out.fr k3 (fun b h1' h2' e => by have := own3.out b e; have := hA.out; have := hW.out; have := h0.out; have := h3.out; have := h4.out; have := h5.out; have := zA.out; have := zB.out; have := zC.out; have := zD.out; omega))
                  have PB := Lib.hid (PB.out.kept k3 (fun e => by have := own3.out x e; have := hA.out; have := hW.out; have := h0.out; have := h3.out; have := h4.out; have := h5.out; have := zA.out; have := zB.out; have := zC.out; have := zD.out; omega))
                  have KF := Lib.hid (KF.out.trans (k3.mono fun b e => by have := own3.out b e; have := hA.out; have := hW.out; have := h0.out; have := h3.out; have := h4.out; have := h5.out; have := zA.out; have := zB.out; have := zC.out; have := zD.out; omega))
                  clear r3 k3 ev3 hc3 O3' px3
                  have px4 := PB.out.cell 4
                  simp only [List.getElem?_cons_succ, List.getElem?_cons_zero] at px4
                  go_wp2_with fail
                  refine (asc_any O4'.out.ow nd4.out (by have := i4.out; omega)).mono ?_
                  rintro e Y4 ⟨rfl, M4, a4, cc4, ev4, so4, r4, hc4, k4⟩
                  have own4 := Lib.hid O4'.out.own
                  have RD4 := Lib.hid (show RdB Y4 U5.heap.size U6.heap.size v4 M4 from ⟨⟨_, _, _, ev4, r4, hc4⟩, own4.out⟩)
                  have so4 := Lib.hid so4
                  have S10 := Lib.hid (S10.out.fr k4 (fun b h1' h2' e => by have := own4.out b e; have := hA.out; have := hW.out; have := h0.out; have := h3.out; have := h4.out; have := h5.out; have := zA.out; have := zB.out; have := zC.out; have := zD.out; omega))
                  have S11 := Lib.hid (S11.out.fr k4 (fun b h1' h2' e => by have := own4.out b e; have := hA.out; have := hW.out; have := h0.out; have := h3.out; have := h4.out; have := h5.out; have := zA.out; have := zB.out; have := zC.out; have := zD.out; omega))
                  have S12 := Lib.hid (S12.out.fr k4 (fun b h1' h2' e => by have := own4.out b e; have := hA.out; have := hW.out; have := h0.out; have := h3.out; have := h4.out; have := h5.out; have := zA.out; have := zB.out; have := zC.out; have := zD.out; omega))
                  have S15 := Lib.hid (S15.out.fr k4 (fun b h1' h2' e => by have := own4.out b e; have := hA.out; have := hW.out; have := h0.out; have := h3.out; have := h4.out; have := h5.out; have := zA.out; have := zB.out; have := zC.out; have := zD.out; omega))
                  have RD3 := Lib.hid (RD3.out.fr k4 (fun b h1' h2' e => by have := own4.out b e; have := hA.out; have := hW.out; have := h0.out; have := h3.out; have := h4.out; have := h5.out; have := zA.out; have := zB.out; have := zC.out; have := zD.out; omega))
                  have PB := Lib.hid (PB.out.kept k4 (fun e => by have := own4.out x e; have := hA.out; have := hW.out; have := h0.out; have := h3.out; have := h4.out; have := h5.out; have := zA.out; have := zB.out; have := zC.out; have := zD.out; omega))
                  have KF := Lib.hid (KF.out.trans (k4.mono fun b e => by have := own4.out b e; have := hA.out; have := hW.out; have := h0.out; have := h3.out; have := h4.out; have := h5.out; have := zA.out; have := zB.out; have := zC.out; have := zD.out; omega))
                  clear r4 k4 ev4 hc4 O4' px4
                  obtain ⟨Aq0, nq0, cq0, eq0, _, _⟩ := S10.out.rd
                  subst eq0
                  obtain ⟨Aq1, nq1, cq1, eq1, _, _⟩ := S11.out.rd
                  obtain ⟨rfl, rfl, rfl⟩ : Ap = Aq1 ∧ np = nq1 ∧ cp = cq1 := by injection eq1 with q1 q2 q3; exact ⟨q1, q2, q3⟩
                  obtain ⟨Aq2, nq2, cq2, eq2, _, _⟩ := S12.out.rd
                  obtain ⟨rfl, rfl, rfl⟩ : Ac = Aq2 ∧ nc = nq2 ∧ cc = cq2 := by injection eq2 with q1 q2 q3; exact ⟨q1, q2, q3⟩
                  obtain ⟨Aq3, nq3, cq3, eq3, _, _⟩ := RD3.out.rd
                  subst eq3
                  obtain ⟨Aq4, nq4, cq4, eq4, _, _⟩ := RD4.out.rd
                  subst eq4
                  obtain ⟨Aq5, nq5, cq5, eq5, _, _⟩ := S15.out.rd
                  subst eq5
                  have pz0 := PB.out.cell 0
                  have pz1 := PB.out.cell 1
                  have pz2 := PB.out.cell 2
                  have pz3 := PB.out.cell 3
                  have pz4 := PB.out.cell 4
                  have pz5 := PB.out.cell 5
                  have pz6 := PB.out.cell 6
                  simp only [List.getElem?_cons_succ, List.getElem?_cons_zero] at pz0 pz1 pz2 pz3 pz4 pz5 pz6
                  have TB := (T0.out.kept KX.out (fun e => by have e : W.heap.size = x := e; have := hx0.out; omega)).kept KF.out (fun e => by have e : x < W.heap.size := e; have := hx0.out; omega)
                  have fz0 := TB.frozen 0
                  have fz1 := TB.frozen 1
                  have fz2 := TB.frozen 2
                  have fz3 := TB.frozen 3
                  have fz4 := TB.frozen 4
                  have fz5 := TB.frozen 5
                  have fz6 := TB.frozen 6
                  have tz0 := TB.cell 0
                  have tz1 := TB.cell 1
                  have tz2 := TB.cell 2
                  have tz3 := TB.cell 3
                  have tz4 := TB.cell 4
                  have tz5 := TB.cell 5
                  have tz6 := TB.cell 6
                  simp only [List.getElem?_cons_succ, List.getElem?_cons_zero] at tz0 tz1 tz2 tz3 tz4 tz5 tz6
                  have TB := Lib.hid TB
                  go_wp2_with fail
                  have ZB := ((((((TB.out.put 0 (.slice Aq0 nq0 cq0)).put 1 (.slice Ap np cp)).put 2 (.slice Ac nc cc)).put 3 (.slice Aq3 nq3 cq3)).put 4 (.slice Aq4 nq4 cq4)).put 5 (.slice Aq5 nq5 cq5)).put 6 nilS
                  have KZ : Kept (Only W.heap.size) Y4 (((((((Y4.setCell ⟨W.heap.size, 0, none⟩ (.slice Aq0 nq0 cq0)).setCell ⟨W.heap.size, 1, none⟩ (.slice Ap np cp)).setCell ⟨W.heap.size, 2, none⟩ (.slice Ac nc cc)).setCell ⟨W.heap.size, 3, none⟩ (.slice Aq3 nq3 cq3)).setCell ⟨W.heap.size, 4, none⟩ (.slice Aq4 nq4 cq4)).setCell ⟨W.heap.size, 5, none⟩ (.slice Aq5 nq5 cq5)).setCell ⟨W.heap.size, 6, none⟩ nilS) := ((((((only_setCell _ _ _ _).trans (only_setCell _ _ _ _)).trans (only_setCell _ _ _ _)).trans (only_setCell _ _ _ _)).trans (only_setCell _ _ _ _)).trans (only_setCell _ _ _ _)).trans (only_setCell _ _ _ _)
                  have KO : Kept Old W (((((((Y4.setCell ⟨W.heap.size, 0, none⟩ (.slice Aq0 nq0 cq0)).setCell ⟨W.heap.size, 1, none⟩ (.slice Ap np cp)).setCell ⟨W.heap.size, 2, none⟩ (.slice Ac nc cc)).setCell ⟨W.heap.size, 3, none⟩ (.slice Aq3 nq3 cq3)).setCell ⟨W.heap.size, 4, none⟩ (.slice Aq4 nq4 cq4)).setCell ⟨W.heap.size, 5, none⟩ (.slice Aq5 nq5 cq5)).setCell ⟨W.heap.size, 6, none⟩ nilS) := ((KW.out U7 KX.out).join KF.out (fun i hi e => by have := hx0.out; omega)).join KZ (fun i hi e => by have e : i = W.heap.size := e; omega)
                  have zr0 := ZB.cell 0
                  have zr1 := ZB.cell 1
                  have zr2 := ZB.cell 2
                  have zr3 := ZB.cell 3
                  have zr4 := ZB.cell 4
                  have zr5 := ZB.cell 5
                  have zr6 := ZB.cell 6
                  simp only [List.set_cons_zero, List.set_cons_succ, List.getElem?_cons_succ, List.getElem?_cons_zero] at zr0 zr1 zr2 zr3 zr4 zr5 zr6
                  have OUT : PartsPost W nw k ca live (.returned (.agg #[(.slice Aq0 nq0 cq0), (.slice Ap np cp), (.slice Ac nc cc), (.slice Aq3 nq3 cq3), (.slice Aq4 nq4 cq4), (.slice Aq5 nq5 cq5), nilS])) (((((((Y4.setCell ⟨W.heap.size, 0, none⟩ (.slice Aq0 nq0 cq0)).setCell ⟨W.heap.size, 1, none⟩ (.slice Ap np cp)).setCell ⟨W.heap.size, 2, none⟩ (.slice Ac nc cc)).setCell ⟨W.heap.size, 3, none⟩ (.slice Aq3 nq3 cq3)).setCell ⟨W.heap.size, 4, none⟩ (.slice Aq4 nq4 cq4)).setCell ⟨W.heap.size, 5, none⟩ (.slice Aq5 nq5 cq5)).setCell ⟨W.heap.size, 6, none⟩ nilS) := ⟨_, _, L1, L2, M3, M4, _, rfl, ⟨_, _, _, _, _, _, _, rfl, (S10.out.fr KZ (fun b h1' h2' e => by have e : b = W.heap.size := e; have := hx0.out; have := hA.out; have := hW.out; have := h0.out; have := h3.out; have := h4.out; have := h5.out; have := zA.out; have := zB.out; have := zC.out; have := zD.out; omega)).rd, (S11.out.fr KZ (fun b h1' h2' e => by have e : b = W.heap.size := e; have := hx0.out; have := hA.out; have := hW.out; have := h0.out; have := h3.out; have := h4.out; have := h5.out; have := zA.out; have := zB.out; have := zC.out; have := zD.out; omega)).rd, (S12.out.fr KZ (fun b h1' h2' e => by have e : b = W.heap.size := e; have := hx0.out; have := hA.out; have := hW.out; have := h0.out; have := h3.out; have := h4.out; have := h5.out; have := zA.out; have := zB.out; have := zC.out; have := zD.out; omega)).rd, (RD3.out.fr KZ (fun b h1' h2' e => by have e : b = W.heap.size := e; have := hx0.out; have := hA.out; have := hW.out; have := h0.out; have := h3.out; have := h4.out; have := h5.out; have := zA.out; have := zB.out; have := zC.out; have := zD.out; omega)).rd, (RD4.out.fr KZ (fun b h1' h2' e => by have e : b = W.heap.size := e; have := hx0.out; have := hA.out; have := hW.out; have := h0.out; have := h3.out; have := h4.out; have := h5.out; have := zA.out; have := zB.out; have := zC.out; have := zD.out; omega)).rd, (S15.out.fr KZ (fun b h1' h2' e => by have e : b = W.heap.size := e; have := hx0.out; have := hA.out; have := hW.out; have := h0.out; have := h3.out; have := h4.out; have := h5.out; have := zA.out; have := zB.out; have := zC.out; have := zD.out; omega)).rd, Reads.nil _⟩, ⟨rfl, sp1.out, sp2.out, so3.out, so4.out, rfl⟩, KO⟩
                  have NEW : NewV W (.returned (.agg #[(.slice Aq0 nq0 cq0), (.slice Ap np cp), (.slice Ac nc cc), (.slice Aq3 nq3 cq3), (.slice Aq4 nq4 cq4), (.slice Aq5 nq5 cq5), nilS])) := fun vs e u hu b hb => by
                    injection e with e
                    injection e with e
                    subst e
                    simp only [List.mem_cons, List.not_mem_nil, or_false] at hu
                    have := hx0.out; have := hA.out; have := hW.out; have := h0.out; have := h3.out; have := h4.out; have := h5.out; have := zA.out; have := zB.out; have := zC.out; have := zD.out
                    rcases hu with rfl | rfl | rfl | rfl | rfl | rfl | rfl
                    · have q := S10.out.blk b hb; omega
                    · have q := S11.out.blk b hb; omega
                    · have q := S12.out.blk b hb; omega
                    · have q := RD3.out.blk b hb; omega
                    · have q := RD4.out.blk b hb; omega
                    · have q := S15.out.blk b hb; omega
                    · cases hb
                  exact bodyPost_ret (v := .agg #[(.slice Aq0 nq0 cq0), (.slice Ap np cp), (.slice Ac nc cc), (.slice Aq3 nq3 cq3), (.slice Aq4 nq4 cq4), (.slice Aq5 nq5 cq5), nilS]) (by simp [results, Tryz.results25, go_sem, zr0, zr1, zr2, zr3, zr4, zr5, zr6]) rfl ⟨OUT, NEW⟩
theorem sparts_any (hn : pl.nw = nw) (n6 : nw ≤ 6) (m : StM w0 W s P k ca live F pl) (v : Sq P nw k ca live) : Calls Tryz.prog 25 #[ptr s] W (PartsPost W nw k ca live) := (sparts_new hn n6 m v).mono fun _ _ h => h.1
end calls
end Go.Proofs.YtcndilpaijapkaaGreat.Shp
