/-
  Joined texts of ShpG; own work.
-/
import Derived.Test.YtcndilpaijapkaaGreatRows
import Derived.WalkKit
import Derived.ProofKit
import Derived.OpenShut
import Derived.Outline
import Derived.Deep.Light
import Derived.Deep.QuietTactic
import Derived.BigQuiet
import Derived.IntWalk
import Derived.StillTailTactics
import Derived.RegionTactic
import Derived.Deep.RegionLaw
import Derived.Deep.RegionHeld3
import Derived.Test.YtcndilpaijapkaaGreatJShpA
import Derived.Test.YtcndilpaijapkaaGreatJShpAsc
import Derived.Test.YtcndilpaijapkaaGreatJShpF
/- A shop's pooled: the free stacks of the pools as pieces, in ascending order. Own work; proved by a walk through the landed text. -/
namespace Go.Proofs.YtcndilpaijapkaaGreat.Shp
open Sto
open Go.ChangeShapes Go.WideShapes Go.ChangeAt Go.RowKit
set_option maxRecDepth 100000

theorem take_next {α : Type} {l : List α} {i : Nat} {y : α} (h : l[i]? = some y) : l.take i ++ [y] = l.take (i + 1) := (Prt.take_at h).symm
theorem map_at {α β : Type} {f : α → β} {l : List α} {i : Nat} {y : α} (h : l[i]? = some y) : (l.map f)[i]? = some (f y) := by rw [List.getElem?_map, h]; rfl
theorem take_all {α : Type} {l : List α} {n : Nat} (h : l.length ≤ n) : l.take n = l := List.take_of_length_le h
theorem kept_new {W X V : World} {x : Nat} (h : Kept Old W X) (k : Kept (Only x) X V) (hx : W.heap.size ≤ x) : Kept Old W V := h.join k (fun i hi e => by have e : i = x := e; omega)
theorem apartA {P : Nat} {k : K} {O : Int → Int → Prop} {outs : List (Int × Int)} (h : Inv P k O) (o : Outs O outs) : (allP k outs).Pairwise (fun x y => x.1 ≠ y.1) := by
  refine (h.pieces o).imp_of_mem ?_
  intro x y hx hy d
  have a := h.fits o x hx
  have b := h.fits o y hy
  have d : x.1 + x.2 ≤ y.1 ∨ y.1 + y.2 ≤ x.1 := d
  omega
theorem poolTo_len {p : Nat → List Prt.Q} (h : ∀ c, c < 4 → (Prt.freeL (p c)).length ≤ 512) : ∀ q, (poolTo p q).length ≤ (if q ≤ 4 then q else 4) * 512
  | 0 => Nat.zero_le _
  | q + 1 => by
    have ih := poolTo_len h q
    rw [poolTo_free, List.length_append, List.length_map]
    unfold freeC
    by_cases c : q < 4
    · have := h q c
      rw [if_pos c]
      rw [if_pos (by omega)] at ih
      rw [if_pos (by omega)]
      omega
    · rw [if_neg c, List.length_nil, if_neg (by omega)]
      by_cases d : q = 4
      · subst d; simpa using ih
      · rw [if_neg (by omega)] at ih; omega
theorem poolTo_lim {p : Nat → List Prt.Q} (h : ∀ c, c < 4 → (Prt.freeL (p c)).length ≤ 512) (q : Nat) : (poolTo p q).length ≤ 2048 := by
  have := poolTo_len h q
  split at this <;> omega
theorem Sq.outsO {P nw : Nat} {k : K} {ca : Ca} {live : List Lm.S} (h : Sq P nw k ca live) : Outs (fun a c => (a, c) ∈ outs nw ca live) (outs nw ca live) := ⟨fun _ _ => Iff.rfl, h.iq.nd⟩
section calls
variable {w0 W : World} {s P nw : Nat} {k : K} {ca : Ca} {live : List Lm.S} {F : Nat → Prop} {pl : Pl}
def pvC (pl : Pl) (q : Nat) : Value := if q < 4 then ptr (pl.pq q) else nilp
theorem index_at (pl : Pl) {q : Nat} (h : q < 8) (V : World) : (Instr.index 83 (.agg #[ptr (pl.pq 0), ptr (pl.pq 1), ptr (pl.pq 2), ptr (pl.pq 3), nilp, nilp, nilp, nilp]) (.int .i64 (q : Int))).run Tryz.prog V = .ok (pvC pl q) V := by
  rcases (show q = 0 ∨ q = 1 ∨ q = 2 ∨ q = 3 ∨ q = 4 ∨ q = 5 ∨ q = 6 ∨ q = 7 by omega) with rfl | rfl | rfl | rfl | rfl | rfl | rfl | rfl <;> rfl
theorem pfree_any (m : StM w0 W s P k ca live F pl) {O : Int → Int → Prop} (v : Inv P k O) (q : Nat) : Calls Tryz.prog 115 #[pvC pl q, ptr pl.a] W fun e w' => ∃ v', e = .returned v' ∧ MadeI (NI (freeC k.p q)) W v' w' := by
  unfold pvC freeC
  by_cases h : q < 4
  · rw [if_pos h, if_pos h]
    exact Prt.free_any W (m.pt q h).pt m.ar.ar (v.good q h) (by have := v.pages; omega) (m.ch q h)
  · rw [if_neg h, if_neg h]
    refine (Prt.free_nil W).mono ?_
    rintro e w' ⟨rfl, rfl⟩
    exact ⟨_, rfl, none, 0, 0, rfl, RsI.nil _ _, Nat.le_refl _, ⟨fun _ => rfl, fun _ h => by cases h⟩, Kept.refl _ _⟩
/-- A list in ascending order, in new memory. -/
def ListedPost (W : World) (L : List Pc) (e : Ending) (W' : World) : Prop := ∃ v M, e = .returned v ∧ RdB W' W.heap.size W'.heap.size v M ∧ SortOf L M ∧ Kept Old W W'
/-- One more piece is told. -/
theorem piece_fit (a c : Int) (h : -9223372036854775808 ≤ a ∧ a < 9223372036854775808) : Pc.in64 ((a, wordsI c) : Pc).1 ∧ Pc.in64 ((a, wordsI c) : Pc).2 := ⟨⟨by simp only; omega, by simp only; omega⟩, by have := wordsI_lim c; exact ⟨by simp only; omega, by simp only; omega⟩⟩
set_option maxHeartbeats 8000000 in
theorem pooled_any (m : StM w0 W s P k ca live F pl) (v : Sq P nw k ca live) : Calls Tryz.prog 70 #[ptr s] W (ListedPost W (poolP k.p)) := by
  have hf := Lib.hid (fun (c : Nat) (hc : c < 4) => (show (Prt.freeL (k.p c)).length ≤ 512 from by have := Prt.freeL_len (v.iq.inv.good c hc); have := (v.iq.inv.good c hc).len; have := v.iq.inv.pages; omega))
  have PS := Lib.hid stack_piece
  have ND := apartA v.iq.inv v.outsO
  have nd := (List.pairwise_append.1 ND).2.1
  have nd := Lib.hid (List.pairwise_append.1 nd).1
  have s2 := m.c 2
  have s3 := m.c 3
  have s4 := m.c 4
  have s5 := m.c 5
  have s6 := m.c 6
  have s7 := m.c 7
  have s8 := m.c 8
  have s9 := m.c 9
  have MW := Lib.hid m
  have VW := Lib.hid v
  clear m v ND
  go_enter Tryz.func70, Tryz.ntmps70
  go_wp2_with fail
  clear s2 s3 s4 s5 s6 s7 s8 s9
  go_loopw [3, 12] (fun sv sl wr => ∃ (q : Nat) (A : Option Addr) (n c : Nat), q ≤ 8 ∧ sv = .slice A n c ∧ sl = .int .i64 (q : Int) ∧ Hid (Pc.Ow wr W.heap.size (.slice A n c) n (poolTo k.p q)) ∧ Hid (Kept Old W wr)) (fun _ sl _ => 9 - (intOf sl).toNat)
  case atStart => exact ⟨0, none, 0, 0, Nat.zero_le _, rfl, rfl, Lib.hid (Pc.Ow.nil _ _), Lib.hid (Kept.refl _ _)⟩
  case round =>
    obtain ⟨q, A, n, c, hq, rfl, rfl, O1, K1⟩ := hrel
    rename World => U
    have wq : IntKind.i64.wrap ((q : Int) + 1) = (q : Int) + 1 := IntWalk.i64_in _ (by omega)
    have nq : n ≤ 2048 := by have := poolTo_lim hf.out q; have := O1.out.len; omega
    by_cases cq : q < 8
    · have cq' : (q : Int) < 8 := by omega
      have MV := Lib.hid (MW.out.old K1.out)
      have s0 : U.cell? ⟨s, 0, none⟩ = some (ptr pl.a) := MV.out.c 0
      have FR := Lib.hid (show Calls Tryz.prog 115 #[pvC pl q, ptr pl.a] U _ from pfree_any MV.out VW.out.iq.inv q)
      have qix := index_at pl cq
      have q0 : ¬ (q : Int) < 0 := by omega
      go_wp2_with fail
      refine FR.out.mono ?_
      rintro e UF ⟨v', rfl, A3, nn, c3, rfl, R3, _, ⟨_, R3n⟩, k3⟩
      have ln3 := R3.lenN
      have n3 : nn ≤ 512 := by
        unfold freeC at ln3
        by_cases h4 : q < 4
        · rw [if_pos h4] at ln3; have := hf.out q h4; omega
        · rw [if_neg h4] at ln3; simp at ln3; omega
      have OP := Lib.hid (O1.out.old k3)
      have KP := Lib.hid (K1.out.trans k3)
      have R3 := Lib.hid R3
      have NP := Lib.hid (show ∀ ad, A3 = some ad → some ad.block ≠ (Value.slice A n c).ownBlock from fun ad e z => by have := R3n ad e; have := (O1.out.own ad.block z).2; omega)
      clear FR MV s0 O1 K1 k3 R3n
      go_wp2_with fail
      go_loopw [3, 23] (fun sv sl wr => ∃ (i : Nat) (A : Option Addr) (c : Nat), i ≤ nn ∧ sv = .slice A (n + i) c ∧ sl = .int .i64 (i : Int) ∧ Hid (Pc.Ow wr W.heap.size (.slice A (n + i) c) (n + i) (poolTo k.p q ++ ((freeC k.p q).map fun (a : Nat) => ((a : Int), wordsI (q : Int))).take i)) ∧ Hid (Kept Old W wr) ∧ Hid (RsI wr A3 nn (NI (freeC k.p q))) ∧ Hid (∀ ad, A3 = some ad → some ad.block ≠ (Value.slice A (n + i) c).ownBlock)) (fun _ sl _ => nn + 1 - (intOf sl).toNat)
      case atStart => exact ⟨0, A, c, Nat.zero_le _, rfl, rfl, by rw [List.take_zero, List.append_nil]; exact OP, KP, R3, NP⟩
      case round =>
        obtain ⟨i, A, c, hi, rfl, rfl, O2, K2, R32, NE⟩ := hrel
        rename World => V
        clear OP KP R3 NP
        have wi : IntKind.i64.wrap ((i : Int) + 1) = (i : Int) + 1 := IntWalk.i64_in _ (by omega)
        by_cases ci : i < nn
        · have ci' : (i : Int) < (nn : Int) := by omega
          obtain ⟨g', o', y, rfl, hg', hy, fy, c0⟩ := R32.out.getN ci
          have nx := Lib.hid (show (poolTo k.p q ++ ((freeC k.p q).map fun (a : Nat) => ((a : Int), wordsI (q : Int))).take i) ++ [((y : Int), wordsI (q : Int))] = poolTo k.p q ++ ((freeC k.p q).map fun (a : Nat) => ((a : Int), wordsI (q : Int))).take (i + 1) from by rw [List.append_assoc, take_next (map_at hy)])
          have FP := Lib.hid (piece_fit (y : Int) (q : Int) ⟨by have := fy.1; omega, by have := fy.2; omega⟩)
          have CP := Lib.hid (fun X => PS.out (y : Int) (q : Int) X)
          clear hy fy
          go_wp2_with fail
          refine (CP.out _).mono ?_
          rintro e V3 ⟨rfl, k3⟩
          have O3 := Lib.hid (O2.out.old k3)
          have K3 := Lib.hid (K2.out.trans k3)
          have R33 := Lib.hid (R32.out.old k3)
          clear k3 O2 K2 R32 c0
          have O4 := Lib.hid (O3.out.alloc (.cells #[.int .i64 (y : Int), .int .i64 (wordsI (q : Int))] 54))
          have K4 := Lib.hid (K3.out.alloc (.cells #[.int .i64 (y : Int), .int .i64 (wordsI (q : Int))] 54))
          have R34 := Lib.hid (R33.out.old ((Kept.refl Old V3).alloc (.cells #[.int .i64 (y : Int), .int .i64 (wordsI (q : Int))] 54)))
          have hv := Lib.hid (show W.heap.size ≤ _ from K4.out.size)
          have PR := Lib.hid (Pc.Rs.one V3 ((y : Int), wordsI (q : Int)) FP.out.1 FP.out.2 _ rfl)
          clear O3 K3 R33 FP
          go_wp2_with (at_builtin; refine Pc.app_wp rfl (.tmp 27) (.tmp 31) rfl rfl W.heap.size (.slice A (n + i) c) (n + i) _ (by first | rfl | simp [Act.eval]) O4.out (some ⟨V3.heap.size, 0, none⟩) 1 1 [((y : Int), wordsI (q : Int))] (by first | rfl | simp [Act.eval]) PR.out (fun h => by cases h) (by omega) (by omega) hv.out (n + (i + 1)) (by omega) _ nx.out ?_; intro v5 V5 O5 k5 a5; obtain ⟨A5, c5, rfl, _⟩ := O5.out.rs)
          have K6 := Lib.hid (K4.out.join k5.out (fun j hj e => by have := (O4.out.own j e).1; omega))
          have R36 := Lib.hid (R34.out.kept k5.out (fun ad e z => NE.out ad e z))
          have NE6 := Lib.hid (show ∀ ad, (some ⟨g', o', none⟩ : Option Addr) = some ad → some ad.block ≠ (Value.slice A5 (n + (i + 1)) c5).ownBlock from fun ad e z => by
            rcases a5.out with y5 | y5
            · rw [y5] at z; exact NE.out ad e z
            · rw [y5] at z
              injection z with z
              obtain ⟨g2, o2, e2, hg2, _⟩ := R34.out.lies (by omega)
              rw [e2] at e
              injection e with e
              rw [← e] at z
              exact absurd (Nat.lt_of_lt_of_le hg2 (Nat.le_of_eq z.symm)) (Nat.lt_irrefl _))
          exact ⟨⟨i + 1, A5, c5, by omega, rfl, by go_num, O5, K6, R36, NE6⟩, by simp [intOf]; omega⟩
        · have ci' : ¬ ((i : Int) < (nn : Int)) := by omega
          obtain rfl : i = nn := by omega
          have O3 := Lib.hid (show Pc.Ow V W.heap.size (.slice A (n + i) c) (n + i) (poolTo k.p (q + 1)) from by rw [poolTo_free]; have h := O2.out; rwa [take_all (by rw [List.length_map]; omega)] at h)
          clear O2 R32 NE hi
          go_wp2_with fail
          exact ⟨⟨q + 1, A, n + i, c, by omega, rfl, by go_num, O3, K2⟩, by simp [intOf]; omega⟩
    · have cq' : ¬ ((q : Int) < 8) := by omega
      obtain rfl : q = 8 := by omega
      have O2 := Lib.hid (show Pc.Ow U W.heap.size (.slice A n c) n (poolP k.p) from by rw [← poolTo_8]; exact O1.out)
      have AS := Lib.hid (asc_any O2.out nd.out (by omega))
      clear O1
      go_wp2_with fail
      refine AS.out.mono ?_
      rintro e Y ⟨rfl, M, a, cc, ev, so, r, hc, ky⟩
      have E := Lib.hid (show ListedPost W (poolP k.p) (.returned (.slice A n c)) Y from ⟨_, M, rfl, ⟨⟨_, _, _, ev, r, hc⟩, fun b e => ⟨(O2.out.own b e).1, Nat.lt_of_lt_of_le (O2.out.own b e).2 ky.size⟩⟩, so, K1.out.join ky (fun j hj e => by have := (O2.out.own j e).1; omega)⟩)
      clear r ky so
      go_wp2_with fail
      go_ret
      exact E.out
end calls
end Go.Proofs.YtcndilpaijapkaaGreat.Shp
/- A shop's cached: the stacks of all caches as pieces, in ascending order. Own work; proved by a walk through the landed text. -/
namespace Go.Proofs.YtcndilpaijapkaaGreat.Shp
open Sto
open Go.ChangeShapes Go.WideShapes Go.ChangeAt Go.RowKit
set_option maxRecDepth 100000

/-- How far the caches have been told. -/
def preC (ca : Ca) (w c : Nat) : Os := ((List.range w).flatMap fun w => (List.range 8).flatMap fun c => pr c (ca w c)) ++ (List.range c).flatMap fun c => pr c (ca w c)
theorem preC_next (ca : Ca) (w c : Nat) : preC ca w (c + 1) = preC ca w c ++ pr c (ca w c) := by
  unfold preC
  rw [List.range_succ (n := c), List.flatMap_append, List.append_assoc]
  simp only [List.flatMap_cons, List.flatMap_nil, List.append_nil]
theorem preC_row (ca : Ca) (w : Nat) : preC ca (w + 1) 0 = preC ca w 8 := by
  unfold preC
  rw [List.range_succ (n := w), List.flatMap_append]
  simp only [List.flatMap_cons, List.flatMap_nil, List.append_nil, List.range_zero]
theorem preC_all {nw : Nat} {ca : Ca} (non : ∀ w c, nw ≤ w ∨ 4 ≤ c → ca w c = []) : preC ca nw 0 = cacheL nw ca := by
  unfold preC cacheL
  have e : (fun w => (List.range 8).flatMap fun c => pr c (ca w c)) = fun w => (List.range 4).flatMap fun c => pr c (ca w c) := by
    funext w
    have r8 : List.range 8 = List.range 4 ++ [4, 5, 6, 7] := rfl
    rw [r8, List.flatMap_append]
    have : ([4, 5, 6, 7] : List Nat).flatMap (fun c => pr c (ca w c)) = [] := by
      simp only [List.flatMap_cons, List.flatMap_nil, List.append_nil]
      rw [non w 4 (.inr (by omega)), non w 5 (.inr (by omega)), non w 6 (.inr (by omega)), non w 7 (.inr (by omega))]
      rfl
    rw [this, List.append_nil]
  rw [e]
  simp
theorem flat_len {α : Type} {f : Nat → List α} {b : Nat} (h : ∀ i, (f i).length ≤ b) : ∀ n, ((List.range n).flatMap f).length ≤ n * b
  | 0 => by simp
  | n + 1 => by
    rw [List.range_succ (n := n), List.flatMap_append, List.length_append]
    have := flat_len h n
    have := h n
    simp only [List.flatMap_cons, List.flatMap_nil, List.append_nil]
    rw [Nat.succ_mul]
    omega
theorem preC_len {P nw : Nat} {k : K} {ca : Ca} {live : List Lm.S} (v : Sq P nw k ca live) (w c : Nat) : (preC ca w c).length ≤ w * 64 + c * 8 := by
  have e : ∀ w c, (pr c (ca w c)).length ≤ 8 := fun w c => by
    unfold pr
    rw [List.length_map]
    by_cases h : c < 4
    · have := v.cap w c h
      unfold batN at this
      omega
    · rw [v.non w c (.inr (by omega))]; exact Nat.zero_le _
  unfold preC
  rw [List.length_append]
  have a := flat_len (f := fun w => (List.range 8).flatMap fun c => pr c (ca w c)) (b := 64) (fun i => flat_len (e i) 8) w
  have b := flat_len (e w) c
  omega
theorem outP_app (a b : Os) : outP (a ++ b) = outP a ++ outP b := List.map_append
theorem outP_pr (c : Nat) (l : List Nat) : outP (pr c l) = l.map fun (a : Nat) => ((a : Int), wordsI (c : Int)) := by
  unfold outP pr
  rw [List.map_map]
  rfl
section calls
variable {w0 W : World} {s P nw : Nat} {k : K} {ca : Ca} {live : List Lm.S} {F : Nat → Prop} {pl : Pl}
theorem cached_at {w c : Nat} (hw : w < nw) (hn : pl.nw = nw) (m : StM w0 W s P k ca live F pl) (v : Sq P nw k ca live) : Calls Tryz.prog 24 #[ptr s, .int .i64 (w : Int), .int .i64 (c : Int)] W (CachedPost (ca w c) W) := by
  by_cases h : c < 4
  · exact cached_yes (by omega) h m (by have := v.cap w c h; unfold batN at this; omega)
  · refine (cached_no (w : Int) (c : Int) m (.inr (smallB_out _ (by omega)))).mono ?_
    rintro e w' ⟨rfl, rfl⟩
    rw [v.non w c (.inr (by omega))]
    exact ⟨_, rfl, none, 0, 0, rfl, RsI.nil _ _, Nat.le_refl _, ⟨fun _ => rfl, fun _ h => by cases h⟩, Kept.refl _ _⟩
set_option maxHeartbeats 8000000 in
theorem cacheds_any (hn : pl.nw = nw) (n6 : nw ≤ 6) (m : StM w0 W s P k ca live F pl) (v : Sq P nw k ca live) : Calls Tryz.prog 71 #[ptr s] W (ListedPost W (outP (cacheL nw ca))) := by
  have PS := Lib.hid stack_piece
  have ND := apartA v.iq.inv v.outsO
  have nd := (List.pairwise_append.1 ND).2.1
  have nd := (List.pairwise_append.1 nd).2.1
  have nd := (List.pairwise_append.1 nd).2.1
  have nd := (List.pairwise_append.1 nd).2.1
  unfold outs at nd
  rw [outP_app] at nd
  have nd := Lib.hid (List.pairwise_append.1 nd).1
  have c10 := m.cc (Same.refl pl)
  rw [hn] at c10
  have HN := Lib.hid hn
  have MW := Lib.hid m
  have VW := Lib.hid v
  clear m v ND hn
  go_enter Tryz.func71, Tryz.ntmps71
  go_wp2_with fail
  go_loopw [3, 14] (fun sv sl wr => ∃ (q : Nat) (A : Option Addr) (n c : Nat), q ≤ nw ∧ sv = .slice A n c ∧ sl = .int .i64 (q : Int) ∧ Hid (Pc.Ow wr W.heap.size (.slice A n c) n (outP (preC ca q 0))) ∧ Hid (Kept Old W wr)) (fun _ sl _ => nw + 1 - (intOf sl).toNat)
  case atStart => exact ⟨0, none, 0, 0, Nat.zero_le _, rfl, rfl, Lib.hid (Pc.Ow.nil _ _), Lib.hid (Kept.refl _ _)⟩
  case round =>
    obtain ⟨q, A, n, c, hq, rfl, rfl, O1, K1⟩ := hrel
    rename World => U
    have wq : IntKind.i64.wrap ((q : Int) + 1) = (q : Int) + 1 := IntWalk.i64_in _ (by omega)
    by_cases cq : q < nw
    · have cq' : (q : Int) < (nw : Int) := by omega
      have q0 : ¬ (q : Int) < 0 := by omega
      have MV := Lib.hid (MW.out.old K1.out)
      have hqn : q < pl.nw := by have := HN.out; omega
      have h0 : U.cell? ⟨pl.cb, q * 16, none⟩ = some (.int .i64 (Prt.headQ (ca q 0) : Int)) := MV.out.hd (pl := pl.re W.heap.size 97) (c := 0) hqn (by omega)
      have g0 : U.cell? ⟨pl.cb, q * 16 + 1, none⟩ = some (.int .i64 ((ca q 0).length : Int)) := MV.out.nm (pl := pl.re W.heap.size 97) (c := 0) hqn (by omega)
      have h1 : U.cell? ⟨pl.cb, q * 16 + 2, none⟩ = some (.int .i64 (Prt.headQ (ca q 1) : Int)) := MV.out.hd (pl := pl.re W.heap.size 97) (c := 1) hqn (by omega)
      have g1 : U.cell? ⟨pl.cb, q * 16 + 3, none⟩ = some (.int .i64 ((ca q 1).length : Int)) := MV.out.nm (pl := pl.re W.heap.size 97) (c := 1) hqn (by omega)
      have h2 : U.cell? ⟨pl.cb, q * 16 + 4, none⟩ = some (.int .i64 (Prt.headQ (ca q 2) : Int)) := MV.out.hd (pl := pl.re W.heap.size 97) (c := 2) hqn (by omega)
      have g2 : U.cell? ⟨pl.cb, q * 16 + 5, none⟩ = some (.int .i64 ((ca q 2).length : Int)) := MV.out.nm (pl := pl.re W.heap.size 97) (c := 2) hqn (by omega)
      have h3 : U.cell? ⟨pl.cb, q * 16 + 6, none⟩ = some (.int .i64 (Prt.headQ (ca q 3) : Int)) := MV.out.hd (pl := pl.re W.heap.size 97) (c := 3) hqn (by omega)
      have g3 : U.cell? ⟨pl.cb, q * 16 + 7, none⟩ = some (.int .i64 ((ca q 3).length : Int)) := MV.out.nm (pl := pl.re W.heap.size 97) (c := 3) hqn (by omega)
      have h4 : U.cell? ⟨pl.cb, q * 16 + 8, none⟩ = some (.int .i64 (Prt.headQ (ca q 4) : Int)) := MV.out.hd (pl := pl.re W.heap.size 97) (c := 4) hqn (by omega)
      have g4 : U.cell? ⟨pl.cb, q * 16 + 9, none⟩ = some (.int .i64 ((ca q 4).length : Int)) := MV.out.nm (pl := pl.re W.heap.size 97) (c := 4) hqn (by omega)
      have h5 : U.cell? ⟨pl.cb, q * 16 + 10, none⟩ = some (.int .i64 (Prt.headQ (ca q 5) : Int)) := MV.out.hd (pl := pl.re W.heap.size 97) (c := 5) hqn (by omega)
      have g5 : U.cell? ⟨pl.cb, q * 16 + 11, none⟩ = some (.int .i64 ((ca q 5).length : Int)) := MV.out.nm (pl := pl.re W.heap.size 97) (c := 5) hqn (by omega)
      have h6 : U.cell? ⟨pl.cb, q * 16 + 12, none⟩ = some (.int .i64 (Prt.headQ (ca q 6) : Int)) := MV.out.hd (pl := pl.re W.heap.size 97) (c := 6) hqn (by omega)
      have g6 : U.cell? ⟨pl.cb, q * 16 + 13, none⟩ = some (.int .i64 ((ca q 6).length : Int)) := MV.out.nm (pl := pl.re W.heap.size 97) (c := 6) hqn (by omega)
      have h7 : U.cell? ⟨pl.cb, q * 16 + 14, none⟩ = some (.int .i64 (Prt.headQ (ca q 7) : Int)) := MV.out.hd (pl := pl.re W.heap.size 97) (c := 7) hqn (by omega)
      have g7 : U.cell? ⟨pl.cb, q * 16 + 15, none⟩ = some (.int .i64 ((ca q 7).length : Int)) := MV.out.nm (pl := pl.re W.heap.size 97) (c := 7) hqn (by omega)
      generalize (Prt.headQ (ca q 0) : Int) = x0 at h0
      generalize ((ca q 0).length : Int) = z0 at g0
      generalize (Prt.headQ (ca q 1) : Int) = x1 at h1
      generalize ((ca q 1).length : Int) = z1 at g1
      generalize (Prt.headQ (ca q 2) : Int) = x2 at h2
      generalize ((ca q 2).length : Int) = z2 at g2
      generalize (Prt.headQ (ca q 3) : Int) = x3 at h3
      generalize ((ca q 3).length : Int) = z3 at g3
      generalize (Prt.headQ (ca q 4) : Int) = x4 at h4
      generalize ((ca q 4).length : Int) = z4 at g4
      generalize (Prt.headQ (ca q 5) : Int) = x5 at h5
      generalize ((ca q 5).length : Int) = z5 at g5
      generalize (Prt.headQ (ca q 6) : Int) = x6 at h6
      generalize ((ca q 6).length : Int) = z6 at g6
      generalize (Prt.headQ (ca q 7) : Int) = x7 at h7
      generalize ((ca q 7).length : Int) = z7 at g7
      have KA : Kept Old U (U.alloc (.cells #[.int .i64 x0, .int .i64 z0, .int .i64 x1, .int .i64 z1, .int .i64 x2, .int .i64 z2, .int .i64 x3, .int .i64 z3, .int .i64 x4, .int .i64 z4, .int .i64 x5, .int .i64 z5, .int .i64 x6, .int .i64 z6, .int .i64 x7, .int .i64 z7] 124)) := (Kept.refl Old U).alloc _
      have O2 := Lib.hid (O1.out.old KA)
      have K2 := Lib.hid (K1.out.trans KA)
      clear O1 K1 KA MV
      go_wp2_with fail
      clear h0 g0 h1 g1 h2 g2 h3 g3 h4 g4 h5 g5 h6 g6 h7 g7
      generalize U.alloc (.cells #[.int .i64 x0, .int .i64 z0, .int .i64 x1, .int .i64 z1, .int .i64 x2, .int .i64 z2, .int .i64 x3, .int .i64 z3, .int .i64 x4, .int .i64 z4, .int .i64 x5, .int .i64 z5, .int .i64 x6, .int .i64 z6, .int .i64 x7, .int .i64 z7] 124) = U1 at *
      have O3 := Lib.hid (show Pc.Ow U1 W.heap.size (.slice A n c) n (outP (preC ca q 0)) from O2.out)
      go_loopw [3, 19] (fun sv sl wr => ∃ (d : Nat) (A : Option Addr) (n c : Nat), d ≤ 8 ∧ sv = .slice A n c ∧ sl = .int .i64 (d : Int) ∧ Hid (Pc.Ow wr W.heap.size (.slice A n c) n (outP (preC ca q d))) ∧ Hid (Kept Old W wr)) (fun _ sl _ => 9 - (intOf sl).toNat)
      case atStart => exact ⟨0, A, n, c, Nat.zero_le _, rfl, rfl, O3, K2⟩
      case round =>
        clear O2 O3 K2
        obtain ⟨d, A, n, c, hd, rfl, rfl, O1, K1⟩ := hrel
        rename World => V0
        have wd : IntKind.i64.wrap ((d : Int) + 1) = (d : Int) + 1 := IntWalk.i64_in _ (by omega)
        have nd2 : n ≤ 2900 := by have := preC_len VW.out q d; have := O1.out.len; unfold outP at this; rw [List.length_map] at this; omega
        by_cases cd : d < 8
        · have cd' : (d : Int) < 8 := by omega
          have FR := Lib.hid (cached_at (pl := pl.re W.heap.size 97) (w := q) (c := d) cq HN.out (MW.out.old K1.out) VW.out)
          have hl8 : (ca q d).length ≤ 8 := by
            by_cases h : d < 4
            · have := VW.out.cap q d h; unfold batN at this; omega
            · rw [VW.out.non q d (.inr (by omega))]; exact Nat.zero_le _
          go_wp2_with fail
          refine FR.out.mono ?_
          rintro e UF ⟨v', rfl, A3, nn, c3, rfl, R3, _, ⟨_, R3n⟩, k3⟩
          have ln3 := R3.lenN
          have OP := Lib.hid (O1.out.old k3)
          have KP := Lib.hid (K1.out.trans k3)
          have R3 := Lib.hid R3
          have NP := Lib.hid (show ∀ ad, A3 = some ad → some ad.block ≠ (Value.slice A n c).ownBlock from fun ad e z => by have := R3n ad e; have := (O1.out.own ad.block z).2; omega)
          clear FR O1 K1 k3 R3n
          go_wp2_with fail
          go_loopw [3, 27] (fun sv sl wr => ∃ (i : Nat) (A : Option Addr) (c : Nat), i ≤ nn ∧ sv = .slice A (n + i) c ∧ sl = .int .i64 (i : Int) ∧ Hid (Pc.Ow wr W.heap.size (.slice A (n + i) c) (n + i) (outP (preC ca q d) ++ ((ca q d).map fun (a : Nat) => ((a : Int), wordsI (d : Int))).take i)) ∧ Hid (Kept Old W wr) ∧ Hid (RsI wr A3 nn (NI (ca q d))) ∧ Hid (∀ ad, A3 = some ad → some ad.block ≠ (Value.slice A (n + i) c).ownBlock)) (fun _ sl _ => nn + 1 - (intOf sl).toNat)
          case atStart => exact ⟨0, A, c, Nat.zero_le _, rfl, rfl, by rw [List.take_zero, List.append_nil]; exact OP, KP, R3, NP⟩
          case round =>
            obtain ⟨i, A, c, hi, rfl, rfl, O2, K2, R32, NE⟩ := hrel
            rename World => V
            clear OP KP R3 NP
            have wi : IntKind.i64.wrap ((i : Int) + 1) = (i : Int) + 1 := IntWalk.i64_in _ (by omega)
            by_cases ci : i < nn
            · have ci' : (i : Int) < (nn : Int) := by omega
              obtain ⟨g', o', y, rfl, hg', hy, fy, c0⟩ := R32.out.getN ci
              have nx := Lib.hid (show (outP (preC ca q d) ++ ((ca q d).map fun (a : Nat) => ((a : Int), wordsI (d : Int))).take i) ++ [((y : Int), wordsI (d : Int))] = outP (preC ca q d) ++ ((ca q d).map fun (a : Nat) => ((a : Int), wordsI (d : Int))).take (i + 1) from by rw [List.append_assoc, take_next (map_at hy)])
              have FP := Lib.hid (piece_fit (y : Int) (d : Int) ⟨by have := fy.1; omega, by have := fy.2; omega⟩)
              have CP := Lib.hid (fun X => PS.out (y : Int) (d : Int) X)
              clear hy fy
              go_wp2_with fail
              refine (CP.out _).mono ?_
              rintro e V3 ⟨rfl, k3⟩
              have O3 := Lib.hid (O2.out.old k3)
              have K3 := Lib.hid (K2.out.trans k3)
              have R33 := Lib.hid (R32.out.old k3)
              clear k3 O2 K2 R32 c0
              have O4 := Lib.hid (O3.out.alloc (.cells #[.int .i64 (y : Int), .int .i64 (wordsI (d : Int))] 54))
              have K4 := Lib.hid (K3.out.alloc (.cells #[.int .i64 (y : Int), .int .i64 (wordsI (d : Int))] 54))
              have R34 := Lib.hid (R33.out.old ((Kept.refl Old V3).alloc (.cells #[.int .i64 (y : Int), .int .i64 (wordsI (d : Int))] 54)))
              have hv := Lib.hid (show W.heap.size ≤ _ from K4.out.size)
              have PR := Lib.hid (Pc.Rs.one V3 ((y : Int), wordsI (d : Int)) FP.out.1 FP.out.2 _ rfl)
              clear O3 K3 R33 FP
              go_wp2_with (at_builtin; refine Pc.app_wp rfl (.tmp 31) (.tmp 35) rfl rfl W.heap.size (.slice A (n + i) c) (n + i) _ (by first | rfl | simp [Act.eval]) O4.out (some ⟨V3.heap.size, 0, none⟩) 1 1 [((y : Int), wordsI (d : Int))] (by first | rfl | simp [Act.eval]) PR.out (fun h => by cases h) (by omega) (by omega) hv.out (n + (i + 1)) (by omega) _ nx.out ?_; intro v5 V5 O5 k5 a5; obtain ⟨A5, c5, rfl, _⟩ := O5.out.rs)
              have K6 := Lib.hid (K4.out.join k5.out (fun j hj e => by have := (O4.out.own j e).1; omega))
              have R36 := Lib.hid (R34.out.kept k5.out (fun ad e z => NE.out ad e z))
              have NE6 := Lib.hid (show ∀ ad, (some ⟨g', o', none⟩ : Option Addr) = some ad → some ad.block ≠ (Value.slice A5 (n + (i + 1)) c5).ownBlock from fun ad e z => by
                rcases a5.out with y5 | y5
                · rw [y5] at z; exact NE.out ad e z
                · rw [y5] at z
                  injection z with z
                  obtain ⟨g2, o2, e2, hg2, _⟩ := R34.out.lies (by omega)
                  rw [e2] at e
                  injection e with e
                  rw [← e] at z
                  exact absurd (Nat.lt_of_lt_of_le hg2 (Nat.le_of_eq z.symm)) (Nat.lt_irrefl _))
              exact ⟨⟨i + 1, A5, c5, by omega, rfl, by go_num, O5, K6, R36, NE6⟩, by simp [intOf]; omega⟩
            · have ci' : ¬ ((i : Int) < (nn : Int)) := by omega
              obtain rfl : i = nn := by omega
              have O3 := Lib.hid (show Pc.Ow V W.heap.size (.slice A (n + i) c) (n + i) (outP (preC ca q (d + 1))) from by rw [preC_next, outP_app, outP_pr]; have h := O2.out; rwa [take_all (by rw [List.length_map]; omega)] at h)
              clear O2 R32 NE hi
              go_wp2_with fail
              exact ⟨⟨d + 1, A, n + i, c, by omega, rfl, by go_num, O3, K2⟩, by simp [intOf]; omega⟩
        · have cd' : ¬ ((d : Int) < 8) := by omega
          obtain rfl : d = 8 := by omega
          go_wp2_with fail
          exact ⟨⟨q + 1, A, n, c, by omega, rfl, by go_num, by rw [preC_row]; exact O1, K1⟩, by simp [intOf]; omega⟩
    · have cq' : ¬ ((q : Int) < (nw : Int)) := by omega
      obtain rfl : q = nw := by omega
      have O2 := Lib.hid (show Pc.Ow U W.heap.size (.slice A n c) n (outP (cacheL q ca)) from by rw [← preC_all VW.out.non]; exact O1.out)
      have nd2 : n ≤ 2900 := by have := preC_len VW.out q 0; have := O1.out.len; unfold outP at this; rw [List.length_map] at this; omega
      have AS := Lib.hid (asc_any O2.out nd.out (by omega))
      clear O1
      go_wp2_with fail
      refine AS.out.mono ?_
      rintro e Y ⟨rfl, M, a, cc, ev, so, r, hc, ky⟩
      have E := Lib.hid (show ListedPost W (outP (cacheL q ca)) (.returned (.slice A n c)) Y from ⟨_, M, rfl, ⟨⟨_, _, _, ev, r, hc⟩, fun b e => ⟨(O2.out.own b e).1, Nat.lt_of_lt_of_le (O2.out.own b e).2 ky.size⟩⟩, so, K1.out.join ky (fun j hj e => by have := (O2.out.own j e).1; omega)⟩)
      clear r ky so
      go_wp2_with fail
      go_ret
      exact E.out
end calls
end Go.Proofs.YtcndilpaijapkaaGreat.Shp
