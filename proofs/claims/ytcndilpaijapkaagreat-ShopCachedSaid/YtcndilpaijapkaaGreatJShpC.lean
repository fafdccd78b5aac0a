/-
  Joined texts of ShpC; own work.
-/
import Derived.Test.YtcndilpaijapkaaGreatRows
import Derived.WalkKit
import Derived.ProofKit
import Derived.OpenShut
import Derived.Outline
import Derived.Deep.Light
import Derived.Deep.QuietTactic
import Derived.BigQuiet
import Derived.IntWalk
import Derived.StillTailTactics
import Derived.RegionTactic
import Derived.Deep.RegionLaw
import Derived.Deep.RegionHeld3
import Derived.Test.YtcndilpaijapkaaGreatJIntSame
import Derived.Test.YtcndilpaijapkaaGreatJShpA
import Derived.Test.YtcndilpaijapkaaGreatJShpB
/- What store.New answers; a store's On and Live; the methods of no store. Own work; each is proved by a walk through the landed text. -/
namespace Go.Proofs.YtcndilpaijapkaaGreat.Shp
open Sto
open Go.ChangeShapes Go.WideShapes Go.ChangeAt Go.RowKit
set_option maxRecDepth 100000

/-! ### Methods of no store -/
theorem alloc_nil (q n : Int) (w : World) : Calls Tryz.prog 19 #[nilp, .int .i64 q, .int .i64 n] w fun e w' => e = .returned (.tuple #[.int .i64 0, .int .i64 2]) ∧ w = w' := by
  go_enter Tryz.func19, Tryz.ntmps19
  go_wp2
  go_ret2
  exact ⟨rfl, rfl⟩
theorem free_nil (q n : Int) (w : World) : Calls Tryz.prog 21 #[nilp, .int .i64 q, .int .i64 n] w fun e w' => e = .returned (.int .i64 2) ∧ w = w' := by
  go_enter Tryz.func21, Tryz.ntmps21
  go_wp2
  go_ret
  exact ⟨rfl, rfl⟩
theorem gc_nil (b : Bool) (w : World) : Calls Tryz.prog 29 #[nilp, .bool b] w fun e w' => e = .returned (.tuple #[]) ∧ w = w' := by
  go_enter Tryz.func29, Tryz.ntmps29
  go_wp2
  (try simp only [Exit.inBlock, Exit.then])
  refine bodyPost_ret (results_none rfl _ _ _) rfl ?_
  exact ⟨rfl, rfl⟩
theorem on_nil (w : World) : Calls Tryz.prog 42 #[nilp] w fun e w' => e = .returned (.bool false) ∧ w = w' := by
  go_enter Tryz.func42, Tryz.ntmps42
  go_wp2
  go_ret
  exact ⟨rfl, rfl⟩
theorem live_nil (w : World) : Calls Tryz.prog 27 #[nilp] w fun e w' => e = .returned (.slice none 0 0) ∧ w = w' := by
  go_enter Tryz.func27, Tryz.ntmps27
  go_wp2
  go_ret
  exact ⟨rfl, rfl⟩
theorem flush_nil (n : Int) (w : World) : Calls Tryz.prog 22 #[nilp, .int .i64 n] w fun e w' => e = .returned (.int .i64 2) ∧ w = w' := by
  go_enter Tryz.func22, Tryz.ntmps22
  go_wp2
  go_ret
  exact ⟨rfl, rfl⟩
theorem cached_nil (q n : Int) (w : World) : Calls Tryz.prog 24 #[nilp, .int .i64 q, .int .i64 n] w fun e w' => e = .returned (.slice none 0 0) ∧ w = w' := by
  go_enter Tryz.func24, Tryz.ntmps24
  go_wp2
  go_ret
  exact ⟨rfl, rfl⟩
/-! ### New -/
abbrev K0 (P : Nat) : K := ⟨[(0, (P : Int))], [], fun _ => [], [], false, []⟩
abbrev pn (pl : Pl) (n c : Nat) : Value := if c < n then ptr (pl.pq c) else nilp
abbrev cellsN (pl : Pl) (n : Nat) : List Value := [ptr pl.a, ptr pl.h, pn pl n 0, pn pl n 1, pn pl n 2, pn pl n 3, nilp, nilp, nilp, nilp, .slice (some ⟨pl.cb, 0, none⟩) pl.nw pl.nw, .slice none 0 0, .bool false, .slice none 0 0, .slice none 0 0]
/-- A store to be, with n pools. -/
structure StN (w0 W : World) (s P : Nat) (F : Nat → Prop) (pl : Pl) (n : Nat) : Prop where
  box : Blk W s 88 (cellsN pl n)
  lab : pl.lab s = 0
  hp : PlH W pl (K0 P) P w0
  ar : PlA W pl P
  pt : ∀ c, c < n → c < 4 → PlP W pl (K0 P) w0 c
  cs : PlC W pl (fun _ _ => [])
  ff : PlF W pl w0 F
  a1 : pl.A1 = none ∧ pl.n1 = 0 ∧ pl.c1 = 0
  a2 : pl.A2 = none ∧ pl.n2 = 0 ∧ pl.c2 = 0
  lv : pl.lv = .slice none 0 0
theorem StN.fin {w0 W : World} {s P : Nat} {F : Nat → Prop} {pl : Pl} (h : StN w0 W s P F pl 4) : StM w0 W s P (K0 P) (fun _ _ => []) [] F pl := by
  obtain ⟨b1, b2, b3⟩ := h.a1
  obtain ⟨d1, d2, d3⟩ := h.a2
  have bx : cells pl false = cellsN pl 4 := by
    unfold cells cellsN pn
    rw [b1, b2, b3, d1, d2, d3, h.lv]
    rfl
  refine ⟨⟨bx ▸ h.box, h.lab⟩, h.hp, h.ar, fun c hc => h.pt c hc hc, fun c _ => Prt.Chs.nil _, ⟨?_, by omega, fun _ => b3, fun b hb => ?_⟩, ⟨?_, by omega, fun _ => d3, fun b hb => ?_⟩, ⟨?_, fun b hb => ?_⟩, h.cs, h.ff⟩
  · rw [b2]; exact ⟨rfl, fun _ h => (by cases h), fun h => absurd h (Nat.lt_irrefl 0)⟩
  · have := hb.1; omega
  · rw [d2]; exact ⟨rfl, fun _ h => (by cases h), fun h => absurd h (Nat.lt_irrefl 0)⟩
  · have := hb.1; omega
  · rw [h.lv]; exact Lm.OwS.nil _ _
  · rw [h.lv] at hb; cases hb
/-- One pool more. -/
theorem StN.step {w0 W W1 : World} {s P n p : Nat} {F : Nat → Prop} {pl : Pl} (h : StN w0 W s P F pl n) (hn : n < 4) (T : Prt.Pt W1 w0.heap.size p (.slice none 0 0) n []) (K : Kept Old W W1) (hp : W.heap.size ≤ p) :
    StN w0 (W1.setCell ⟨s, 2 + n, none⟩ (ptr p)) s P F { pl.re W.heap.size (3 + n) with pq := fun c => if c = n then p else pl.pq c, pv := fun c => if c = n then .slice none 0 0 else pl.pv c } (n + 1) := by
  have K0' := old_tn (lab := pl.lab) K
  have ks := only_setCell W1 s (2 + n) (ptr p)
  have K1 : Kept (Tn (fun i => i = 0) pl.lab) W (W1.setCell ⟨s, 2 + n, none⟩ (ptr p)) := (K0'.mono fun _ e => e.elim).trans (kept_lt ks fun i _ e => by have e : i = s := e; rw [e]; exact h.lab)
  have sp : s < W.heap.size := h.box.lt
  refine ⟨?_, (rel_lt sp).trans h.lab, ⟨(h.hp.go (j := 3 + n) h.ff K1 (by omega) (by omega) (by omega)).hp⟩, ?_, fun c hc c4 => ?_, ?_, ?_, h.a1, h.a2, h.lv⟩
  · have b := (h.box.kept K (fun x => x)).put (2 + n) (ptr p)
    have e : (cellsN pl n).set (2 + n) (ptr p) = cellsN { pl.re W.heap.size (3 + n) with pq := fun c => if c = n then p else pl.pq c, pv := fun c => if c = n then .slice none 0 0 else pl.pv c } (n + 1) := by
      rcases (show n = 0 ∨ n = 1 ∨ n = 2 ∨ n = 3 by omega) with rfl | rfl | rfl | rfl <;> rfl
    rw [e] at b
    exact b
  · have q := h.ar.go (j := 3 + n) K1 (by omega)
    exact ⟨q.ar, q.len, q.la, q.lg⟩
  · by_cases e : c = n
    · subst e
      refine ⟨?_, ?_, fun b hb => ?_⟩
      · show Prt.Pt _ _ (if c = c then p else pl.pq c) (if c = c then .slice none 0 0 else pl.pv c) c []
        rw [if_pos rfl, if_pos rfl]
        exact T.kept ks (fun e => by have e : p = s := e; omega) (fun g e _ => by cases e)
      · show rel _ _ _ (if c = c then p else pl.pq c) = _
        rw [if_pos rfl]
        exact rel_ge hp
      · have : (if c = c then (.slice none 0 0 : Value) else pl.pv c).ownBlock = some b := hb
        rw [if_pos rfl] at this
        cases this
    · have q := (h.pt c (by omega) c4).go (j := 3 + n) K1 (by omega)
      refine ⟨?_, ?_, fun b hb => q.lo b ?_⟩
      · show Prt.Pt _ _ (if c = n then p else pl.pq c) (if c = n then .slice none 0 0 else pl.pv c) c []
        rw [if_neg e, if_neg e]
        exact q.pt
      · show rel _ _ _ (if c = n then p else pl.pq c) = _
        rw [if_neg e]
        exact q.lp
      · have : (if c = n then (.slice none 0 0 : Value) else pl.pv c).ownBlock = some b := hb
        rwa [if_neg e] at this
  · have q := h.cs.go (j := 3 + n) K1 (by omega)
    exact ⟨q.box, q.lab, q.ch, q.few⟩
  · have q := h.ff.go (j := 3 + n) K1 (by omega) (by omega)
    exact ⟨q.kept, q.low, q.far⟩
/-- No pool more. -/
theorem StM.nopool {w0 W : World} {s P n : Nat} {k : K} {ca : Ca} {live : List Lm.S} {F : Nat → Prop} {pl : Pl} (m : StM w0 W s P k ca live F pl) (h4 : 4 ≤ n) (h8 : n < 8) : StM w0 (W.setCell ⟨s, 2 + n, none⟩ nilp) s P k ca live F (pl.re W.heap.size 97) := by
  have ks := only_setCell W s (2 + n) nilp
  have K1 : Kept (Tn (fun i => i = 0) pl.lab) W (W.setCell ⟨s, 2 + n, none⟩ nilp) := kept_lt ks fun i _ e => by have e : i = s := e; rw [e]; exact m.st.lab
  refine ⟨⟨?_, (rel_lt m.st.box.lt).trans m.st.lab⟩, m.hp.go m.ff K1 (by omega) (by omega) (by omega), m.ar.go K1 (by omega), fun c hc => (m.pt c hc).go K1 (by omega), m.ch, m.kb.go K1 (by omega), m.kq.go K1 (by omega), m.lv.go K1 (by omega), m.cs.go K1 (by omega), m.ff.go K1 (by omega) (by omega)⟩
  have b := m.st.box.put (2 + n) nilp
  have e : (cells pl k.on).set (2 + n) nilp = cells pl k.on := by
    rcases (show n = 4 ∨ n = 5 ∨ n = 6 ∨ n = 7 by omega) with rfl | rfl | rfl | rfl <;> rfl
  rw [e] at b
  exact b
/-- A shop to be, without pools. -/
theorem StN.start {w0 W W1 W2 : World} {P a g h cb nw : Nat} {F : Nat → Prop} (K : Kept Old w0 W) (hF : ∀ b, F b → b < W.heap.size) (H : Hp w0 W1 h (P : Int) [(0, (P : Int))] [] (fun b => b < W.heap.size)) (K1 : Kept Old W W1) (A : Ar W2 a g (List.replicate (P * 64) 0)) (K2 : Kept Old W1 W2) (ha : W1.heap.size ≤ a) (hg : W1.heap.size ≤ g) (C : Blk W2 cb 124 (rowC nw (fun _ _ => []))) (hc : W1.heap.size ≤ cb) (hn : nw ≤ 100) :
    ∃ pl, pl.nw = nw ∧ StN w0 (W2.alloc (.cells #[ptr a, ptr h, nilp, nilp, nilp, nilp, nilp, nilp, nilp, nilp, .slice (some ⟨cb, 0, none⟩) nw nw, .slice none 0 0, .bool false, .slice none 0 0, .slice none 0 0] 88)) W2.heap.size P F pl 0 := by
  classical
  let lab0 : Nat → Nat := fun b => if F b then 98 else 99
  let lab2 : Nat → Nat := rel W2.heap.size 0 (fun b => if b = cb then 11 else rel W1.heap.size 2 (rel W.heap.size 1 lab0) b)
  let pl : Pl := ⟨a, g, h, fun _ => 0, fun _ => .slice none 0 0, List.replicate (P * 64) 0, none, 0, 0, none, 0, 0, .slice none 0 0, cb, nw, lab2⟩
  have KA : Kept Old W2 (W2.alloc (.cells #[ptr a, ptr h, nilp, nilp, nilp, nilp, nilp, nilp, nilp, nilp, .slice (some ⟨cb, 0, none⟩) nw nw, .slice none 0 0, .bool false, .slice none 0 0, .slice none 0 0] 88)) := (Kept.refl _ _).alloc _
  have s1 := K1.size
  have s2 := K2.size
  have s0 := K.size
  have la := A.box.lt
  have lg := A.row.lt
  have lc := C.lt
  have nac : a ≠ cb := A.box.ne C (by decide)
  have ngc : g ≠ cb := A.row.blk.ne C (by decide)
  have labo : ∀ b, b < W.heap.size → pl.lab b = lab0 b := fun b hb => by
    have nb : b ≠ cb := by omega
    show rel W2.heap.size 0 (fun b => if b = cb then 11 else rel W1.heap.size 2 (rel W.heap.size 1 lab0) b) b = lab0 b
    rw [rel_lt (by omega)]
    show (if b = cb then 11 else rel W1.heap.size 2 (rel W.heap.size 1 lab0) b) = _
    rw [if_neg nb, rel_lt (by omega), rel_lt hb]
  have laba : pl.lab a = 2 := by
    show rel W2.heap.size 0 (fun b => if b = cb then 11 else rel W1.heap.size 2 (rel W.heap.size 1 lab0) b) a = 2
    rw [rel_lt la]
    show (if a = cb then 11 else rel W1.heap.size 2 (rel W.heap.size 1 lab0) a) = _
    rw [if_neg nac, rel_ge ha]
  have labg : pl.lab g = 2 := by
    show rel W2.heap.size 0 (fun b => if b = cb then 11 else rel W1.heap.size 2 (rel W.heap.size 1 lab0) b) g = 2
    rw [rel_lt lg]
    show (if g = cb then 11 else rel W1.heap.size 2 (rel W.heap.size 1 lab0) g) = _
    rw [if_neg ngc, rel_ge hg]
  have labc : pl.lab pl.cb = 11 := by
    show rel W2.heap.size 0 (fun b => if b = cb then 11 else rel W1.heap.size 2 (rel W.heap.size 1 lab0) b) cb = 11
    rw [rel_lt lc]
    exact if_pos rfl
  have labs : pl.lab W2.heap.size = 0 := by
    show rel W2.heap.size 0 (fun b => if b = cb then 11 else rel W1.heap.size 2 (rel W.heap.size 1 lab0) b) W2.heap.size = 0
    exact rel_ge (Nat.le_refl _)
  refine ⟨pl, rfl, Blk.new W2 _ _, labs, ⟨(H.more (K2.trans KA) (fun b hb => ?_))⟩, ⟨A.kept KA (fun x => x) (fun x => x), by simp [pl], laba, labg⟩, fun c hc => absurd hc (Nat.not_lt_zero c), ⟨C.kept KA (fun x => x), labc, fun w c _ _ => Ch.nil _, hn⟩, ⟨((K.trans K1).trans K2).trans KA, fun b hb => ?_, fun b hb => ?_⟩, ⟨rfl, rfl, rfl⟩, ⟨rfl, rfl, rfl⟩, rfl⟩
  · obtain ⟨b1, b2⟩ := hb
    by_cases c : b < W1.heap.size
    · by_cases d : b < W.heap.size
      · exact .inl d
      · exfalso
        have nb : b ≠ cb := by omega
        apply b2
        show rel W2.heap.size 0 (fun b => if b = cb then 11 else rel W1.heap.size 2 (rel W.heap.size 1 lab0) b) b = 1
        rw [rel_lt (by omega)]
        show (if b = cb then 11 else rel W1.heap.size 2 (rel W.heap.size 1 lab0) b) = _
        rw [if_neg nb, rel_lt c, rel_ge (by omega)]
    · exact .inr ⟨by omega, b1⟩
  · rw [labo b (by omega)]
    show (if F b then 98 else 99) = 99 ∨ _
    by_cases q : F b
    · right; show (if F b then 98 else 99) = 98; rw [if_pos q]
    · left; rw [if_neg q]
  · have := hF b hb
    refine ⟨?_, by have := KA.size; omega⟩
    rw [labo b this]
    show (if F b then 98 else 99) = 98
    rw [if_pos hb]
/-! ### The caches' block -/
theorem row_none (nw : Nat) : rowC nw (fun _ _ => []) = List.replicate (nw * 16) (.int .i64 0) := by
  apply List.ext_getElem?
  intro i
  by_cases h : i < nw * 16
  · rw [row_get _ h, List.getElem?_replicate, if_pos h]
    unfold cellC
    by_cases e : i % 2 = 0
    · rw [if_pos e]; rfl
    · rw [if_neg e]; rfl
  · rw [List.getElem?_eq_none (by rw [row_len]; omega), List.getElem?_eq_none (by simp; omega)]
theorem cacheInfo : (Tryz.prog.info? 124).map (fun i => (i.zero.map Value.cells, i.size, i.bytes)) = some (some (Array.replicate 16 (.int .i64 0)), 16, 128) := by kernel_rfl
theorem made_none (n : Nat) : madeCells (Array.replicate 16 (.int .i64 0)) n = (List.replicate n (Value.int .i64 0)).toArray := by
  apply Array.ext
  · rw [size_madeCells]; simp
  · intro i h1 h2
    unfold madeCells
    simp only [Array.getElem_map, Array.getElem_range, Array.size_replicate, List.getElem_toArray, List.getElem_replicate]
    rw [getElem!_pos _ _ (by simp; omega)]
    simp
theorem make_caches (w : World) (nw : Nat) (hn : nw ≤ 1000) :
    (Instr.makeSlice 81 (.int .i64 (nw : Int)) (.int .i64 (nw : Int))).run Tryz.prog w = .ok (.slice (some ⟨w.heap.size, 0, none⟩) nw nw) (w.alloc (.cells (rowC nw (fun _ _ => [])).toArray 124)) := by
  obtain ⟨i0, hi, z, hz, hzc, hs, hb⟩ : ∃ i0, Tryz.prog.info? 124 = some i0 ∧ ∃ z, i0.zero = some z ∧ z.cells = Array.replicate 16 (.int .i64 0) ∧ i0.size = 16 ∧ i0.bytes = 128 := by
    have h := cacheInfo
    cases hi : Tryz.prog.info? 124 with
    | none => rw [hi] at h; cases h
    | some i0 =>
      rw [hi] at h
      simp only [Option.map_some, Option.some.injEq, Prod.mk.injEq] at h
      obtain ⟨h1, h2, h3⟩ := h
      cases hz : i0.zero with
      | none => rw [hz] at h1; cases h1
      | some z =>
        rw [hz] at h1
        simp only [Option.map_some, Option.some.injEq] at h1
        exact ⟨i0, rfl, z, hz, h1, h2, h3⟩
  have r := run_make (P := Tryz.prog) w 81 124 i0 z Tryz.underlying81 hi hz .i64 .i64 (nw : Int) (nw : Int) (by omega) (Int.le_refl _) (by rw [hb]; omega) (by omega)
  rw [hs, hzc, Int.toNat_natCast, made_none, ← row_none] at r
  exact r
theorem make_wpC {ops : Array Oper} {rest : List Oper} {o : Oper} {a : Act} {Q : Exit → Act → World → Prop} {w : World} (hg : o.guard = none) (lo hi : Operand) (hop : o.op = Op.makeSlice 81 lo hi) (n : Nat) (hl : a.eval lo = .int .i64 (n : Int)) (hc : a.eval hi = .int .i64 (n : Int)) (hn : n ≤ 1000)
    (go : wpList Tryz.prog ops Q rest (a.put o.dst (.slice (some ⟨w.heap.size, 0, none⟩) n n)) (w.alloc (.cells (rowC n (fun _ _ => [])).toArray 124))) : wpList Tryz.prog ops Q (o :: rest) a w := by
  refine wpList_plain hg fun K hK => ?_
  unfold Oper.wp
  simp [execOp, hop, hl, hc, make_caches w n hn, Result.andThen]
  exact hK _ _ go
/-- While pools are made. -/
structure NewRel (w0 W wr : World) (s P nw : Nat) (F : Nat → Prop) (n : Nat) : Prop where
  way : (n < 4 ∧ ∃ pl, StN w0 wr s P F pl n ∧ pl.nw = nw) ∨ (4 ≤ n ∧ ∃ pl, StM w0 wr s P (K0 P) (fun _ _ => []) [] F pl ∧ pl.nw = nw)
  kept : Kept Old W wr
  low : W.heap.size ≤ s
theorem NewRel.up {w0 W wr W1 : World} {s P nw n p : Nat} {F : Nat → Prop} {pl : Pl} (h : NewRel w0 W wr s P nw F n) (en : pl.nw = nw) (N : StN w0 wr s P F pl n) (hn : n < 4) (T : Prt.Pt W1 w0.heap.size p (.slice none 0 0) n []) (K : Kept Old wr W1) (hp : wr.heap.size ≤ p) : NewRel w0 W (W1.setCell ⟨s, 2 + n, none⟩ (ptr p)) s P nw F (n + 1) := by
  have st := N.step hn T K hp
  refine ⟨?_, (h.kept.trans K).join (only_setCell W1 s (2 + n) (ptr p)) (fun i hi e => by have e : i = s := e; have := h.low; omega), h.low⟩
  by_cases e : n = 3
  · subst e
    exact .inr ⟨by omega, _, st.fin, en⟩
  · exact .inl ⟨by omega, _, st, en⟩
theorem NewRel.up2 {w0 W wr W1 : World} {s P nw n : Nat} {F : Nat → Prop} {pl : Pl} (h : NewRel w0 W wr s P nw F n) (en : pl.nw = nw) (N : StM w0 wr s P (K0 P) (fun _ _ => []) [] F pl) (hn : 4 ≤ n) (h8 : n < 8) (K : Kept Old wr W1) : NewRel w0 W (W1.setCell ⟨s, 2 + n, none⟩ nilp) s P nw F (n + 1) :=
  ⟨.inr ⟨by omega, _, (N.old K).nopool hn h8, en⟩, (h.kept.trans K).join (only_setCell W1 s (2 + n) nilp) (fun i hi e => by have e : i = s := e; have := h.low; omega), h.low⟩
theorem NewRel.drew {w0 W wr : World} {s P nw n : Nat} {F : Nat → Prop} (h : NewRel w0 W wr s P nw F n) : NewRel w0 W wr.drew s P nw F n := by
  have k := (Kept.refl Old wr).drew
  refine ⟨?_, h.kept.drew, h.low⟩
  rcases h.way with ⟨a, pl, N, en⟩ | ⟨a, pl, N, en⟩
  · exact .inl ⟨a, pl, ⟨N.box, N.lab, ⟨N.hp.hp.more k (fun b hb => .inl ⟨hb.1, hb.2⟩)⟩, ⟨N.ar.ar.kept k (fun x => x) (fun x => x), N.ar.len, N.ar.la, N.ar.lg⟩, fun c h1 h2 => ⟨(N.pt c h1 h2).pt.old k, (N.pt c h1 h2).lp, (N.pt c h1 h2).lo⟩, ⟨N.cs.box, N.cs.lab, N.cs.ch, N.cs.few⟩, ⟨N.ff.kept.drew, N.ff.low, N.ff.far⟩, N.a1, N.a2, N.lv⟩, en⟩
  · exact .inr ⟨a, _, N.old k, en⟩
theorem cellsN_at {pl : Pl} {n : Nat} (h : n < 4) : (cellsN pl n)[2 + n]? = some nilp := by
  rcases (show n = 0 ∨ n = 1 ∨ n = 2 ∨ n = 3 by omega) with rfl | rfl | rfl | rfl <;> rfl
theorem cells_at {pl : Pl} {on : Bool} {n : Nat} (h : 4 ≤ n) (h8 : n < 8) : (cells pl on)[2 + n]? = some nilp := by
  rcases (show n = 4 ∨ n = 5 ∨ n = 6 ∨ n = 7 by omega) with rfl | rfl | rfl | rfl <;> rfl
def NewSt (w0 : World) (P nw : Nat) (F : Nat → Prop) (W : World) (e : Ending) (W' : World) : Prop := ∃ s, e = .returned (ptr s) ∧ (∃ pl, pl.nw = nw ∧ StM w0 W' s P (K0 P) (fun _ _ => []) [] F pl) ∧ Kept Old W W' ∧ W.heap.size ≤ s
theorem snew_no (n q : Int) (w : World) (h : n < 1 ∨ 256 < n) : Calls Tryz.prog 12 #[.int .i64 n, .int .i64 q] w fun e w' => e = .returned nilp ∧ w = w' := by
  have hT := Lib.hid (hnew_no n w h)
  clear h
  go_enter Tryz.func12, Tryz.ntmps12
  go_wp2_with fail
  refine hT.out.mono ?_
  rintro e W ⟨rfl, rfl⟩
  go_wp2
  go_ret
  exact ⟨rfl, rfl⟩
theorem snew_nw (w0 : World) (P : Nat) (q : Int) (W : World) (h1 : 1 ≤ P) (h2 : P ≤ 256) (K : Kept Old w0 W) (h : q < 1 ∨ 6 < q) : Calls Tryz.prog 12 #[.int .i64 (P : Int), .int .i64 q] W fun e w' => e = .returned nilp ∧ Kept Old W w' := by
  have HN := Lib.hid (hp_new w0 (P : Int) (fun b => b < W.heap.size) W (by omega) (by omega) K (fun _ h => h))
  clear K
  by_cases q1 : q < 1
  · clear h
    go_enter Tryz.func12, Tryz.ntmps12
    go_wp2_with fail
    refine HN.out.mono ?_
    rintro e W1 ⟨h, rfl, H, K1⟩
    have K1 := Lib.hid K1
    clear H
    go_wp2_with fail
    go_ret
    exact ⟨rfl, K1.out⟩
  · have q6 : 6 < q := h.resolve_left q1
    clear h
    go_enter Tryz.func12, Tryz.ntmps12
    go_wp2_with fail
    refine HN.out.mono ?_
    rintro e W1 ⟨h, rfl, H, K1⟩
    have K1 := Lib.hid K1
    clear H
    go_wp2_with fail
    go_ret
    exact ⟨rfl, K1.out⟩
set_option maxHeartbeats 4000000 in
theorem snew_yes (w0 : World) (P nw : Nat) (F : Nat → Prop) (W : World) (h1 : 1 ≤ P) (h2 : P ≤ 256) (n1 : 1 ≤ nw) (n6 : nw ≤ 6) (K : Kept Old w0 W) (hF : ∀ b, F b → b < W.heap.size) : Calls Tryz.prog 12 #[.int .i64 (P : Int), .int .i64 (nw : Int)] W (NewSt w0 P nw F W) := by
  have HN := Lib.hid (hp_new w0 (P : Int) (fun b => b < W.heap.size) W (by omega) (by omega) K (fun _ h => h))
  have AN := Lib.hid (fun X => arNew_yes P X h1 h2)
  have KK := Lib.hid K
  have HF := Lib.hid hF
  have i1 : ¬ ((nw : Int) < 1) := by omega
  have i6 : ¬ (6 < (nw : Int)) := by omega
  clear K hF
  go_enter Tryz.func12, Tryz.ntmps12
  go_wp2_with fail
  refine HN.out.mono ?_
  rintro e W1 ⟨h, rfl, H, K1⟩
  have GO := Lib.hid (show ∀ W2 a g cb, Ar W2 a g (List.replicate (P * 64) 0) → Kept Old W1 W2 → W1.heap.size ≤ a → W1.heap.size ≤ g → Blk W2 cb 124 (rowC nw (fun _ _ => [])) → W1.heap.size ≤ cb → NewRel w0 W (W2.alloc (.cells #[ptr a, ptr h, nilp, nilp, nilp, nilp, nilp, nilp, nilp, nilp, .slice (some ⟨cb, 0, none⟩) nw nw, .slice none 0 0, .bool false, .slice none 0 0, .slice none 0 0] 88)) W2.heap.size P nw F 0 from fun W2 a g cb A K2 ha hg C hc => by
    obtain ⟨pl, en, N0⟩ := StN.start KK.out HF.out H K1 A K2 ha hg C hc (by omega)
    exact ⟨.inl ⟨by omega, pl, N0, en⟩, ((K1.trans K2).alloc _), (K1.trans K2).size⟩)
  clear H K1 HN
  have mk1 := make_caches W1 nw (by omega)
  have mk2 := make_caches W1.drew nw (by omega)
  go_wp2_with fail
  go_region_with (first
    | (go_at_call 44; refine (AN.out _).mono ?_; rintro e W2 ⟨a, g, rfl, A, K2, ha, hg⟩; have mk3 := make_caches W2 nw (by omega); have A := Lib.hid A; have K2 := Lib.hid K2; have ha := Lib.hid ha; have hg := Lib.hid hg))
  · have R0 := Lib.hid (show NewRel w0 W ((W2.alloc (.cells (rowC nw (fun _ _ => [])).toArray 124)).alloc (.cells #[ptr a, ptr h, nilp, nilp, nilp, nilp, nilp, nilp, nilp, nilp, .slice (some ⟨W2.heap.size, 0, none⟩) nw nw, .slice none 0 0, .bool false, .slice none 0 0, .slice none 0 0] 88)) (W2.heap.size + 1) P nw F 0 from by
      have kk := (Kept.refl Old W1).drew.trans K2.out
      have z := GO.out (W2.alloc (.cells (rowC nw (fun _ _ => [])).toArray 124)) a g W2.heap.size (A.out.alloc _) (kk.alloc _) ha.out hg.out (Blk.new W2 _ _) kk.size
      rw [show (W2.alloc (.cells (rowC nw (fun _ _ => [])).toArray 124)).heap.size = W2.heap.size + 1 by simp] at z
      exact z)
    clear mk1 mk2 mk3 A K2 ha hg AN GO
    go_wp2_with fail
    generalize W2.heap.size + 1 = s at *
    generalize (W2.alloc (.cells (rowC nw (fun _ _ => [])).toArray 124)).alloc (.cells #[ptr a, ptr h, nilp, nilp, nilp, nilp, nilp, nilp, nilp, nilp, .slice (some ⟨W2.heap.size, 0, none⟩) nw nw, .slice none 0 0, .bool false, .slice none 0 0, .slice none 0 0] 88) = V0 at *
    go_loopw [27] (fun s27 wr => ∃ n : Nat, n ≤ 8 ∧ s27 = .int .i64 (n : Int) ∧ Hid (NewRel w0 W wr s P nw F n)) (fun s27 _ => 8 - (intOf s27).toNat)
    case atStart => exact ⟨0, by omega, rfl, R0⟩
    case round =>
      clear R0
      obtain ⟨n, hn, rfl, RN⟩ := hrel
      rename World => V
      by_cases n8 : n < 8
      · have n8' : (n : Int) < 8 := by omega
        have n0 : (0 : Int) ≤ (n : Int) := by omega
        have wn : IntKind.i64.wrap ((n : Int) + 1) = (n : Int) + 1 := IntWalk.i64_in _ (by omega)
        rcases RN.out.way with ⟨n4, pl, N, en⟩ | ⟨n4, pl, N, en⟩
        · have N := Lib.hid N
          have hs := N.out.box.lt
          have PN := Lib.hid (fun X (q : Kept Old V X) => Prt.pnew_yes w0.heap.size n X n4 (Nat.le_trans N.out.ff.kept.size q.size))
          go_wp2_with fail
          go_region_with (first
            | (go_at_call 45; refine (PN.out _ (by first | exact Kept.refl Old V | exact (Kept.refl Old V).drew)).mono ?_; rintro e X ⟨p, rfl, T, k, hp⟩; have kk : Kept Old V X := Kept.trans (by first | exact Kept.refl Old V | exact (Kept.refl Old V).drew) k; have bx := N.out.box.kept kk (fun x => x); have x0 := bx.frozen (2 + n); have x1 := (bx.cell (2 + n)).trans (cellsN_at n4); have RR := Lib.hid (RN.out.up en N.out n4 T kk hp); have hx := bx.lt; clear T k hp bx))
          all_goals
            go_wp2
            refine ⟨⟨n + 1, by omega, by go_num, by first | exact RR | exact Lib.hid RR.out.drew⟩, ?_⟩
            simp [intOf]; omega
        · have N := Lib.hid N
          have hs := N.out.st.box.lt
          have PN := Lib.hid (fun X => Prt.pnew_no (n : Int) X (Or.inr (by omega)))
          have bx := N.out.st.box
          have x0 := bx.frozen (2 + n)
          have x1 := (bx.cell (2 + n)).trans (cells_at n4 n8)
          have RR := Lib.hid (fun X (q : Kept Old V X) => RN.out.up2 en N.out n4 n8 q)
          clear bx
          go_wp2_with fail
          go_region_with (first
            | (go_at_call 45; refine (PN.out _).mono ?_; rintro e X ⟨rfl, rfl⟩))
          all_goals
            go_wp2
            refine ⟨⟨n + 1, by omega, by go_num, by first | exact Lib.hid (RR.out _ (Kept.refl Old V)) | exact Lib.hid (RR.out _ (Kept.refl Old V).drew) | exact Lib.hid (RR.out _ (Kept.refl Old V)).out.drew⟩, ?_⟩
            simp [intOf]; omega
      · have n8' : ¬ (n : Int) < 8 := by omega
        have EP := Lib.hid (show NewSt w0 P nw F W (.returned (ptr s)) V from by
          rcases RN.out.way with ⟨n4, _⟩ | ⟨_, pl, N, en⟩
          · omega
          · exact ⟨s, rfl, ⟨pl, en, N⟩, RN.out.kept, RN.out.low⟩)
        go_wp2
        go_ret
        exact EP.out
  · have R0 := Lib.hid (show NewRel w0 W (W2.alloc (.cells #[ptr a, ptr h, nilp, nilp, nilp, nilp, nilp, nilp, nilp, nilp, .slice (some ⟨W1.heap.size, 0, none⟩) nw nw, .slice none 0 0, .bool false, .slice none 0 0, .slice none 0 0] 88)) W2.heap.size P nw F 0 from by
      have k1 : Kept Old W1 (W1.alloc (.cells (rowC nw (fun _ _ => [])).toArray 124)) := (Kept.refl Old W1).alloc _
      have s1 := k1.size
      have kk := k1.drew.trans K2.out
      have hl := (Blk.new W1 124 (rowC nw (fun _ _ => []))).drew.kept K2.out (fun x => x)
      exact GO.out W2 a g W1.heap.size A.out kk (Nat.le_trans s1 ha.out) (Nat.le_trans s1 hg.out) hl (Nat.le_refl _))
    clear mk1 mk2 mk3 A K2 ha hg AN GO
    go_wp2_with fail
    generalize W2.heap.size = s at *
    generalize W2.alloc (.cells #[ptr a, ptr h, nilp, nilp, nilp, nilp, nilp, nilp, nilp, nilp, .slice (some ⟨W1.heap.size, 0, none⟩) nw nw, .slice none 0 0, .bool false, .slice none 0 0, .slice none 0 0] 88) = V0 at *
    go_loopw [27] (fun s27 wr => ∃ n : Nat, n ≤ 8 ∧ s27 = .int .i64 (n : Int) ∧ Hid (NewRel w0 W wr s P nw F n)) (fun s27 _ => 8 - (intOf s27).toNat)
    case atStart => exact ⟨0, by omega, rfl, R0⟩
    case round =>
      clear R0
      obtain ⟨n, hn, rfl, RN⟩ := hrel
      rename World => V
      by_cases n8 : n < 8
      · have n8' : (n : Int) < 8 := by omega
        have n0 : (0 : Int) ≤ (n : Int) := by omega
        have wn : IntKind.i64.wrap ((n : Int) + 1) = (n : Int) + 1 := IntWalk.i64_in _ (by omega)
        rcases RN.out.way with ⟨n4, pl, N, en⟩ | ⟨n4, pl, N, en⟩
        · have N := Lib.hid N
          have hs := N.out.box.lt
          have PN := Lib.hid (fun X (q : Kept Old V X) => Prt.pnew_yes w0.heap.size n X n4 (Nat.le_trans N.out.ff.kept.size q.size))
          go_wp2_with fail
          go_region_with (first
            | (go_at_call 45; refine (PN.out _ (by first | exact Kept.refl Old V | exact (Kept.refl Old V).drew)).mono ?_; rintro e X ⟨p, rfl, T, k, hp⟩; have kk : Kept Old V X := Kept.trans (by first | exact Kept.refl Old V | exact (Kept.refl Old V).drew) k; have bx := N.out.box.kept kk (fun x => x); have x0 := bx.frozen (2 + n); have x1 := (bx.cell (2 + n)).trans (cellsN_at n4); have RR := Lib.hid (RN.out.up en N.out n4 T kk hp); have hx := bx.lt; clear T k hp bx))
          all_goals
            go_wp2
            refine ⟨⟨n + 1, by omega, by go_num, by first | exact RR | exact Lib.hid RR.out.drew⟩, ?_⟩
            simp [intOf]; omega
        · have N := Lib.hid N
          have hs := N.out.st.box.lt
          have PN := Lib.hid (fun X => Prt.pnew_no (n : Int) X (Or.inr (by omega)))
          have bx := N.out.st.box
          have x0 := bx.frozen (2 + n)
          have x1 := (bx.cell (2 + n)).trans (cells_at n4 n8)
          have RR := Lib.hid (fun X (q : Kept Old V X) => RN.out.up2 en N.out n4 n8 q)
          clear bx
          go_wp2_with fail
          go_region_with (first
            | (go_at_call 45; refine (PN.out _).mono ?_; rintro e X ⟨rfl, rfl⟩))
          all_goals
            go_wp2
            refine ⟨⟨n + 1, by omega, by go_num, by first | exact Lib.hid (RR.out _ (Kept.refl Old V)) | exact Lib.hid (RR.out _ (Kept.refl Old V).drew) | exact Lib.hid (RR.out _ (Kept.refl Old V)).out.drew⟩, ?_⟩
            simp [intOf]; omega
      · have n8' : ¬ (n : Int) < 8 := by omega
        have EP := Lib.hid (show NewSt w0 P nw F W (.returned (ptr s)) V from by
          rcases RN.out.way with ⟨n4, _⟩ | ⟨_, pl, N, en⟩
          · omega
          · exact ⟨s, rfl, ⟨pl, en, N⟩, RN.out.kept, RN.out.low⟩)
        go_wp2
        go_ret
        exact EP.out
end Go.Proofs.YtcndilpaijapkaaGreat.Shp
/- A store's On and Live. Own work; each is proved by a walk through the landed text. -/
namespace Go.Proofs.YtcndilpaijapkaaGreat.Shp
open Sto
open Go.ChangeShapes Go.WideShapes Go.ChangeAt Go.RowKit
set_option maxRecDepth 100000
theorem make_liveN (n : Nat) (h : n ≤ 3000) (w : World) : ∃ cs : List Value, cs.length = n * 3 ∧ (Instr.makeSlice 47 (.int .i64 (n : Int)) (.int .i64 (n : Int))).run Tryz.prog w = .ok (.slice (some ⟨w.heap.size, 0, none⟩) n n) (w.alloc (.cells cs.toArray 52)) := by
  obtain ⟨i0, hi, hz0, hz1, hz2⟩ := info_parts Lm.Tryz.spanInfo
  have hr := run_make (P := Tryz.prog) w 47 52 i0 _ Tryz.underlying47 hi hz0 .i64 .i64 n n (by omega) (Int.le_refl _) (by rw [hz2]; omega) (by omega)
  simp only [Int.toNat_natCast, hz1] at hr
  exact ⟨(madeCells (Value.agg #[.int .i64 0, .int .i64 0, .int .i64 0]).cells (n * 3)).toList, by rw [Array.length_toList, size_madeCells], by rw [Array.toArray_toList]; exact hr⟩
section calls
variable {w0 W : World} {s P : Nat} {k : K} {ca : Ca} {live : List Lm.S} {F : Nat → Prop} {pl : Pl}
theorem son_any (m : StM w0 W s P k ca live F pl) : Calls Tryz.prog 42 #[ptr s] W fun e W' => e = .returned (.bool k.on) ∧ W = W' := by
  have c12 := m.c12
  clear m
  go_enter Tryz.func42, Tryz.ntmps42
  go_wp2
  go_ret
  exact ⟨rfl, rfl⟩
def ListPost (l : List Lm.S) (w : World) (e : Ending) (w' : World) : Prop := ∃ v, e = .returned v ∧ Lm.MadeS l w v w'
set_option maxHeartbeats 1000000 in
theorem slive_any (m : StM w0 W s P k ca live F pl) (hn : live.length ≤ 600) : Calls Tryz.prog 27 #[ptr s] W (ListPost live W) := by
  obtain ⟨cs, hcs, hm⟩ := make_liveN live.length (by omega) W
  have HM := Lib.hid m
  have k0 : Kept Old W (W.alloc (.cells cs.toArray 52)) := (Kept.refl _ _).alloc _
  obtain ⟨A, c, ev, r, hc, hA⟩ := m.lv.ow.rs
  have d14 := m.c14
  rw [ev] at d14
  have c14 := Lm.cell_on k0 d14
  have b0 := Lib.hid (Blk.new W 52 cs)
  have r1 := Lib.hid (r.old k0)
  have k0 := Lib.hid k0
  have hf := Lib.hid m.lv.ow.fit
  obtain ⟨V, hV⟩ : ∃ V, V = W.alloc (.cells cs.toArray 52) := ⟨_, rfl⟩
  rw [← hV] at hm c14 b0 r1 k0
  have hs : V.heap.size = W.heap.size + 1 := by rw [hV]; simp
  clear hV r m ev
  have E : ∀ w', Hid (Blk w' W.heap.size 52 (Lm.CS live)) → Hid (Kept (Only W.heap.size) V w') → ListPost live W (.returned (.slice (some ⟨W.heap.size, 0, none⟩) live.length live.length)) w' := fun w' b k => by
    have o : Lm.OwS w' W.heap.size (.slice (some ⟨W.heap.size, 0, none⟩) live.length live.length) live.length live := Lm.OwS.ofBlk (r := []) (Nat.le_refl _) (by simpa using b.out) rfl (by simp) (Nat.le_refl _) (by simp only [maxLen]; omega) hf.out
    exact ⟨_, rfl, Lm.madeS_end o (k0.out.join k.out (fun i hi e => by have : i = W.heap.size := e; omega))⟩
  have E := Lib.hid E
  by_cases hl : live.length = 0
  · have e0 : live = [] := List.eq_nil_of_length_eq_zero hl
    subst e0
    have cl : cs = [] := List.eq_nil_of_length_eq_zero (by simpa using hcs)
    subst cl
    have E := Lib.hid (E.out V b0 (Lib.hid (Kept.refl _ _)))
    have hm : (Instr.makeSlice 47 (.int .i64 0) (.int .i64 0)).run Tryz.prog W = .ok (.slice (some ⟨W.heap.size, 0, none⟩) 0 0) V := hm
    have c14 : V.cell? ⟨s, 14, none⟩ = some (.slice A 0 c) := c14
    have d14 : W.cell? ⟨s, 14, none⟩ = some (.slice A 0 c) := d14
    have cz := Lm.copy_own0 V 0 c (some ⟨W.heap.size, 0, none⟩) A 0 0 rfl
    clear hcs b0 r1
    go_enter Tryz.func27, Tryz.ntmps27
    go_wp2
    go_ret
    exact E.out
  · obtain ⟨g, o, rfl, _⟩ := r1.out.lies (by omega)
    have f1 := Lib.hid (show 0 + (Lm.CS live).length ≤ cs.length from by rw [Lm.CS_length]; omega)
    have f2 := Lib.hid (show (Lm.CS live).length = live.length * 3 from Lm.CS_length live)
    have o1 : over cs 0 (Lm.CS live) = Lm.CS live := by
      unfold over
      rw [List.drop_eq_nil_of_le (by rw [Lm.CS_length]; omega)]
      simp
    have o1 := Lib.hid o1
    have s1 := Lib.hid r1.out.cells
    have c2 := Lib.hid (Lm.CS_one live)
    have hcs := Lib.hid hcs
    have r1' := Lib.hid r1
    clear r1
    go_enter Tryz.func27, Tryz.ntmps27
    go_wp2_with (refine Lm.cp_wp (cs := Lm.CS live) rfl (.tmp 12) (.tmp 16) rfl rfl 0 live.length 52 b0.out live.length c live.length live.length ⟨g, o, none⟩ rfl rfl (Nat.min_self _) f2.out f1.out c2.out s1.out ?_; intro w2 b2 k2; rw [o1.out] at b2; have E := Lib.hid (E.out w2 b2 k2))
    go_ret
    exact E.out
end calls
end Go.Proofs.YtcndilpaijapkaaGreat.Shp
/- Parts of no shop; the law's compare of pieces that are none; the document's example. Own work; each is proved by a walk through the landed text. -/
namespace Go.Proofs.YtcndilpaijapkaaGreat.Shp
open Sto
open Go.ChangeShapes Go.WideShapes Go.ChangeAt Go.RowKit
set_option maxRecDepth 100000

abbrev nilS : Value := .slice none 0 0
abbrev noParts : Value := .agg #[nilS, nilS, nilS, nilS, nilS, nilS, nilS]
abbrev noCells : List Value := [nilS, nilS, nilS, nilS, nilS, nilS, nilS]
theorem pieces_nil (w : World) : Calls Tryz.prog 81 #[nilS, nilS] w fun e w' => e = .returned (.bool true) ∧ w = w' := by
  go_enter Tryz.func81, Tryz.ntmps81
  go_wp2_with fail
  go_loopw [5] (fun s5 wr => s5 = .int .i64 0 ∧ wr = w) (fun _ _ => 0)
  case atStart => exact ⟨rfl, rfl⟩
  case round =>
    obtain ⟨rfl, rfl⟩ := hrel
    go_wp2
    go_ret
    exact ⟨rfl, rfl⟩
theorem parts_nil (w : World) : Calls Tryz.prog 25 #[nilp] w fun e w' => e = .returned noParts ∧ Kept Old w w' := by
  go_enter Tryz.func25, Tryz.ntmps25
  go_wp2
  have b := Blk.new w 44 noCells
  have k : Kept Old w (w.alloc (.cells noCells.toArray 44)) := (Kept.refl Old w).alloc _
  have r0 := b.cell 0
  have r1 := b.cell 1
  have r2 := b.cell 2
  have r3 := b.cell 3
  have r4 := b.cell 4
  have r5 := b.cell 5
  have r6 := b.cell 6
  generalize hW : w.alloc (.cells noCells.toArray 44) = W at *
  clear hW b
  exact bodyPost_ret (v := noParts) (by simp [results, Tryz.results25, go_sem, r0, r1, r2, r3, r4, r5, r6]) rfl ⟨rfl, k⟩
theorem sameparts_nil (w : World) : Calls Tryz.prog 30 #[noParts, noParts] w fun e w' => e = .returned (.bool true) ∧ Kept Old w w' := by
  have PC := Lib.hid pieces_nil
  have K := Lib.hid (((Kept.refl Old w).alloc (.cells noCells.toArray 44)).alloc (.cells noCells.toArray 44))
  go_enter Tryz.func30, Tryz.ntmps30
  go_wp2_with (first
    | (go_at_call 81; refine (PC.out _).mono ?_; rintro e X ⟨rfl, rfl⟩))
  go_ret
  exact ⟨rfl, K.out⟩
set_option maxHeartbeats 2000000 in
theorem awake_any (w : World) : Calls Tryz.prog 17 #[] w fun e w' => e = .returned (.bool true) ∧ Kept Old w w' := by
  have NS := Lib.hid (snew_yes w 8 1 (fun _ => False) w (by omega) (by omega) (by omega) (by omega) (Kept.refl Old w) (fun _ h => h.elim))
  have V0 := Lib.hid (show Sq 8 1 (K0 8) (fun _ _ => []) [] from Sq.new (P := 8) (by omega) (by omega) 1)
  have E1 := Lib.hid (show (allocW 8 (K0 8) (fun _ _ => []) [] 0 32).2.2.2 = (0, 0) from by decide)
  have E2 := Lib.hid (show (allocW 8 (K0 8) (fun _ _ => []) [] 0 32).2.1 0 0 = [96, 64, 32] from by decide)
  have AL := Lib.hid (fun (W : World) (s : Nat) (pl : Pl) (hn : pl.nw = 1) (m : StM w W s 8 (K0 8) (fun _ _ => []) [] (fun _ => False) pl) => salloc_any (w := 0) (pl := pl) (by omega) 32 m (by rw [hn]; exact V0.out))
  generalize allocW 8 (K0 8) (fun _ _ => []) [] 0 32 = R1 at *
  obtain ⟨k1, ca1, l1, a1, e1⟩ := R1
  obtain ⟨rfl, rfl⟩ : a1 = 0 ∧ e1 = 0 := by have := E1.out; simpa using this
  have E2 := Lib.hid (show ca1 0 0 = [96, 64, 32] from E2.out)
  clear E1
  go_enter Tryz.func17, Tryz.ntmps17
  go_wp2_with fail
  refine NS.out.mono ?_
  rintro e W1 ⟨s, rfl, ⟨pl, en, m⟩, k1', _⟩
  have M := Lib.hid m
  have EN := Lib.hid en
  clear m NS en
  go_wp2_with fail
  refine (AL.out _ _ _ EN.out M.out).mono ?_
  rintro e W2 ⟨rfl, ⟨pl2, m, e2⟩, f2⟩
  have M2 := Lib.hid (show StM w W2 s 8 k1 ca1 l1 (fun _ => False) pl2 from m)
  have EN2 := Lib.hid (e2.nw.trans EN.out)
  clear m f2 k1' M e2
  have CA := cached_yes (w := 0) (c := 0) (by have := EN2.out; omega) (by omega) M2.out (by show (ca1 0 0).length ≤ 1000; rw [E2.out]; decide)
  unfold CachedPost at CA
  rw [show ca1 0 0 = [96, 64, 32] from E2.out] at CA
  have CA := Lib.hid CA
  go_wp2_with fail
  refine CA.out.mono ?_
  rintro e W4 ⟨v, rfl, A, n, c, rfl, r, _, _, K4⟩
  have KW := Lib.hid (show Kept Old w W4 from M2.out.ff.kept.trans K4)
  obtain rfl : n = 3 := r.1.symm
  have KA : Kept Old W4 (W4.alloc (.cells #[.int .i64 96, .int .i64 64, .int .i64 32] 3)) := (Kept.refl Old W4).alloc _
  have b := Blk.new W4 3 [.int .i64 96, .int .i64 64, .int .i64 32]
  have R2 : RsI (W4.alloc (.cells #[.int .i64 96, .int .i64 64, .int .i64 32] 3)) (some ⟨W4.heap.size, 0, none⟩) 3 [96, 64, 32] := ⟨rfl, fun x hx => by
    simp only [List.mem_cons, List.not_mem_nil, or_false] at hx
    rcases hx with rfl | rfl | rfl <;> exact ⟨by decide, by decide⟩, fun _ => ⟨W4.heap.size, 0, rfl, by simp, fun i x hx => by
      rw [Nat.zero_add]
      refine (b.cell i).trans ?_
      rcases i with _ | _ | _ | i
      · injection hx with hx; rw [← hx]; rfl
      · injection hx with hx; rw [← hx]; rfl
      · injection hx with hx; rw [← hx]; rfl
      · cases hx⟩⟩
  have SI := Lib.hid (sameInts_any A (some ⟨W4.heap.size, 0, none⟩) 3 c 3 [96, 64, 32] _ (r.old KA) R2 (by omega))
  have KA := Lib.hid KA
  clear r K4 E2 b R2
  go_wp2_with fail
  refine SI.out.mono ?_
  rintro e W5 ⟨rfl, k5⟩
  have K5 := Lib.hid k5
  go_wp2_with fail
  go_ret
  exact ⟨rfl, (KW.out.trans KA.out).trans K5.out⟩
end Go.Proofs.YtcndilpaijapkaaGreat.Shp
