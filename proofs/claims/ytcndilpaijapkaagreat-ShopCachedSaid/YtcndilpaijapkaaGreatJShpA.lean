/-
  Joined texts of ShpA; own work.
-/
import Derived.Test.YtcndilpaijapkaaGreatRows
import Derived.WalkKit
import Derived.ProofKit
import Derived.OpenShut
import Derived.Outline
import Derived.Deep.Light
import Derived.Deep.QuietTactic
import Derived.BigQuiet
import Derived.IntWalk
import Derived.StillTailTactics
import Derived.RegionTactic
import Derived.Deep.RegionLaw
import Derived.Deep.RegionHeld3
import Derived.Test.YtcndilpaijapkaaGreatJBigb
import Derived.Test.YtcndilpaijapkaaGreatJChainCalls
import Derived.Test.YtcndilpaijapkaaGreatJDeed
import Derived.Test.YtcndilpaijapkaaGreatJHeap
import Derived.Test.YtcndilpaijapkaaGreatJLate
import Derived.Test.YtcndilpaijapkaaGreatJLive
import Derived.Test.YtcndilpaijapkaaGreatJPoolb
import Derived.Test.YtcndilpaijapkaaGreatJShpSearch
import Derived.Test.YtcndilpaijapkaaGreatJSize
import Derived.Test.YtcndilpaijapkaaGreatJStMath
/- A store in memory: its struct, its heap, its arena and pools, its lists, each in blocks of its own (told apart by labels), among other blocks F that it leaves alone; what a step that turns one part leaves. Own work; no program is walked here. -/
namespace Go.Proofs.YtcndilpaijapkaaGreat.Shp
open Sto
open Go.ChangeShapes Go.WideShapes Go.ChangeAt Go.RowKit
set_option maxRecDepth 100000

/-- The labels behind a step: what is new bears j. -/
def rel (n j : Nat) (lab : Nat → Nat) (b : Nat) : Nat := if b < n then lab b else j
theorem rel_lt {n j b : Nat} {lab : Nat → Nat} (h : b < n) : rel n j lab b = lab b := if_pos h
theorem rel_ge {n j b : Nat} {lab : Nat → Nat} (h : n ≤ b) : rel n j lab b = j := if_neg (by omega)
abbrev Tn (I : Nat → Prop) (lab : Nat → Nat) (b : Nat) : Prop := I (lab b)
theorem kept_lt {D E : Nat → Prop} {a b : World} (h : Kept D a b) (he : ∀ i, i < a.heap.size → D i → E i) : Kept E a b := ⟨h.os, h.tape, h.output, h.size, fun i hi hd => h.block i hi fun x => hd (he i hi x)⟩
/-- A table's other blocks may turn. -/
theorem StS.turns {w0 W W' : World} {p : Nat} {P : Int} {l : List S} {F G D : Nat → Prop} (h : StS w0 W p P l F) (k : Kept D W W') (hD : ∀ b, D b → b < W.heap.size → F b ∧ w0.heap.size ≤ b) (hG : ∀ b, G b → F b ∨ (W.heap.size ≤ b ∧ b < W'.heap.size)) : StS w0 W' p P l G := by
  obtain ⟨v, T, g, hP, K, f⟩ := h
  have k2 : Kept (fun b => D b ∧ b < W.heap.size) W W' := kept_lt k fun i hi d => ⟨d, hi⟩
  have hp := T.box.lt
  refine ⟨v, T.kept k2 (fun e => (f p (hD p e.1 e.2).1).1 rfl) (fun gg e d => (f gg (hD gg d.1 d.2).1).2.1 e), g, hP, K.join k2 (fun i hi e => by have := (hD i e.1 e.2).2; omega), fun b hb => ?_⟩
  rcases hG b hb with e | ⟨e1, e2⟩
  · have := f b e
    exact ⟨this.1, this.2.1, Nat.lt_of_lt_of_le this.2.2 k.size⟩
  · exact ⟨by omega, fun e => by have := (T.own.own b e.symm).2; omega, e2⟩
theorem Hp.turns {w0 W W' : World} {h : Nat} {P : Int} {rl : List R} {sl : List S} {F G D : Nat → Prop} (H : Hp w0 W h P rl sl F) (k : Kept D W W') (hD : ∀ b, D b → b < W.heap.size → F b ∧ w0.heap.size ≤ b) (hG : ∀ b, G b → F b ∨ (W.heap.size ≤ b ∧ b < W'.heap.size)) : Hp w0 W' h P rl sl G := by
  obtain ⟨q, A, n, c, H⟩ := H
  have k2 : Kept (fun b => D b ∧ b < W.heap.size) W W' := kept_lt k fun i hi d => ⟨d, hi⟩
  have hl := H.box.lt
  refine ⟨q, A, n, c, H.box.kept k2 (fun e => (H.far h (hD h e.1 e.2).1).1 rfl), H.runs.fr k2 (fun d hd e => (H.far d (hD d e.1 e.2).1).2 hd), H.cap, H.nil, StS.turns H.tab k2 (fun b e _ => ⟨.inl (hD b e.1 e.2).1, (hD b e.1 e.2).2⟩) (fun b hb => ?_), H.whole, H.low, fun b hb => ?_⟩
  · rcases hb with hb | hb
    · rcases hG b hb with e | e
      · exact .inl (.inl e)
      · exact .inr e
    · exact .inl (.inr hb)
  · rcases hG b hb with e | e
    · exact H.far b e
    · exact ⟨by omega, fun z => by have := H.runs.ltB z; omega⟩
theorem big_fr {D : Nat → Prop} {W W' : World} {A : Option Addr} {n : Nat} {l : List Bg.R} (h : Bg.Rs W A n l) (k : Kept D W W') (hd : ∀ b, b < W.heap.size → FR A n b → ¬ D b) : Bg.Rs W' A n l :=
  ⟨h.len, h.fit, fun hn => by
    obtain ⟨g, o, rfl, hg, c⟩ := h.lies hn
    have hd' : ¬ D g := hd g hg ⟨hn, _, rfl, rfl⟩
    exact ⟨g, o, rfl, Nat.lt_of_lt_of_le hg k.size, fun i x hx => ⟨(k.cell (p := ⟨g, o + i * 2, none⟩) hg hd').trans (c i x hx).1, (k.cell (p := ⟨g, o + i * 2 + 1, none⟩) hg hd').trans (c i x hx).2⟩⟩⟩
theorem int_fr {D : Nat → Prop} {W W' : World} {A : Option Addr} {n : Nat} {l : List Int} (h : RsI W A n l) (k : Kept D W W') (hd : ∀ b, b < W.heap.size → FR A n b → ¬ D b) : RsI W' A n l :=
  ⟨h.len, h.fit, fun hn => by
    obtain ⟨g, o, rfl, hg, c⟩ := h.lies hn
    have hd' : ¬ D g := hd g hg ⟨hn, _, rfl, rfl⟩
    exact ⟨g, o, rfl, Nat.lt_of_lt_of_le hg k.size, fun i x hx => (k.cell (p := ⟨g, o + i, none⟩) hg hd').trans (c i x hx)⟩⟩
theorem big_lt {W : World} {A : Option Addr} {n : Nat} {l : List Bg.R} (h : Bg.Rs W A n l) {b : Nat} (hb : FR A n b) : b < W.heap.size := by
  obtain ⟨hn, ad, e, rfl⟩ := hb
  obtain ⟨g, o, rfl, hg, _⟩ := h.lies hn
  injection e with e
  subst e
  exact hg
theorem int_lt {W : World} {A : Option Addr} {n : Nat} {l : List Int} (h : RsI W A n l) {b : Nat} (hb : FR A n b) : b < W.heap.size := by
  obtain ⟨hn, ad, e, rfl⟩ := hb
  obtain ⟨g, o, rfl, hg, _⟩ := h.lies hn
  injection e with e
  subst e
  exact hg
/-- Where the parts lie. -/
structure Pl where
  a : Nat
  g : Nat
  h : Nat
  pq : Nat → Nat
  pv : Nat → Value
  ws : List Nat
  A1 : Option Addr
  n1 : Nat
  c1 : Nat
  A2 : Option Addr
  n2 : Nat
  c2 : Nat
  lv : Value
  cb : Nat
  nw : Nat
  lab : Nat → Nat
abbrev nilp : Value := .pointer none
abbrev cells (pl : Pl) (on : Bool) : List Value := [ptr pl.a, ptr pl.h, ptr (pl.pq 0), ptr (pl.pq 1), ptr (pl.pq 2), ptr (pl.pq 3), nilp, nilp, nilp, nilp, .slice (some ⟨pl.cb, 0, none⟩) pl.nw pl.nw, .slice pl.A1 pl.n1 pl.c1, .bool on, .slice pl.A2 pl.n2 pl.c2, pl.lv]
structure PlS (W : World) (pl : Pl) (k : K) (P : Nat) (w0 : World) (s : Nat) : Prop where
  box : Blk W s 88 (cells pl k.on)
  lab : pl.lab s = 0
structure PlH (W : World) (pl : Pl) (k : K) (P : Nat) (w0 : World) : Prop where
  hp : Hp w0 W pl.h (P : Int) k.rl k.sl (fun b => b < W.heap.size ∧ pl.lab b ≠ 1)
structure PlA (W : World) (pl : Pl) (P : Nat) : Prop where
  ar : Ar W pl.a pl.g pl.ws
  len : pl.ws.length = P * 64
  la : pl.lab pl.a = 2
  lg : pl.lab pl.g = 2
structure PlP (W : World) (pl : Pl) (k : K) (w0 : World) (c : Nat) : Prop where
  pt : Prt.Pt W w0.heap.size (pl.pq c) (pl.pv c) c (k.p c)
  lp : pl.lab (pl.pq c) = 3 + c
  lo : ∀ b, (pl.pv c).ownBlock = some b → pl.lab b = 3 + c
structure PlB (W : World) (pl : Pl) (k : K) : Prop where
  rs : Bg.Rs W pl.A1 pl.n1 k.big
  cap : pl.n1 ≤ pl.c1
  nil : pl.A1 = none → pl.c1 = 0
  lab : ∀ b, FR pl.A1 pl.n1 b → pl.lab b = 8
structure PlQ (W : World) (pl : Pl) (k : K) : Prop where
  rs : RsI W pl.A2 pl.n2 k.back
  cap : pl.n2 ≤ pl.c2
  nil : pl.A2 = none → pl.c2 = 0
  lab : ∀ b, FR pl.A2 pl.n2 b → pl.lab b = 9
structure PlL (W : World) (pl : Pl) (live : List Lm.S) (w0 : World) : Prop where
  ow : Lm.OwS W w0.heap.size pl.lv live.length live
  lab : ∀ b, pl.lv.ownBlock = some b → pl.lab b = 10
structure PlF (W : World) (pl : Pl) (w0 : World) (F : Nat → Prop) : Prop where
  kept : Kept Old w0 W
  low : ∀ b, b < w0.heap.size → pl.lab b = 99 ∨ pl.lab b = 98
  far : ∀ b, F b → pl.lab b = 98 ∧ b < W.heap.size
/-- A cell of the caches' block. -/
def cellC (ca : Ca) (i : Nat) : Value := if i % 2 = 0 then .int .i64 (Prt.headQ (ca (i / 16) (i / 2 % 8)) : Int) else .int .i64 ((ca (i / 16) (i / 2 % 8)).length : Int)
def rowC (nw : Nat) (ca : Ca) : List Value := (List.range (nw * 16)).map (cellC ca)
structure PlC (W : World) (pl : Pl) (ca : Ca) : Prop where
  box : Blk W pl.cb 124 (rowC pl.nw ca)
  lab : pl.lab pl.cb = 11
  ch : ∀ w c, w < pl.nw → c < 4 → Ch pl.ws (Prt.headQ (ca w c)) (ca w c)
  few : pl.nw ≤ 100
/-- A store at s of P pages, with the parts k and the live stacks of live. -/
structure StM (w0 W : World) (s P : Nat) (k : K) (ca : Ca) (live : List Lm.S) (F : Nat → Prop) (pl : Pl) : Prop where
  st : PlS W pl k P w0 s
  hp : PlH W pl k P w0
  ar : PlA W pl P
  pt : ∀ c, c < 4 → PlP W pl k w0 c
  ch : ∀ c, c < 4 → Prt.Chs pl.ws (k.p c)
  kb : PlB W pl k
  kq : PlQ W pl k
  lv : PlL W pl live w0
  cs : PlC W pl ca
  ff : PlF W pl w0 F
def Pl.re (pl : Pl) (n j : Nat) : Pl := { pl with lab := rel n j pl.lab }
/-- Another place of the same parts: what the struct holds of pointers stays. -/
structure Same (pl pl' : Pl) : Prop where
  a : pl'.a = pl.a
  h : pl'.h = pl.h
  pq : pl'.pq = pl.pq
  cb : pl'.cb = pl.cb
  nw : pl'.nw = pl.nw
theorem Same.refl (pl : Pl) : Same pl pl := ⟨rfl, rfl, rfl, rfl, rfl⟩
theorem Same.trans {x y z : Pl} (h : Same x y) (k : Same y z) : Same x z := ⟨k.a.trans h.a, k.h.trans h.h, k.pq.trans h.pq, k.cb.trans h.cb, k.nw.trans h.nw⟩
section step
variable {w0 W W' : World} {s P : Nat} {k : K} {ca : Ca} {live : List Lm.S} {F : Nat → Prop} {pl : Pl} {I : Nat → Prop} {j : Nat}
theorem PlS.go (h : PlS W pl k P w0 s) (K : Kept (Tn I pl.lab) W W') (n : ¬ I 0) : PlS W' (pl.re W.heap.size j) k P w0 s :=
  ⟨h.box.kept K (fun e => n (h.lab ▸ e)), (rel_lt h.box.lt).trans h.lab⟩
theorem PlH.go (h : PlH W pl k P w0) (f : PlF W pl w0 F) (K : Kept (Tn I pl.lab) W W') (n : ¬ I 1) (i98 : ¬ I 98) (i99 : ¬ I 99) : PlH W' (pl.re W.heap.size j) k P w0 := by
  refine ⟨Hp.turns h.hp K (fun b hb hl => ⟨⟨hl, fun e => n (e ▸ hb)⟩, ?_⟩) (fun b hb => ?_)⟩
  · apply Classical.byContradiction
    intro q
    rcases f.low b (by omega) with e | e
    · exact i99 (e ▸ hb)
    · exact i98 (e ▸ hb)
  · obtain ⟨b1, b2⟩ := hb
    by_cases c : b < W.heap.size
    · exact .inl ⟨c, by rw [← rel_lt (j := j) (lab := pl.lab) c]; exact b2⟩
    · exact .inr ⟨by omega, b1⟩
theorem PlA.go (h : PlA W pl P) (K : Kept (Tn I pl.lab) W W') (n : ¬ I 2) : PlA W' (pl.re W.heap.size j) P :=
  ⟨h.ar.kept K (fun e => n (h.la ▸ e)) (fun e => n (h.lg ▸ e)), h.len, (rel_lt h.ar.box.lt).trans h.la, (rel_lt h.ar.row.lt).trans h.lg⟩
theorem PlP.go {c : Nat} (h : PlP W pl k w0 c) (K : Kept (Tn I pl.lab) W W') (n : ¬ I (3 + c)) : PlP W' (pl.re W.heap.size j) k w0 c :=
  ⟨h.pt.kept K (fun e => n (h.lp ▸ e)) (fun g e d => n (h.lo g e ▸ d)), (rel_lt h.pt.box.lt).trans h.lp, fun b e => (rel_lt (h.pt.own.own b e.symm).2).trans (h.lo b e)⟩
theorem PlB.go (h : PlB W pl k) (K : Kept (Tn I pl.lab) W W') (n : ¬ I 8) : PlB W' (pl.re W.heap.size j) k :=
  ⟨big_fr h.rs K (fun b _ hb e => n (h.lab b hb ▸ e)), h.cap, h.nil, fun b hb => (rel_lt (big_lt h.rs hb)).trans (h.lab b hb)⟩
theorem PlQ.go (h : PlQ W pl k) (K : Kept (Tn I pl.lab) W W') (n : ¬ I 9) : PlQ W' (pl.re W.heap.size j) k :=
  ⟨int_fr h.rs K (fun b _ hb e => n (h.lab b hb ▸ e)), h.cap, h.nil, fun b hb => (rel_lt (int_lt h.rs hb)).trans (h.lab b hb)⟩
theorem PlL.go (h : PlL W pl live w0) (K : Kept (Tn I pl.lab) W W') (n : ¬ I 10) : PlL W' (pl.re W.heap.size j) live w0 :=
  ⟨h.ow.kept K (fun g e d => n (h.lab g e ▸ d)), fun b e => (rel_lt (h.ow.own b e.symm).2).trans (h.lab b e)⟩
theorem PlC.go (h : PlC W pl ca) (K : Kept (Tn I pl.lab) W W') (n : ¬ I 11) : PlC W' (pl.re W.heap.size j) ca :=
  ⟨h.box.kept K (fun e => n (h.lab ▸ e)), (rel_lt h.box.lt).trans h.lab, h.ch, h.few⟩
theorem PlF.go (h : PlF W pl w0 F) (K : Kept (Tn I pl.lab) W W') (i98 : ¬ I 98) (i99 : ¬ I 99) : PlF W' (pl.re W.heap.size j) w0 F := by
  have s := h.kept.size
  refine ⟨h.kept.join K (fun i hi e => ?_), fun b hb => ?_, fun b hb => ?_⟩
  · rcases h.low i hi with z | z
    · exact (i99 (z ▸ e)).elim
    · exact (i98 (z ▸ e)).elim
  · rw [show (pl.re W.heap.size j).lab b = pl.lab b from rel_lt (by omega)]; exact h.low b hb
  · obtain ⟨a, b'⟩ := h.far b hb
    exact ⟨(rel_lt b').trans a, Nat.lt_of_lt_of_le b' K.size⟩
theorem PlF.frame (h : PlF W pl w0 F) (K : Kept (Tn I pl.lab) W W') (i98 : ¬ I 98) : Kept (Fr F) W W' := K.mono fun i e hF => i98 ((h.far i hF).1 ▸ e)
end step
section turn
variable {w0 W W' : World} {s P : Nat} {k : K} {ca : Ca} {live : List Lm.S} {F : Nat → Prop} {pl : Pl}
theorem StM.frame {I : Nat → Prop} (m : StM w0 W s P k ca live F pl) (K : Kept (Tn I pl.lab) W W') (i98 : ¬ I 98) : Kept (Fr F) W W' := m.ff.frame K i98
theorem old_tn {lab : Nat → Nat} (K : Kept Old W W') : Kept (Tn (fun _ => False) lab) W W' := K.mono fun _ x => x.elim
/-- Nothing of the store has turned; what is new is nobody's. -/
theorem StM.old (m : StM w0 W s P k ca live F pl) (K : Kept Old W W') : StM w0 W' s P k ca live F (pl.re W.heap.size 97) :=
  have K := old_tn (lab := pl.lab) K
  ⟨m.st.go K id, m.hp.go m.ff K id id id, m.ar.go K id, fun c hc => (m.pt c hc).go K id, m.ch, m.kb.go K id, m.kq.go K id, m.lv.go K id, m.cs.go K id, m.ff.go K id id⟩
/-- Blocks that came since are none of the store's. -/
theorem StM.more {G : Nat → Prop} (m : StM w0 W s P k ca live F pl) (K : Kept Old W W') (hG : ∀ b, G b → F b ∨ (W.heap.size ≤ b ∧ b < W'.heap.size)) : StM w0 W' s P k ca live G (pl.re W.heap.size 98) := by
  have K' := old_tn (lab := pl.lab) K
  have f := m.ff.go (j := 98) K' id id
  refine ⟨m.st.go K' id, m.hp.go m.ff K' id id id, m.ar.go K' id, fun c hc => (m.pt c hc).go K' id, m.ch, m.kb.go K' id, m.kq.go K' id, m.lv.go K' id, m.cs.go K' id, ⟨f.kept, f.low, fun b hb => ?_⟩⟩
  rcases hG b hb with e | ⟨e1, e2⟩
  · exact f.far b e
  · exact ⟨rel_ge e1, e2⟩
/-- A step that turns blocks of F alone, new since w0 or not. -/
theorem StM.only {G D : Nat → Prop} (m : StM w0 W s P k ca live F pl) (K : Kept D W W') (hD : ∀ b, D b → b < W.heap.size → F b ∧ w0.heap.size ≤ b) (hG : ∀ b, G b → F b ∨ (W.heap.size ≤ b ∧ b < W'.heap.size)) : StM w0 W' s P k ca live G (pl.re W.heap.size 98) := by
  have K1 : Kept (Tn (fun i => i = 98) pl.lab) W W' := kept_lt K fun i hi d => (m.ff.far i (hD i d hi).1).1
  have K0 : Kept (fun b => D b ∧ b < W.heap.size) W W' := kept_lt K fun i hi d => ⟨d, hi⟩
  refine ⟨m.st.go K1 (by omega), ⟨Hp.turns m.hp.hp K (fun b hb hl => ?_) (fun b hb => ?_)⟩, m.ar.go K1 (by omega), fun c hc => (m.pt c hc).go K1 (by omega), m.ch, m.kb.go K1 (by omega), m.kq.go K1 (by omega), m.lv.go K1 (by omega), m.cs.go K1 (by omega), ⟨m.ff.kept.join K0 (fun i hi e => by have := (hD i e.1 e.2).2; omega), fun b hb => ?_, fun b hb => ?_⟩⟩
  · have := hD b hb hl
    exact ⟨⟨hl, by rw [(m.ff.far b this.1).1]; omega⟩, this.2⟩
  · obtain ⟨b1, b2⟩ := hb
    by_cases c : b < W.heap.size
    · exact .inl ⟨c, by rw [← rel_lt (j := 98) (lab := pl.lab) c]; exact b2⟩
    · exact .inr ⟨by omega, b1⟩
  · have := m.ff.kept.size
    rw [show (pl.re W.heap.size 98).lab b = pl.lab b from rel_lt (by omega)]; exact m.ff.low b hb
  · rcases hG b hb with e | ⟨e1, e2⟩
    · obtain ⟨z1, z2⟩ := m.ff.far b e
      exact ⟨(rel_lt z2).trans z1, Nat.lt_of_lt_of_le z2 K.size⟩
    · exact ⟨rel_ge e1, e2⟩
/-- The heap has turned. -/
theorem StM.heap {rl : List R} {sl : List S} (m : StM w0 W s P k ca live F pl) (H : Hp w0 W' pl.h (P : Int) rl sl (fun b => b < W.heap.size ∧ pl.lab b ≠ 1)) (K : Kept (Fr (fun b => b < W.heap.size ∧ pl.lab b ≠ 1)) W W') :
    StM w0 W' s P { k with rl := rl, sl := sl } ca live F (pl.re W.heap.size 1) ∧ Kept (Fr F) W W' := by
  have K1 : Kept (Tn (fun i => i = 1) pl.lab) W W' := kept_lt K fun i hi d => Classical.byContradiction fun q => d ⟨hi, q⟩
  refine ⟨⟨⟨(m.st.go (j := 1) K1 (by omega)).box, (m.st.go (j := 1) K1 (by omega)).lab⟩, ⟨H.more (Kept.refl _ _) (fun b hb => .inl ?_)⟩, m.ar.go K1 (by omega), fun c hc => ?_, m.ch, ?_, ?_, m.lv.go K1 (by omega), m.cs.go K1 (by omega), m.ff.go K1 (by omega) (by omega)⟩, m.ff.frame K1 (by omega)⟩
  · obtain ⟨b1, b2⟩ := hb
    by_cases c : b < W.heap.size
    · exact ⟨c, by rw [← rel_lt (j := 1) (lab := pl.lab) c]; exact b2⟩
    · exact absurd (rel_ge (by omega)) b2
  · have q := (m.pt c hc).go (j := 1) K1 (by omega)
    exact ⟨q.pt, q.lp, q.lo⟩
  · have q := m.kb.go (j := 1) K1 (by omega)
    exact ⟨q.rs, q.cap, q.nil, q.lab⟩
  · have q := m.kq.go (j := 1) K1 (by omega)
    exact ⟨q.rs, q.cap, q.nil, q.lab⟩
/-- A pool has turned, and words of one of its spans. -/
theorem StM.pool {c : Nat} (hc : c < 4) {L : List Prt.Q} {lo : Nat → Prop} (m : StM w0 W s P k ca live F pl) (H : Prt.ChgP w0.heap.size (pl.pq c) pl.a pl.g (pl.pv c) c L pl.ws lo W W') (far : ∀ d, d < 4 → d ≠ c → ∀ x ∈ k.p d, ∀ a ∈ x.free, ¬ lo a) (far2 : ∀ w c, ∀ a ∈ ca w c, ¬ lo a) :
    (∃ pl', StM w0 W' s P (k.pool c L) ca live F pl' ∧ Same pl pl') ∧ Kept (Fr F) W W' := by
  obtain ⟨v', vs, T, A, C, hl, K, ob, fr⟩ := H
  have P0 := m.pt c hc
  have K1 : Kept (Tn (fun i => i = 2 ∨ i = 3 + c) pl.lab) W W' := K.mono fun i e => by
    rcases e with e | e | e
    · exact .inr (e ▸ P0.lp)
    · exact .inl (e ▸ m.ar.lg)
    · exact .inr (P0.lo i e.symm)
  refine ⟨⟨{ pl.re W.heap.size (3 + c) with ws := vs, pv := fun d => if d = c then v' else pl.pv d }, ⟨?_, ?_, ⟨A, by rw [hl]; exact m.ar.len, (m.ar.go (j := 3 + c) (I := fun _ => False) ⟨rfl, rfl, rfl, Nat.le_refl _, fun _ _ _ => rfl⟩ id).la, (m.ar.go (j := 3 + c) (I := fun _ => False) ⟨rfl, rfl, rfl, Nat.le_refl _, fun _ _ _ => rfl⟩ id).lg⟩, fun d hd => ?_, fun d hd => ?_, ?_, ?_, ?_, ?_, ?_⟩, ⟨rfl, rfl, rfl, rfl, rfl⟩⟩, m.ff.frame K1 (by omega)⟩
  · have q := m.st.go (j := 3 + c) K1 (by omega)
    exact ⟨q.box, q.lab⟩
  · exact ⟨(m.hp.go (j := 3 + c) m.ff K1 (by omega) (by omega) (by omega)).hp⟩
  · by_cases e : d = c
    · subst e
      refine ⟨?_, (rel_lt P0.pt.box.lt).trans P0.lp, fun b hb => ?_⟩
      · show Prt.Pt W' _ _ (if d = d then v' else pl.pv d) d ((k.pool d L).p d)
        rw [if_pos rfl, Sto.K.pool_at]
        exact T
      · have hb : v'.ownBlock = some b := by
          have : (if d = d then v' else pl.pv d).ownBlock = some b := hb
          rwa [if_pos rfl] at this
        rcases ob with z | ⟨b', z, hb'⟩
        · rw [z] at hb
          exact (rel_lt (P0.pt.own.own b hb.symm).2).trans (P0.lo b hb)
        · rw [z] at hb
          injection hb with hb
          exact rel_ge (by omega)
    · have q := (m.pt d hd).go (j := 3 + c) K1 (by omega)
      refine ⟨?_, q.lp, fun b hb => q.lo b ?_⟩
      · show Prt.Pt W' _ _ (if d = c then v' else pl.pv d) d ((k.pool c L).p d)
        rw [if_neg e, Sto.K.pool_ne _ _ e]
        exact q.pt
      · have : (if d = c then v' else pl.pv d).ownBlock = some b := hb
        rwa [if_neg e] at this
  · show Prt.Chs vs ((k.pool c L).p d)
    by_cases e : d = c
    · subst e; rw [Sto.K.pool_at]; exact C
    · rw [Sto.K.pool_ne _ _ e]
      exact fun x hx => fr _ _ (m.ch d hd x hx) (far d hd e x hx)
  · have q := m.kb.go (j := 3 + c) K1 (by omega)
    exact ⟨q.rs, q.cap, q.nil, q.lab⟩
  · have q := m.kq.go (j := 3 + c) K1 (by omega)
    exact ⟨q.rs, q.cap, q.nil, q.lab⟩
  · have q := m.lv.go (j := 3 + c) K1 (by omega)
    exact ⟨q.ow, q.lab⟩
  · have q := m.cs.go (j := 3 + c) K1 (by omega)
    exact ⟨q.box, q.lab, fun w c' hw hc' => fr _ _ (m.cs.ch w c' hw hc') (far2 w c'), q.few⟩
  · have q := m.ff.go (j := 3 + c) K1 (by omega) (by omega)
    exact ⟨q.kept, q.low, q.far⟩
/-- The large ones that wait are another list, new memory. -/
theorem StM.big {L : List Bg.R} {A : Option Addr} {n c : Nat} (m : StM w0 W s P k ca live F pl) (R' : Bg.Rs W' A n L) (hc : n ≤ c) (hA : A = none → c = 0) (new : ∀ ad, A = some ad → W.heap.size ≤ ad.block) (K : Kept Old W W') :
    (∃ pl', StM w0 (W'.setCell ⟨s, 11, none⟩ (.slice A n c)) s P { k with big := L } ca live F pl' ∧ Same pl pl') ∧ Kept (Fr F) W (W'.setCell ⟨s, 11, none⟩ (.slice A n c)) := by
  have K0 := old_tn (lab := pl.lab) K
  have S0 := m.st.go (j := 8) K0 id
  have ks := only_setCell W' s 11 (.slice A n c)
  have K1 : Kept (Tn (fun i => i = 0) pl.lab) W (W'.setCell ⟨s, 11, none⟩ (.slice A n c)) := (K0.mono fun _ e => e.elim).trans (kept_lt ks fun i _ e => by have e : i = s := e; rw [e]; exact m.st.lab)
  have ne : ∀ b, FR A n b → ¬ (Only s) b := fun b hb e => by
    obtain ⟨_, ad, z, rfl⟩ := hb
    have := new ad z
    have := m.st.box.lt
    have e : ad.block = s := e
    omega
  refine ⟨⟨{ pl.re W.heap.size 8 with A1 := A, n1 := n, c1 := c }, ⟨⟨?_, S0.lab⟩, ⟨(m.hp.go (j := 8) m.ff K1 (by omega) (by omega) (by omega)).hp⟩, ?_, fun d hd => ?_, m.ch, ⟨big_fr R' ks (fun b _ hb => ne b hb), hc, hA, fun b hb => ?_⟩, ?_, ?_, ?_, ?_⟩, ⟨rfl, rfl, rfl, rfl, rfl⟩⟩, m.ff.frame K1 (by omega)⟩
  · exact S0.box.put 11 (.slice A n c)
  · have q := m.ar.go (j := 8) K1 (by omega)
    exact ⟨q.ar, q.len, q.la, q.lg⟩
  · have q := (m.pt d hd).go (j := 8) K1 (by omega)
    exact ⟨q.pt, q.lp, q.lo⟩
  · obtain ⟨_, ad, z, rfl⟩ := hb
    exact rel_ge (new ad z)
  · have q := m.kq.go (j := 8) K1 (by omega)
    exact ⟨q.rs, q.cap, q.nil, q.lab⟩
  · have q := m.lv.go (j := 8) K1 (by omega)
    exact ⟨q.ow, q.lab⟩
  · have q := m.cs.go (j := 8) K1 (by omega)
    exact ⟨q.box, q.lab, q.ch, q.few⟩
  · have q := m.ff.go (j := 8) K1 (by omega) (by omega)
    exact ⟨q.kept, q.low, q.far⟩
/-- The queue is another one, new memory; the phase is stored with it. -/
theorem StM.late {L : List Int} {A : Option Addr} {n c : Nat} {on : Bool} (m : StM w0 W s P k ca live F pl) (R' : RsI W' A n L) (hc : n ≤ c) (hA : A = none → c = 0) (new : ∀ ad, A = some ad → W.heap.size ≤ ad.block) (K : Kept Old W W') :
    (∃ pl', StM w0 ((W'.setCell ⟨s, 12, none⟩ (.bool on)).setCell ⟨s, 13, none⟩ (.slice A n c)) s P { k with on := on, back := L } ca live F pl' ∧ Same pl pl') ∧ Kept (Fr F) W ((W'.setCell ⟨s, 12, none⟩ (.bool on)).setCell ⟨s, 13, none⟩ (.slice A n c)) := by
  have K0 := old_tn (lab := pl.lab) K
  have S0 := m.st.go (j := 9) K0 id
  have ks : Kept (Only s) W' ((W'.setCell ⟨s, 12, none⟩ (.bool on)).setCell ⟨s, 13, none⟩ (.slice A n c)) := (only_setCell W' s 12 (.bool on)).trans (only_setCell _ s 13 _)
  have K1 : Kept (Tn (fun i => i = 0) pl.lab) W ((W'.setCell ⟨s, 12, none⟩ (.bool on)).setCell ⟨s, 13, none⟩ (.slice A n c)) := (K0.mono fun _ e => e.elim).trans (kept_lt ks fun i _ e => by have e : i = s := e; rw [e]; exact m.st.lab)
  have ne : ∀ b, FR A n b → ¬ (Only s) b := fun b hb e => by
    obtain ⟨_, ad, z, rfl⟩ := hb
    have := new ad z
    have := m.st.box.lt
    have e : ad.block = s := e
    omega
  refine ⟨⟨{ pl.re W.heap.size 9 with A2 := A, n2 := n, c2 := c }, ⟨⟨?_, S0.lab⟩, ⟨(m.hp.go (j := 9) m.ff K1 (by omega) (by omega) (by omega)).hp⟩, ?_, fun d hd => ?_, m.ch, ?_, ⟨int_fr R' ks (fun b _ hb => ne b hb), hc, hA, fun b hb => ?_⟩, ?_, ?_, ?_⟩, ⟨rfl, rfl, rfl, rfl, rfl⟩⟩, m.ff.frame K1 (by omega)⟩
  · exact (S0.box.put 12 (.bool on)).put 13 (.slice A n c)
  · have q := m.ar.go (j := 9) K1 (by omega)
    exact ⟨q.ar, q.len, q.la, q.lg⟩
  · have q := (m.pt d hd).go (j := 9) K1 (by omega)
    exact ⟨q.pt, q.lp, q.lo⟩
  · have q := m.kb.go (j := 9) K1 (by omega)
    exact ⟨q.rs, q.cap, q.nil, q.lab⟩
  · obtain ⟨_, ad, z, rfl⟩ := hb
    exact rel_ge (new ad z)
  · have q := m.lv.go (j := 9) K1 (by omega)
    exact ⟨q.ow, q.lab⟩
  · have q := m.cs.go (j := 9) K1 (by omega)
    exact ⟨q.box, q.lab, q.ch, q.few⟩
  · have q := m.ff.go (j := 9) K1 (by omega) (by omega)
    exact ⟨q.kept, q.low, q.far⟩
/-- The live stacks' list has turned, and is stored. -/
theorem StM.lives {L : List Lm.S} {v : Value} (m : StM w0 W s P k ca live F pl) (O : Lm.OwS W' w0.heap.size v L.length L) (K : Kept (fun b => some b = pl.lv.ownBlock) W W') (ob : v.ownBlock = pl.lv.ownBlock ∨ ∃ b, v.ownBlock = some b ∧ W.heap.size ≤ b) :
    (∃ pl', StM w0 (W'.setCell ⟨s, 14, none⟩ v) s P k ca L F pl' ∧ Same pl pl') ∧ Kept (Fr F) W (W'.setCell ⟨s, 14, none⟩ v) := by
  have K0 : Kept (Tn (fun i => i = 10) pl.lab) W W' := K.mono fun i e => m.lv.lab i e.symm
  have S0 := m.st.go (j := 10) K0 (by omega)
  have ks := only_setCell W' s 14 v
  have K1 : Kept (Tn (fun i => i = 0 ∨ i = 10) pl.lab) W (W'.setCell ⟨s, 14, none⟩ v) := (K0.mono fun _ e => .inr e).trans (kept_lt ks fun i _ e => by have e : i = s := e; rw [e]; exact .inl m.st.lab)
  have own : ∀ b, v.ownBlock = some b → (pl.re W.heap.size 10).lab b = 10 ∧ b ≠ s := fun b hb => by
    rcases ob with z | ⟨b', z, hb'⟩
    · rw [z] at hb
      have := (m.lv.ow.own b hb.symm).2
      refine ⟨(rel_lt this).trans (m.lv.lab b hb), fun e => ?_⟩
      have := m.lv.lab b hb
      rw [e, m.st.lab] at this
      cases this
    · rw [z] at hb
      injection hb with hb
      have := m.st.box.lt
      exact ⟨rel_ge (by omega), by omega⟩
  refine ⟨⟨{ pl.re W.heap.size 10 with lv := v }, ⟨⟨?_, S0.lab⟩, ⟨(m.hp.go (j := 10) m.ff K1 (by omega) (by omega) (by omega)).hp⟩, ?_, fun d hd => ?_, m.ch, ?_, ?_, ⟨O.kept ks (fun b hb e => (own b hb).2 e), fun b hb => (own b hb).1⟩, ?_, ?_⟩, ⟨rfl, rfl, rfl, rfl, rfl⟩⟩, m.ff.frame K1 (by omega)⟩
  · exact S0.box.put 14 v
  · have q := m.ar.go (j := 10) K1 (by omega)
    exact ⟨q.ar, q.len, q.la, q.lg⟩
  · have q := (m.pt d hd).go (j := 10) K1 (by omega)
    exact ⟨q.pt, q.lp, q.lo⟩
  · have q := m.kb.go (j := 10) K1 (by omega)
    exact ⟨q.rs, q.cap, q.nil, q.lab⟩
  · have q := m.kq.go (j := 10) K1 (by omega)
    exact ⟨q.rs, q.cap, q.nil, q.lab⟩
  · have q := m.cs.go (j := 10) K1 (by omega)
    exact ⟨q.box, q.lab, q.ch, q.few⟩
  · have q := m.ff.go (j := 10) K1 (by omega) (by omega)
    exact ⟨q.kept, q.low, q.far⟩
/-! ### The caches -/
theorem row_len (nw : Nat) (ca : Ca) : (rowC nw ca).length = nw * 16 := by unfold rowC; simp
theorem row_get {nw i : Nat} (ca : Ca) (h : i < nw * 16) : (rowC nw ca)[i]? = some (cellC ca i) := by
  unfold rowC
  rw [List.getElem?_map, List.getElem?_range h]
  rfl
theorem row_head {nw w c : Nat} (ca : Ca) (hw : w < nw) (hc : c < 8) : (rowC nw ca)[w * 16 + c * 2]? = some (.int .i64 (Prt.headQ (ca w c) : Int)) := by
  rw [row_get ca (by omega)]
  unfold cellC
  rw [if_pos (by omega), show (w * 16 + c * 2) / 16 = w by omega, show (w * 16 + c * 2) / 2 % 8 = c by omega]
theorem row_num {nw w c : Nat} (ca : Ca) (hw : w < nw) (hc : c < 8) : (rowC nw ca)[w * 16 + c * 2 + 1]? = some (.int .i64 ((ca w c).length : Int)) := by
  rw [row_get ca (by omega)]
  unfold cellC
  rw [if_neg (by omega), show (w * 16 + c * 2 + 1) / 16 = w by omega, show (w * 16 + c * 2 + 1) / 2 % 8 = c by omega]
theorem row_set {nw w c : Nat} (ca : Ca) (l : List Nat) (hw : w < nw) (hc : c < 8) : ((rowC nw ca).set (w * 16 + c * 2) (.int .i64 (Prt.headQ l : Int))).set (w * 16 + c * 2 + 1) (.int .i64 (l.length : Int)) = rowC nw (up ca w c l) := by
  apply List.ext_getElem?
  intro i
  by_cases hi : i < nw * 16
  · rw [row_get _ hi, List.getElem?_set, List.getElem?_set, List.length_set, row_len, row_get _ hi]
    by_cases e1 : w * 16 + c * 2 + 1 = i
    · rw [if_pos e1, if_pos (by omega)]
      have := row_num (nw := nw) (up ca w c l) hw hc
      rw [e1, row_get _ hi, up_at] at this
      exact this.symm
    · rw [if_neg e1]
      by_cases e2 : w * 16 + c * 2 = i
      · rw [if_pos e2, if_pos (by omega)]
        have := row_head (nw := nw) (up ca w c l) hw hc
        rw [e2, row_get _ hi, up_at] at this
        exact this.symm
      · rw [if_neg e2]
        unfold cellC
        rw [up_ne _ _ (show ¬ (i / 16 = w ∧ i / 2 % 8 = c) by omega)]
  · rw [List.getElem?_eq_none (by rw [List.length_set, List.length_set, row_len]; omega), List.getElem?_eq_none (by rw [row_len]; omega)]
theorem StM.caches {l : List Nat} {ws : List Nat} {w c : Nat} (m : StM w0 W s P k ca live F pl) (hw : w < pl.nw) (hc : c < 4) (A : Ar W' pl.a pl.g ws) (hl : ws.length = pl.ws.length) (K : Kept (Only pl.g) W W') (c1 : ∀ d, d < 4 → Prt.Chs ws (k.p d)) (c2 : ∀ w' c', w' < pl.nw → c' < 4 → Ch ws (Prt.headQ (up ca w c l w' c')) (up ca w c l w' c')) :
    (∃ pl', StM w0 ((W'.setCell ⟨pl.cb, w * 16 + c * 2, none⟩ (.int .i64 (Prt.headQ l : Int))).setCell ⟨pl.cb, w * 16 + c * 2 + 1, none⟩ (.int .i64 (l.length : Int))) s P k (up ca w c l) live F pl' ∧ Same pl pl') ∧ Kept (Fr F) W ((W'.setCell ⟨pl.cb, w * 16 + c * 2, none⟩ (.int .i64 (Prt.headQ l : Int))).setCell ⟨pl.cb, w * 16 + c * 2 + 1, none⟩ (.int .i64 (l.length : Int))) := by
  have ks : Kept (Only pl.cb) W' ((W'.setCell ⟨pl.cb, w * 16 + c * 2, none⟩ (.int .i64 (Prt.headQ l : Int))).setCell ⟨pl.cb, w * 16 + c * 2 + 1, none⟩ (.int .i64 (l.length : Int))) := (only_setCell W' pl.cb _ _).trans (only_setCell _ pl.cb _ _)
  have K0 : Kept (Tn (fun i => i = 2) pl.lab) W W' := K.mono fun i e => by have e : i = pl.g := e; show pl.lab i = 2; rw [e]; exact m.ar.lg
  have K1 : Kept (Tn (fun i => i = 2 ∨ i = 11) pl.lab) W ((W'.setCell ⟨pl.cb, w * 16 + c * 2, none⟩ (.int .i64 (Prt.headQ l : Int))).setCell ⟨pl.cb, w * 16 + c * 2 + 1, none⟩ (.int .i64 (l.length : Int))) := (K0.mono fun _ e => .inl e).trans (kept_lt ks fun i _ e => by have e : i = pl.cb := e; rw [e]; exact .inr m.cs.lab)
  have gl := m.ar.lg
  have al := m.ar.la
  have cl := m.cs.lab
  have na : pl.a ≠ pl.cb := fun e => by rw [e, cl] at al; cases al
  have ng : pl.g ≠ pl.cb := fun e => by rw [e, cl] at gl; cases gl
  have b1 := m.cs.box.kept K (fun e => ng e.symm)
  refine ⟨⟨{ pl.re W.heap.size 97 with ws := ws }, ⟨?_, ⟨(m.hp.go (j := 97) m.ff K1 (by omega) (by omega) (by omega)).hp⟩, ⟨A.kept ks na ng, hl.trans m.ar.len, (rel_lt m.ar.ar.box.lt).trans al, (rel_lt m.ar.ar.row.lt).trans gl⟩, fun d hd => ?_, c1, ?_, ?_, ?_, ⟨?_, (rel_lt m.cs.box.lt).trans cl, c2, m.cs.few⟩, ?_⟩, ⟨rfl, rfl, rfl, rfl, rfl⟩⟩, m.ff.frame K1 (by omega)⟩
  · have q := m.st.go (j := 97) K1 (by omega)
    exact ⟨q.box, q.lab⟩
  · have q := (m.pt d hd).go (j := 97) K1 (by omega)
    exact ⟨q.pt, q.lp, q.lo⟩
  · have q := m.kb.go (j := 97) K1 (by omega)
    exact ⟨q.rs, q.cap, q.nil, q.lab⟩
  · have q := m.kq.go (j := 97) K1 (by omega)
    exact ⟨q.rs, q.cap, q.nil, q.lab⟩
  · have q := m.lv.go (j := 97) K1 (by omega)
    exact ⟨q.ow, q.lab⟩
  · have q := (b1.put (w * 16 + c * 2) (.int .i64 (Prt.headQ l : Int))).put (w * 16 + c * 2 + 1) (.int .i64 (l.length : Int))
    rw [row_set ca l hw (by omega)] at q
    exact q
  · have q := m.ff.go (j := 97) K1 (by omega) (by omega)
    exact ⟨q.kept, q.low, q.far⟩
/-- One more in a cache. -/
theorem StM.push {w c a : Nat} (m : StM w0 W s P k ca live F pl) (hw : w < pl.nw) (hc : c < 4) (A : Ar W' pl.a pl.g (pl.ws.set a (Prt.headQ (ca w c)))) (K : Kept (Only pl.g) W W') (ha : a < pl.ws.length) (np : ∀ d, d < 4 → ∀ x ∈ k.p d, a ∉ x.free) (nc : ∀ w' c', a ∉ ca w' c') :
    (∃ pl', StM w0 ((W'.setCell ⟨pl.cb, w * 16 + c * 2, none⟩ (.int .i64 (Prt.headQ (a :: ca w c) : Int))).setCell ⟨pl.cb, w * 16 + c * 2 + 1, none⟩ (.int .i64 ((a :: ca w c).length : Int))) s P k (up ca w c (a :: ca w c)) live F pl' ∧ Same pl pl') ∧ Kept (Fr F) W ((W'.setCell ⟨pl.cb, w * 16 + c * 2, none⟩ (.int .i64 (Prt.headQ (a :: ca w c) : Int))).setCell ⟨pl.cb, w * 16 + c * 2 + 1, none⟩ (.int .i64 ((a :: ca w c).length : Int))) := by
  refine m.caches hw hc A (by rw [List.length_set]) K (fun d hd x hx => (m.ch d hd x hx).far (np d hd x hx)) (fun w' c' hw' hc' => ?_)
  by_cases e : w' = w ∧ c' = c
  · rw [e.1, e.2, up_at]
    exact (m.cs.ch w c hw hc).push ha (nc w c)
  · rw [up_ne _ _ e]
    exact (m.cs.ch w' c' hw' hc').far (nc w' c')
/-- The first one of a cache is taken. -/
theorem StM.pop {w c a : Nat} {t : List Nat} (m : StM w0 W s P k ca live F pl) (hw : w < pl.nw) (hc : c < 4) (h : ca w c = a :: t) :
    pl.ws[a]? = some (Prt.headQ t) ∧ Prt.headQ t ≤ pl.ws.length ∧ (∃ pl', StM w0 ((W.setCell ⟨pl.cb, w * 16 + c * 2, none⟩ (.int .i64 (Prt.headQ t : Int))).setCell ⟨pl.cb, w * 16 + c * 2 + 1, none⟩ (.int .i64 (t.length : Int))) s P k (up ca w c t) live F pl' ∧ Same pl pl') ∧ Kept (Fr F) W ((W.setCell ⟨pl.cb, w * 16 + c * 2, none⟩ (.int .i64 (Prt.headQ t : Int))).setCell ⟨pl.cb, w * 16 + c * 2 + 1, none⟩ (.int .i64 (t.length : Int))) := by
  have q := m.cs.ch w c hw hc
  rw [h] at q
  obtain ⟨_, x, hx, hl, ct⟩ := q
  obtain rfl := Prt.Ch_head ct
  refine ⟨hx, hl, m.caches hw hc m.ar.ar rfl (Kept.refl _ _) m.ch (fun w' c' hw' hc' => ?_)⟩
  by_cases e : w' = w ∧ c' = c
  · rw [e.1, e.2, up_at]
    exact ct
  · rw [up_ne _ _ e]
    exact m.cs.ch w' c' hw' hc'
end turn
end Go.Proofs.YtcndilpaijapkaaGreat.Shp
/- What the steps of a store answer and leave: the pools' calls, the heap's, the search among live stacks. Own work; each is proved by a walk through the landed text. -/
namespace Go.Proofs.YtcndilpaijapkaaGreat.Shp
open Sto
open Go.ChangeShapes Go.WideShapes Go.ChangeAt Go.RowKit
set_option maxRecDepth 100000

section calls
variable {w0 W : World} {s P : Nat} {k : K} {ca : Ca} {live : List Lm.S} {F : Nat → Prop} {pl : Pl} {O : Int → Int → Prop}
/-- A store somewhere, with the same pointers, and the frame. -/
def Left (w0 W W' : World) (s P : Nat) (k : K) (ca : Ca) (live : List Lm.S) (F : Nat → Prop) (pl : Pl) : Prop := (∃ pl', StM w0 W' s P k ca live F pl' ∧ Same pl pl') ∧ Kept (Fr F) W W'
theorem Left.at_ {W' : World} (h : Left w0 W W' s P k ca live F pl) : ∃ pl', StM w0 W' s P k ca live F pl' ∧ Same pl pl' := h.1
theorem Left.trans {W1 W2 : World} {pl1 : Pl} {k1 : K} {ca1 : Ca} {l1 : List Lm.S} (e : Same pl pl1) (f : Kept (Fr F) W W1) (h : Left w0 W1 W2 s P k1 ca1 l1 F pl1) : Left w0 W W2 s P k1 ca1 l1 F pl := by
  obtain ⟨⟨pl2, m, e2⟩, f2⟩ := h
  exact ⟨⟨pl2, m, e.trans e2⟩, f.trans f2⟩
theorem Left.refl (m : StM w0 W s P k ca live F pl) : Left w0 W W s P k ca live F pl := ⟨⟨pl, m, Same.refl pl⟩, Kept.refl _ _⟩
theorem Left.old {W' : World} (m : StM w0 W s P k ca live F pl) (K : Kept Old W W') : Left w0 W W' s P k ca live F pl := ⟨⟨_, m.old K, ⟨rfl, rfl, rfl, rfl, rfl⟩⟩, K.any⟩
/-! ### Pools -/
theorem pool_take {c : Nat} (hc : c < 4) (m : StM w0 W s P k ca live F pl) (g : ∀ d, d < 4 → Prt.GoodP P d (k.p d)) (hP : P ≤ 256) :
    Calls Tryz.prog 131 #[ptr (pl.pq c), ptr pl.a] W fun e W' => e = .returned (.tuple #[.int .i64 (Prt.takeA (k.p c)), .int .i64 (Prt.takeC (k.p c))]) ∧ Left w0 W W' s P (k.pool c (Prt.takeL (k.p c))) ca live F pl := by
  have pt := (m.pt c hc).pt
  refine (Prt.take_any W pt m.ar.ar (g c hc) hP (m.ch c hc)).mono ?_
  rintro e W' ⟨rfl, T', A', C', K⟩
  obtain ⟨⟨pl', m', e1⟩, f⟩ := m.pool (L := Prt.takeL (k.p c)) (lo := fun _ => False) hc ⟨_, _, T', A', C', rfl, K.mono fun i e => .inr (.inr e), .inl rfl, fun _ _ x _ => x⟩ (fun _ _ _ _ _ _ _ => id) (fun _ _ _ _ => id)
  exact ⟨rfl, ⟨pl', m', e1⟩, f⟩
theorem pool_add {c : Nat} (hc : c < 4) {pg : Nat} (m : StM w0 W s P k ca live F pl) (g : ∀ d, d < 4 → Prt.GoodP P d (k.p d)) (hP : P ≤ 256) (hpg : pg + 8 ≤ P) (h5 : Prt.addC P (k.p c) (pg : Int) = 0) (far : ∀ d, d < 4 → ∀ x ∈ k.p d, x.page + 8 ≤ pg ∨ pg + 8 ≤ x.page) (far2 : ∀ w c, ∀ a ∈ ca w c, ¬ Prt.InSp pg a) :
    Calls Tryz.prog 155 #[ptr (pl.pq c), ptr pl.a, .int .i64 (pg : Int)] W fun e W' => e = .returned (.int .i64 0) ∧ Left w0 W W' s P (k.pool c (Prt.addL P c (k.p c) (pg : Int))) ca live F pl := by
  have pt := (m.pt c hc).pt
  unfold Prt.addC at h5
  unfold Prt.addL
  rw [if_neg (by omega), Int.toNat_natCast] at h5
  rw [if_neg (by omega), Int.toNat_natCast]
  cases q : Prt.placeQ pg (k.p c) with
  | none => rw [q] at h5; cases h5
  | some i =>
    refine (Prt.add_ok pg i W pt m.ar.ar (g c hc) (m.ch c hc) m.ar.len hP hpg q m.ff.kept.size).mono ?_
    rintro e W' ⟨rfl, H⟩
    obtain ⟨⟨pl', m', e1⟩, f⟩ := m.pool hc H (fun d hd _ x hx a ha q => by
      have := far d hd x hx
      have := Prt.at_range ((g d hd).stks x hx a ha)
      unfold Prt.InSp at q
      omega) far2
    exact ⟨rfl, ⟨pl', m', e1⟩, f⟩
theorem pool_put {c : Nat} (hc : c < 4) {a : Int} (m : StM w0 W s P k ca live F pl) (v : Inv P k O) (o : O a (c : Int)) (nc : ∀ w c, a.toNat ∉ ca w c) :
    Calls Tryz.prog 137 #[ptr (pl.pq c), ptr pl.a, .int .i64 a] W fun e W' => e = .returned (.tuple #[.int .i64 (Prt.putP c (k.p c) a), .bool (Prt.putG c (k.p c) a), .int .i64 0]) ∧ Left w0 W W' s P (k.pool c (Prt.putL c (k.p c) a)) ca live F pl := by
  have pt := (m.pt c hc).pt
  have pp := v.pages
  obtain ⟨i, x, n, rfl, hx, ha, hn, hb⟩ := v.found hc o
  have hr := Prt.putR_at hb hx ha
  rw [Int.toNat_natCast, if_neg hn] at hr
  refine (Prt.put_ok W pt m.ar.ar (v.good c hc) m.ar.len pp.2 (m.ch c hc) hx ha hn).mono ?_
  rintro e W' ⟨rfl, H⟩
  obtain ⟨⟨pl', m', e1⟩, f⟩ := m.pool hc H (fun d hd ne y hy b hb q => by
    have q : b = n := q
    have := v.pool_far hc hd (fun e => ne e.symm) (List.mem_of_getElem? hx) hy
    have := Prt.at_range ((v.good d hd).stks y hy b hb)
    have := Prt.at_range ha
    omega) (fun w' c' b hm q => by
    have q : b = n := q
    exact nc w' c' (by rw [Int.toNat_natCast, ← q]; exact hm))
  unfold Prt.putP Prt.putG Prt.putL
  by_cases d : x.free.length + 1 = Prt.perN c
  · rw [if_pos d] at hr m'
    rw [hr]
    exact ⟨by rw [decide_eq_true d], ⟨pl', m', e1⟩, f⟩
  · rw [if_neg d] at hr m'
    rw [hr]
    exact ⟨by rw [decide_eq_false d], ⟨pl', m', e1⟩, f⟩
/-! ### The heap -/
theorem heap_alloc (n cl : Int) (m : StM w0 W s P k ca live F pl) : Calls Tryz.prog 153 #[ptr pl.h, .int .i64 n, .int .i64 cl] W fun e W' => e = .returned (.tuple #[.int .i64 (allocA k.rl k.sl n cl).x, .int .i64 (allocA k.rl k.sl n cl).e]) ∧ Left w0 W W' s P { k with rl := (allocA k.rl k.sl n cl).rl, sl := (allocA k.rl k.sl n cl).sl } ca live F pl := by
  refine (hp_alloc n cl m.hp.hp).mono ?_
  rintro e W' ⟨rfl, H, K⟩
  obtain ⟨m', f⟩ := m.heap H K
  exact ⟨rfl, ⟨_, m', ⟨rfl, rfl, rfl, rfl, rfl⟩⟩, f⟩
theorem heap_free (q : Int) (m : StM w0 W s P k ca live F pl) : Calls Tryz.prog 78 #[ptr pl.h, .int .i64 q] W fun e W' => e = .returned (.tuple #[spn (freeA k.rl k.sl q).x, .int .i64 (freeA k.rl k.sl q).e]) ∧ Left w0 W W' s P { k with rl := (freeA k.rl k.sl q).rl, sl := (freeA k.rl k.sl q).sl } ca live F pl := by
  refine (hp_free q m.hp.hp).mono ?_
  rintro e W' ⟨rfl, H, K⟩
  obtain ⟨m', f⟩ := m.heap H K
  exact ⟨rfl, ⟨_, m', ⟨rfl, rfl, rfl, rfl, rfl⟩⟩, f⟩
end calls
end Go.Proofs.YtcndilpaijapkaaGreat.Shp
/- What a store's own functions answer and leave: room, empty, find, takeSmall, takeLarge, giveSmall, giveLarge. Own work; each is proved by a walk through the landed text. -/
namespace Go.Proofs.YtcndilpaijapkaaGreat.Shp
open Sto
open Go.ChangeShapes Go.WideShapes Go.ChangeAt Go.RowKit
set_option maxRecDepth 100000

theorem page_at (n : Nat) (hn : n ≤ 1000000) (w : World) : Calls Tryz.prog 80 #[.int .i64 (n : Int)] w fun e w' => e = .returned (.int .i64 ((n : Int) / 64)) ∧ w = w' := by
  have wr : IntKind.i64.wrap ((n : Int) / 64) = (n : Int) / 64 := IntWalk.i64_in _ (by omega)
  go_enter Tryz.func80, Tryz.ntmps80
  go_wp2
  go_ret
  exact ⟨rfl, rfl⟩
section calls
variable {w0 W : World} {s P : Nat} {k : K} {ca : Ca} {live : List Lm.S} {F : Nat → Prop} {pl : Pl} {O : Int → Int → Prop}
theorem StM.c (m : StM w0 W s P k ca live F pl) (i : Nat) : W.cell? ⟨s, i, none⟩ = (cells pl k.on)[i]? := m.st.box.cell i
theorem StM.f (m : StM w0 W s P k ca live F pl) (i : Nat) : W.frozen? ⟨s, i, none⟩ = false := m.st.box.frozen i
theorem heap_alloc_at {X : World} (n cl : Int) (m : StM w0 W s P k ca live F pl) (q : Kept Old W X) : Calls Tryz.prog 153 #[ptr pl.h, .int .i64 n, .int .i64 cl] X fun e W' => e = .returned (.tuple #[.int .i64 (allocA k.rl k.sl n cl).x, .int .i64 (allocA k.rl k.sl n cl).e]) ∧ Left w0 W W' s P { k with rl := (allocA k.rl k.sl n cl).rl, sl := (allocA k.rl k.sl n cl).sl } ca live F pl := by
  refine (heap_alloc n cl (m.old q)).mono ?_
  rintro e W' ⟨rfl, L⟩
  exact ⟨rfl, Left.trans (pl1 := pl.re W.heap.size 97) ⟨rfl, rfl, rfl, rfl, rfl⟩ q.any L⟩
def RoomPost (w0 W : World) (s P : Nat) (k : K) (ca : Ca) (live : List Lm.S) (F : Nat → Prop) (pl : Pl) (o : AnsA) (e : Ending) (W' : World) : Prop :=
  e = .returned (.tuple #[.int .i64 o.x, .int .i64 o.e]) ∧ Left w0 W W' s P { k with rl := o.rl, sl := o.sl } ca live F pl
set_option maxHeartbeats 2000000 in
theorem room_any (c : Int) (m : StM w0 W s P k ca live F pl) : Calls Tryz.prog 129 #[ptr s, .int .i64 c] W (RoomPost w0 W s P k ca live F pl (allocA k.rl k.sl (pagesI c) c)) := by
  have HA := Lib.hid (fun X (q : Kept Old W X) => heap_alloc_at (pagesI c) c m q)
  have c1 : W.cell? ⟨s, 1, none⟩ = some (ptr pl.h) := m.c 1
  have hs := m.st.box.lt
  generalize allocA k.rl k.sl (pagesI c) c = o at *
  have PG := Lib.hid (fun X => szpages_any c X)
  generalize pagesI c = pg at *
  clear m
  have EP := Lib.hid (show ∀ W', Left w0 W W' s P { k with rl := o.rl, sl := o.sl } ca live F pl → RoomPost w0 W s P k ca live F pl o (.returned (.tuple #[.int .i64 o.x, .int .i64 o.e])) W' from fun W' L => ⟨rfl, L⟩)
  go_enter Tryz.func129, Tryz.ntmps129
  go_wp2_with fail
  go_region_with (first
    | (go_at_call 154; refine (PG.out _).mono ?_; rintro e w' ⟨rfl, rfl⟩)
    | (go_at_call 153; refine (HA.out _ (by first | exact Kept.refl Old W | exact (Kept.refl Old W).drew)).mono ?_; rintro e w' ⟨rfl, L⟩; have L := Lib.hid L))
  all_goals
    go_wp2_with fail
    go_ret2
    exact EP.out _ L.out
set_option maxHeartbeats 2000000 in
theorem empty_any (q : Int) (m : StM w0 W s P k ca live F pl) : Calls Tryz.prog 134 #[ptr s, .int .i64 q] W fun e W' => e = .returned (.int .i64 (freeA k.rl k.sl q).e) ∧ Left w0 W W' s P { k with rl := (freeA k.rl k.sl q).rl, sl := (freeA k.rl k.sl q).sl } ca live F pl := by
  have HF := Lib.hid (heap_free q m)
  have c1 : W.cell? ⟨s, 1, none⟩ = some (ptr pl.h) := m.c 1
  generalize freeA k.rl k.sl q = o at *
  clear m
  go_enter Tryz.func134, Tryz.ntmps134
  go_wp2_with fail
  refine HF.out.mono ?_
  rintro e w' ⟨rfl, L⟩
  have L := Lib.hid L
  go_wp2_with fail
  go_ret
  obtain ⟨⟨pl', m', e'⟩, f⟩ := L.out
  exact ⟨rfl, ⟨_, m'.old ((Kept.refl Old _).alloc _), ⟨e'.a, e'.h, e'.pq, e'.cb, e'.nw⟩⟩, f.trans ((Kept.refl _ _).alloc _)⟩
set_option maxHeartbeats 2000000 in
theorem find_any (a : Int) (m : StM w0 W s P k ca live F pl) {Z : Int} (v : Lm.Valid Z live) : Calls Tryz.prog 57 #[ptr s, .int .i64 a] W fun e W' => e = .returned (.tuple #[.int .i64 (Lm.placeL live a : Int), .bool (Lm.hasB live a)]) ∧ Kept Old W W' := by
  have c14 : W.cell? ⟨s, 14, none⟩ = some pl.lv := m.c 14
  obtain ⟨A, c, e, R, h1, h2⟩ := m.lv.ow.rs
  rw [e] at c14
  have BS := Lib.hid (Sf.bs_any Z A live.length c live a W R v (by have := v.len; omega))
  generalize Lm.placeL live a = kk at *
  generalize Lm.hasB live a = bb at *
  clear m v e R h1 h2
  go_enter Tryz.func57, Tryz.ntmps57
  go_wp2_with (go_at_call 95; refine BS.out.mono ?_; rintro e w' ⟨rfl, k2⟩)
  go_ret2
  exact ⟨rfl, k2⟩
end calls
end Go.Proofs.YtcndilpaijapkaaGreat.Shp
/- A shop's employs, push, pop: what they answer and leave. Own work; each is proved by a walk through the landed text. -/
namespace Go.Proofs.YtcndilpaijapkaaGreat.Shp
open Sto
open Go.ChangeShapes Go.WideShapes Go.ChangeAt Go.RowKit
set_option maxRecDepth 100000

section calls
variable {w0 W : World} {s P : Nat} {k : K} {ca : Ca} {live : List Lm.S} {F : Nat → Prop} {pl : Pl} {O : Int → Int → Prop}
def empB (nw : Nat) (w : Int) : Bool := decide (0 ≤ w ∧ w < (nw : Int))
theorem StM.cc {pl' : Pl} (m : StM w0 W s P k ca live F pl') (e : Same pl pl') : W.cell? ⟨s, 10, none⟩ = some (.slice (some ⟨pl.cb, 0, none⟩) pl.nw pl.nw) := (m.c 10).trans (by rw [← e.cb, ← e.nw]; rfl)
theorem StM.hd {w c : Nat} (m : StM w0 W s P k ca live F pl) (hw : w < pl.nw) (hc : c < 8) : W.cell? ⟨pl.cb, w * 16 + c * 2, none⟩ = some (.int .i64 (Prt.headQ (ca w c) : Int)) := (m.cs.box.cell _).trans (row_head ca hw hc)
theorem StM.nm {w c : Nat} (m : StM w0 W s P k ca live F pl) (hw : w < pl.nw) (hc : c < 8) : W.cell? ⟨pl.cb, w * 16 + c * 2 + 1, none⟩ = some (.int .i64 ((ca w c).length : Int)) := (m.cs.box.cell _).trans (row_num ca hw hc)
theorem StM.cf (m : StM w0 W s P k ca live F pl) (i : Nat) : W.frozen? ⟨pl.cb, i, none⟩ = false := m.cs.box.frozen i
theorem employs_any (w : Int) (m : StM w0 W s P k ca live F pl) : Calls Tryz.prog 55 #[ptr s, .int .i64 w] W fun e W' => e = .returned (.bool (empB pl.nw w)) ∧ W = W' := by
  have c10 := m.cc (Same.refl pl)
  have few := m.cs.few
  have hs := m.st.box.lt
  unfold empB
  clear m
  by_cases h0 : 0 ≤ w
  · by_cases h1 : w < (pl.nw : Int)
    · rw [decide_eq_true ⟨h0, h1⟩]
      go_enter Tryz.func55, Tryz.ntmps55
      go_wp2
      go_ret
      exact ⟨rfl, rfl⟩
    · rw [decide_eq_false (fun q => h1 q.2)]
      go_enter Tryz.func55, Tryz.ntmps55
      go_wp2
      go_ret
      exact ⟨rfl, rfl⟩
  · rw [decide_eq_false (fun q => h0 q.1)]
    go_enter Tryz.func55, Tryz.ntmps55
    go_wp2
    go_ret
    exact ⟨rfl, rfl⟩
theorem Left.drew {W' : World} (h : Left w0 W W' s P k ca live F pl) : Left w0 W W'.drew s P k ca live F pl := by
  obtain ⟨⟨pl', m', e⟩, f⟩ := h
  exact ⟨⟨_, m'.old (Kept.refl Old _).drew, e.trans ⟨rfl, rfl, rfl, rfl, rfl⟩⟩, f.drew⟩
def LeftPost (w0 W : World) (s P : Nat) (k : K) (ca : Ca) (live : List Lm.S) (F : Nat → Prop) (pl : Pl) (v : Value) (e : Ending) (W' : World) : Prop := e = .returned v ∧ Left w0 W W' s P k ca live F pl
set_option maxHeartbeats 2000000 in
theorem push_any {w c a : Nat} (m : StM w0 W s P k ca live F pl) (hw : w < pl.nw) (hc : c < 4) (ha : a < pl.ws.length) (np : ∀ d, d < 4 → ∀ x ∈ k.p d, a ∉ x.free) (nc : ∀ w' c', a ∉ ca w' c') (hn : (ca w c).length ≤ 1000) :
    Calls Tryz.prog 108 #[ptr s, .int .i64 (w : Int), .int .i64 (c : Int), .int .i64 (a : Int)] W (LeftPost w0 W s P k (up ca w c (a :: ca w c)) live F pl (.int .i64 0)) := by
  have hb := m.ar.ar.big
  have hh := (m.cs.ch w c hw hc).le
  have PU := Lib.hid (fun X (q : Kept Old W X) => push_ok (Prt.headQ (ca w c)) a X (m.ar.ar.kept q (fun x => x) (fun x => x)) hh ha)
  have c0 : W.cell? ⟨s, 0, none⟩ = some (ptr pl.a) := m.c 0
  have c10 := m.cc (Same.refl pl)
  have h0 := m.hd hw (show c < 8 by omega)
  have EP := Lib.hid (show ∀ X W', Kept Old W X → Ar W' pl.a pl.g (pl.ws.set a (Prt.headQ (ca w c))) → Kept (Only pl.g) X W' → W'.cell? ⟨pl.cb, w * 16 + c * 2, none⟩ = some (.int .i64 (Prt.headQ (ca w c) : Int)) ∧ W'.cell? ⟨pl.cb, w * 16 + c * 2 + 1, none⟩ = some (.int .i64 ((ca w c).length : Int)) ∧ W'.frozen? ⟨pl.cb, w * 16 + c * 2, none⟩ = false ∧ W'.frozen? ⟨pl.cb, w * 16 + c * 2 + 1, none⟩ = false ∧ pl.cb < W'.heap.size ∧ Hid (Left w0 W ((W'.setCell ⟨pl.cb, w * 16 + c * 2, none⟩ (.int .i64 ((a : Int) + 1))).setCell ⟨pl.cb, w * 16 + c * 2 + 1, none⟩ (.int .i64 (((ca w c).length : Int) + 1))) s P k (up ca w c (a :: ca w c)) live F pl) from fun X W' q A K => by
    have K' : Kept (Only pl.g) W W' := q.any.trans K
    have ng : ¬ Only pl.g pl.cb := fun e => by
      have e : pl.cb = pl.g := e
      have := m.cs.lab
      rw [e, m.ar.lg] at this
      cases this
    have b := m.cs.box.kept K' ng
    exact ⟨(b.cell _).trans (row_head ca hw (by omega)), (b.cell _).trans (row_num ca hw (by omega)), b.frozen _, b.frozen _, b.lt, Lib.hid (m.push hw hc A K' ha np nc)⟩)
  have hs := m.st.box.lt
  have few := m.cs.few
  have hb := m.cs.box.lt
  have wi : (w : Int) < (pl.nw : Int) := by omega
  have ci : (c : Int) < 8 := by omega
  have wr : IntKind.i64.wrap (((ca w c).length : Int) + 1) = ((ca w c).length : Int) + 1 := IntWalk.i64_in _ (by omega)
  clear m hh
  go_enter Tryz.func108, Tryz.ntmps108
  go_wp2_with fail
  go_region_with (first
    | (go_at_call 136; refine (PU.out _ (by first | exact Kept.refl Old W | exact (Kept.refl Old W).drew)).mono ?_; rintro e W1 ⟨rfl, A1, K1⟩; obtain ⟨n0, n1, f0, f1, hb1, EE⟩ := EP.out _ W1 (by first | exact Kept.refl Old W | exact (Kept.refl Old W).drew) A1 K1; clear A1 K1))
  all_goals
    go_wp2_with fail
    go_ret
    exact ⟨rfl, EE.out⟩
set_option maxHeartbeats 2000000 in
theorem pop_any {w c a : Nat} {t : List Nat} (m : StM w0 W s P k ca live F pl) (hw : w < pl.nw) (hc : c < 4) (h : ca w c = a :: t) (hn : t.length ≤ 1000) :
    Calls Tryz.prog 94 #[ptr s, .int .i64 (w : Int), .int .i64 (c : Int)] W (LeftPost w0 W s P k (up ca w c t) live F pl (.tuple #[.int .i64 (a : Int), .int .i64 0])) := by
  have EX := Lib.hid (fun X (q : Kept Old W X) => (m.old q).pop hw hc h)
  obtain ⟨x1, x2, _⟩ := m.pop hw hc h
  have PO := Lib.hid (fun X (q : Kept Old W X) => pop_ok a (Prt.headQ t) X (m.ar.ar.kept q (fun x => x) (fun x => x)) x1 x2)
  have c0 : W.cell? ⟨s, 0, none⟩ = some (ptr pl.a) := m.c 0
  have c10 := m.cc (Same.refl pl)
  have h0 := m.hd hw (show c < 8 by omega)
  have n0 := m.nm hw (show c < 8 by omega)
  rw [h] at h0 n0
  rw [show ((Prt.headQ (a :: t) : Nat) : Int) = (a : Int) + 1 from rfl] at h0
  rw [show (((a :: t).length : Nat) : Int) = (t.length : Int) + 1 by simp] at n0
  have f0 := m.cf (w * 16 + c * 2)
  have f1 := m.cf (w * 16 + c * 2 + 1)
  have EP := Lib.hid (show ∀ X, Kept Old W X → Left w0 W ((X.setCell ⟨pl.cb, w * 16 + c * 2, none⟩ (.int .i64 (Prt.headQ t : Int))).setCell ⟨pl.cb, w * 16 + c * 2 + 1, none⟩ (.int .i64 (t.length : Int))) s P k (up ca w c t) live F pl from fun X q => by
    obtain ⟨_, _, ⟨pl', m', e'⟩, f⟩ := (m.old q).pop hw hc h
    exact ⟨⟨pl', m', Same.trans (y := pl.re W.heap.size 97) ⟨rfl, rfl, rfl, rfl, rfl⟩ e'⟩, q.any.trans f⟩)
  have hs := m.st.box.lt
  have few := m.cs.few
  have hb := m.cs.box.lt
  have wi : (w : Int) < (pl.nw : Int) := by omega
  have ci : (c : Int) < 8 := by omega
  have wr : IntKind.i64.wrap ((t.length : Int) + 1 - 1) = (t.length : Int) := by rw [IntWalk.i64_in _ (by omega)]; omega
  clear m x1 x2 h EX
  go_enter Tryz.func94, Tryz.ntmps94
  go_wp2_with fail
  go_region_with (first
    | (go_at_call 114; refine (PO.out _ (by first | exact Kept.refl Old W | exact (Kept.refl Old W).drew)).mono ?_; rintro e W1 ⟨rfl, rfl⟩))
  all_goals
    go_wp2_with fail
    go_ret2
    first | exact ⟨rfl, EP.out _ (Kept.refl Old W)⟩ | exact ⟨rfl, (EP.out _ (Kept.refl Old W)).drew⟩
end calls
end Go.Proofs.YtcndilpaijapkaaGreat.Shp
/- A shop's Cached: what it answers and leaves. Own work; proved by walks through the landed text. -/
namespace Go.Proofs.YtcndilpaijapkaaGreat.Shp
open Sto
open Go.ChangeShapes Go.WideShapes Go.ChangeAt Go.RowKit
set_option maxRecDepth 100000

section calls
variable {w0 W : World} {s P : Nat} {k : K} {ca : Ca} {live : List Lm.S} {F : Nat → Prop} {pl : Pl}
set_option maxHeartbeats 2000000 in
theorem cached_no (w cl : Int) (m : StM w0 W s P k ca live F pl) (h : empB pl.nw w = false ∨ smallB cl = false) : Calls Tryz.prog 24 #[ptr s, .int .i64 w, .int .i64 cl] W fun e W' => e = .returned (.slice none 0 0) ∧ W = W' := by
  have EM := Lib.hid (employs_any w m)
  have SM := Lib.hid (fun X => small_any cl X)
  clear m
  cases he : empB pl.nw w with
  | false =>
    rw [he] at EM
    clear h he
    go_enter Tryz.func24, Tryz.ntmps24
    go_wp2_with fail
    refine EM.out.mono ?_
    rintro e w' ⟨rfl, rfl⟩
    go_wp2_with fail
    go_ret
    exact ⟨rfl, rfl⟩
  | true =>
    rw [he] at EM h
    have h := h.resolve_left (by simp)
    rw [h] at SM
    clear h he
    go_enter Tryz.func24, Tryz.ntmps24
    go_wp2_with fail
    refine EM.out.mono ?_
    rintro e w' ⟨rfl, rfl⟩
    go_wp2_with fail
    refine (SM.out _).mono ?_
    rintro e w' ⟨rfl, rfl⟩
    go_wp2_with fail
    go_ret
    exact ⟨rfl, rfl⟩
def CachedPost (l : List Nat) (W : World) (e : Ending) (W' : World) : Prop := ∃ v, e = .returned v ∧ MadeI (NI l) W v W'
set_option maxHeartbeats 4000000 in
theorem cached_yes {w c : Nat} (hw : w < pl.nw) (hc : c < 4) (m : StM w0 W s P k ca live F pl) (hn : (ca w c).length ≤ 1000) : Calls Tryz.prog 24 #[ptr s, .int .i64 (w : Int), .int .i64 (c : Int)] W (CachedPost (ca w c) W) := by
  have EM := Lib.hid (employs_any (w : Int) m)
  rw [show empB pl.nw (w : Int) = true from decide_eq_true ⟨by omega, by omega⟩] at EM
  have SM := Lib.hid (fun X => small_any (c : Int) X)
  rw [smallB_in (c : Int) (by omega) (by omega)] at SM
  have hh := (m.cs.ch w c hw hc).le
  have hwk := (m.cs.ch w c hw hc).walk (ca w c).length
  rw [if_pos (Nat.le_refl _)] at hwk
  have WK := Lib.hid (fun X (q : Kept Old W X) => show Calls Tryz.prog 69 #[ptr pl.a, .int .i64 (Prt.headQ (ca w c) : Int), .int .i64 ((ca w c).length : Int)] X fun e X' => ∃ v, e = .returned (.tuple #[v, .int .i64 0]) ∧ MadeI (NI (ca w c)) X v X' from by
    refine (walk_any (Prt.headQ (ca w c)) ((ca w c).length : Int) X (m.ar.ar.kept q (fun x => x) (fun x => x)) hh (by omega) (by omega)).mono ?_
    rintro e X' h
    rw [Int.toNat_natCast, hwk] at h
    rcases h with ⟨l, v, e1, e2, e3⟩ | ⟨e1, _⟩
    · obtain rfl := Option.some.inj e1
      exact ⟨v, e2, e3⟩
    · cases e1)
  have EP := Lib.hid (show ∀ X v X', Kept Old W X → MadeI (NI (ca w c)) X v X' → CachedPost (ca w c) W (.returned v) X' from fun X v X' q h => ⟨v, rfl, h.from q⟩)
  have c0 : W.cell? ⟨s, 0, none⟩ = some (ptr pl.a) := m.c 0
  have c10 := m.cc (Same.refl pl)
  have h0 := m.hd hw (show c < 8 by omega)
  have n0 := m.nm hw (show c < 8 by omega)
  have hs := m.st.box.lt
  have few := m.cs.few
  have hb := m.cs.box.lt
  have wi : (w : Int) < (pl.nw : Int) := by omega
  have ci : (c : Int) < 8 := by omega
  generalize (Prt.headQ (ca w c) : Int) = hd at *
  generalize ((ca w c).length : Int) = nn at *
  have KA := Lib.hid ((Kept.refl Old W).alloc (.cells #[.int .i64 hd, .int .i64 nn] 123))
  clear m hh hwk
  go_enter Tryz.func24, Tryz.ntmps24
  go_wp2_with fail
  refine EM.out.mono ?_
  rintro e w' ⟨rfl, rfl⟩
  go_wp2_with fail
  refine (SM.out _).mono ?_
  rintro e w' ⟨rfl, rfl⟩
  go_wp2_with fail
  go_region_with (first
    | (go_at_call 69; refine (WK.out _ (by first | exact KA.out | exact KA.out.drew)).mono ?_; rintro e W1 ⟨v, rfl, MA⟩; have MA := Lib.hid MA))
  all_goals
    go_wp2_with fail
    go_ret
    exact EP.out _ _ _ (by first | exact KA.out | exact KA.out.drew) MA.out
end calls
end Go.Proofs.YtcndilpaijapkaaGreat.Shp
