/-
  A store in memory: its struct, its heap, its arena and pools, its lists, each in blocks of its own (told apart by labels), among other blocks F that it leaves alone; what a step that turns one part leaves. Own work; no program is walked here.
-/
import Derived.Test.YtjfkmgicbakmgaaGreatRows
import Derived.Test.YtjfkmgicbakmgaaGreatJBigb
import Derived.Test.YtjfkmgicbakmgaaGreatJDeed
import Derived.Test.YtjfkmgicbakmgaaGreatJHeap
import Derived.Test.YtjfkmgicbakmgaaGreatJLate
import Derived.Test.YtjfkmgicbakmgaaGreatJPoolb
import Derived.Test.YtjfkmgicbakmgaaGreatJStoreFns
namespace Go.Proofs.YtjfkmgicbakmgaaGreat.Sto
open Go.ChangeShapes Go.WideShapes Go.ChangeAt Go.RowKit
set_option maxRecDepth 100000

/-- The labels behind a step: what is new bears j. -/
def rel (n j : Nat) (lab : Nat → Nat) (b : Nat) : Nat := if b < n then lab b else j
theorem rel_lt {n j b : Nat} {lab : Nat → Nat} (h : b < n) : rel n j lab b = lab b := if_pos h
theorem rel_ge {n j b : Nat} {lab : Nat → Nat} (h : n ≤ b) : rel n j lab b = j := if_neg (by omega)
abbrev Tn (I : Nat → Prop) (lab : Nat → Nat) (b : Nat) : Prop := I (lab b)
theorem kept_lt {D E : Nat → Prop} {a b : World} (h : Kept D a b) (he : ∀ i, i < a.heap.size → D i → E i) : Kept E a b := ⟨h.os, h.tape, h.output, h.size, fun i hi hd => h.block i hi fun x => hd (he i hi x)⟩
/-- A table's other blocks may turn. -/
theorem StS.turns {w0 W W' : World} {p : Nat} {P : Int} {l : List S} {F G D : Nat → Prop} (h : StS w0 W p P l F) (k : Kept D W W') (hD : ∀ b, D b → b < W.heap.size → F b ∧ w0.heap.size ≤ b) (hG : ∀ b, G b → F b ∨ (W.heap.size ≤ b ∧ b < W'.heap.size)) : StS w0 W' p P l G := by
  obtain ⟨v, T, g, hP, K, f⟩ := h
  have k2 : Kept (fun b => D b ∧ b < W.heap.size) W W' := kept_lt k fun i hi d => ⟨d, hi⟩
  have hp := T.box.lt
  refine ⟨v, T.kept k2 (fun e => (f p (hD p e.1 e.2).1).1 rfl) (fun gg e d => (f gg (hD gg d.1 d.2).1).2.1 e), g, hP, K.join k2 (fun i hi e => by have := (hD i e.1 e.2).2; omega), fun b hb => ?_⟩
  rcases hG b hb with e | ⟨e1, e2⟩
  · have := f b e
    exact ⟨this.1, this.2.1, Nat.lt_of_lt_of_le this.2.2 k.size⟩
  · exact ⟨by omega, fun e => by have := (T.own.own b e.symm).2; omega, e2⟩
theorem Hp.turns {w0 W W' : World} {h : Nat} {P : Int} {rl : List R} {sl : List S} {F G D : Nat → Prop} (H : Hp w0 W h P rl sl F) (k : Kept D W W') (hD : ∀ b, D b → b < W.heap.size → F b ∧ w0.heap.size ≤ b) (hG : ∀ b, G b → F b ∨ (W.heap.size ≤ b ∧ b < W'.heap.size)) : Hp w0 W' h P rl sl G := by
  obtain ⟨q, A, n, c, H⟩ := H
  have k2 : Kept (fun b => D b ∧ b < W.heap.size) W W' := kept_lt k fun i hi d => ⟨d, hi⟩
  have hl := H.box.lt
  refine ⟨q, A, n, c, H.box.kept k2 (fun e => (H.far h (hD h e.1 e.2).1).1 rfl), H.runs.fr k2 (fun d hd e => (H.far d (hD d e.1 e.2).1).2 hd), H.cap, H.nil, StS.turns H.tab k2 (fun b e _ => ⟨.inl (hD b e.1 e.2).1, (hD b e.1 e.2).2⟩) (fun b hb => ?_), H.whole, H.low, fun b hb => ?_⟩
  · rcases hb with hb | hb
    · rcases hG b hb with e | e
      · exact .inl (.inl e)
      · exact .inr e
    · exact .inl (.inr hb)
  · rcases hG b hb with e | e
    · exact H.far b e
    · exact ⟨by omega, fun z => by have := H.runs.ltB z; omega⟩
theorem big_fr {D : Nat → Prop} {W W' : World} {A : Option Addr} {n : Nat} {l : List Bg.R} (h : Bg.Rs W A n l) (k : Kept D W W') (hd : ∀ b, b < W.heap.size → FR A n b → ¬ D b) : Bg.Rs W' A n l :=
  ⟨h.len, h.fit, fun hn => by
    obtain ⟨g, o, rfl, hg, c⟩ := h.lies hn
    have hd' : ¬ D g := hd g hg ⟨hn, _, rfl, rfl⟩
    exact ⟨g, o, rfl, Nat.lt_of_lt_of_le hg k.size, fun i x hx => ⟨(k.cell (p := ⟨g, o + i * 2, none⟩) hg hd').trans (c i x hx).1, (k.cell (p := ⟨g, o + i * 2 + 1, none⟩) hg hd').trans (c i x hx).2⟩⟩⟩
theorem int_fr {D : Nat → Prop} {W W' : World} {A : Option Addr} {n : Nat} {l : List Int} (h : RsI W A n l) (k : Kept D W W') (hd : ∀ b, b < W.heap.size → FR A n b → ¬ D b) : RsI W' A n l :=
  ⟨h.len, h.fit, fun hn => by
    obtain ⟨g, o, rfl, hg, c⟩ := h.lies hn
    have hd' : ¬ D g := hd g hg ⟨hn, _, rfl, rfl⟩
    exact ⟨g, o, rfl, Nat.lt_of_lt_of_le hg k.size, fun i x hx => (k.cell (p := ⟨g, o + i, none⟩) hg hd').trans (c i x hx)⟩⟩
theorem big_lt {W : World} {A : Option Addr} {n : Nat} {l : List Bg.R} (h : Bg.Rs W A n l) {b : Nat} (hb : FR A n b) : b < W.heap.size := by
  obtain ⟨hn, ad, e, rfl⟩ := hb
  obtain ⟨g, o, rfl, hg, _⟩ := h.lies hn
  injection e with e
  subst e
  exact hg
theorem int_lt {W : World} {A : Option Addr} {n : Nat} {l : List Int} (h : RsI W A n l) {b : Nat} (hb : FR A n b) : b < W.heap.size := by
  obtain ⟨hn, ad, e, rfl⟩ := hb
  obtain ⟨g, o, rfl, hg, _⟩ := h.lies hn
  injection e with e
  subst e
  exact hg
/-- Where the parts lie. -/
structure Pl where
  a : Nat
  g : Nat
  h : Nat
  pq : Nat → Nat
  pv : Nat → Value
  ws : List Nat
  A1 : Option Addr
  n1 : Nat
  c1 : Nat
  A2 : Option Addr
  n2 : Nat
  c2 : Nat
  lv : Value
  lab : Nat → Nat
abbrev nilp : Value := .pointer none
abbrev cells (pl : Pl) (on : Bool) : List Value := [ptr pl.a, ptr pl.h, ptr (pl.pq 0), ptr (pl.pq 1), ptr (pl.pq 2), ptr (pl.pq 3), nilp, nilp, nilp, nilp, .slice pl.A1 pl.n1 pl.c1, .bool on, .slice pl.A2 pl.n2 pl.c2, pl.lv]
structure PlS (W : World) (pl : Pl) (k : K) (P : Nat) (w0 : World) (s : Nat) : Prop where
  box : Blk W s 86 (cells pl k.on)
  lab : pl.lab s = 0
structure PlH (W : World) (pl : Pl) (k : K) (P : Nat) (w0 : World) : Prop where
  hp : Hp w0 W pl.h (P : Int) k.rl k.sl (fun b => b < W.heap.size ∧ pl.lab b ≠ 1)
structure PlA (W : World) (pl : Pl) (P : Nat) : Prop where
  ar : Ar W pl.a pl.g pl.ws
  len : pl.ws.length = P * 64
  la : pl.lab pl.a = 2
  lg : pl.lab pl.g = 2
structure PlP (W : World) (pl : Pl) (k : K) (w0 : World) (c : Nat) : Prop where
  pt : Prt.Pt W w0.heap.size (pl.pq c) (pl.pv c) c (k.p c)
  lp : pl.lab (pl.pq c) = 3 + c
  lo : ∀ b, (pl.pv c).ownBlock = some b → pl.lab b = 3 + c
structure PlB (W : World) (pl : Pl) (k : K) : Prop where
  rs : Bg.Rs W pl.A1 pl.n1 k.big
  cap : pl.n1 ≤ pl.c1
  nil : pl.A1 = none → pl.c1 = 0
  lab : ∀ b, FR pl.A1 pl.n1 b → pl.lab b = 8
structure PlQ (W : World) (pl : Pl) (k : K) : Prop where
  rs : RsI W pl.A2 pl.n2 k.back
  cap : pl.n2 ≤ pl.c2
  nil : pl.A2 = none → pl.c2 = 0
  lab : ∀ b, FR pl.A2 pl.n2 b → pl.lab b = 9
structure PlL (W : World) (pl : Pl) (live : List Lm.S) (w0 : World) : Prop where
  ow : Lm.OwS W w0.heap.size pl.lv live.length live
  lab : ∀ b, pl.lv.ownBlock = some b → pl.lab b = 10
structure PlF (W : World) (pl : Pl) (w0 : World) (F : Nat → Prop) : Prop where
  kept : Kept Old w0 W
  low : ∀ b, b < w0.heap.size → pl.lab b = 99 ∨ pl.lab b = 98
  far : ∀ b, F b → pl.lab b = 98 ∧ b < W.heap.size
/-- A store at s of P pages, with the parts k and the live stacks of live. -/
structure StM (w0 W : World) (s P : Nat) (k : K) (live : List Lm.S) (F : Nat → Prop) (pl : Pl) : Prop where
  st : PlS W pl k P w0 s
  hp : PlH W pl k P w0
  ar : PlA W pl P
  pt : ∀ c, c < 4 → PlP W pl k w0 c
  ch : ∀ c, c < 4 → Prt.Chs pl.ws (k.p c)
  kb : PlB W pl k
  kq : PlQ W pl k
  lv : PlL W pl live w0
  ff : PlF W pl w0 F
def Pl.re (pl : Pl) (n j : Nat) : Pl := { pl with lab := rel n j pl.lab }
section step
variable {w0 W W' : World} {s P : Nat} {k : K} {live : List Lm.S} {F : Nat → Prop} {pl : Pl} {I : Nat → Prop} {j : Nat}
theorem PlS.go (h : PlS W pl k P w0 s) (K : Kept (Tn I pl.lab) W W') (n : ¬ I 0) : PlS W' (pl.re W.heap.size j) k P w0 s :=
  ⟨h.box.kept K (fun e => n (h.lab ▸ e)), (rel_lt h.box.lt).trans h.lab⟩
theorem PlH.go (h : PlH W pl k P w0) (f : PlF W pl w0 F) (K : Kept (Tn I pl.lab) W W') (n : ¬ I 1) (i98 : ¬ I 98) (i99 : ¬ I 99) : PlH W' (pl.re W.heap.size j) k P w0 := by
  refine ⟨Hp.turns h.hp K (fun b hb hl => ⟨⟨hl, fun e => n (e ▸ hb)⟩, ?_⟩) (fun b hb => ?_)⟩
  · apply Classical.byContradiction
    intro q
    rcases f.low b (by omega) with e | e
    · exact i99 (e ▸ hb)
    · exact i98 (e ▸ hb)
  · obtain ⟨b1, b2⟩ := hb
    by_cases c : b < W.heap.size
    · exact .inl ⟨c, by rw [← rel_lt (j := j) (lab := pl.lab) c]; exact b2⟩
    · exact .inr ⟨by omega, b1⟩
theorem PlA.go (h : PlA W pl P) (K : Kept (Tn I pl.lab) W W') (n : ¬ I 2) : PlA W' (pl.re W.heap.size j) P :=
  ⟨h.ar.kept K (fun e => n (h.la ▸ e)) (fun e => n (h.lg ▸ e)), h.len, (rel_lt h.ar.box.lt).trans h.la, (rel_lt h.ar.row.lt).trans h.lg⟩
theorem PlP.go {c : Nat} (h : PlP W pl k w0 c) (K : Kept (Tn I pl.lab) W W') (n : ¬ I (3 + c)) : PlP W' (pl.re W.heap.size j) k w0 c :=
  ⟨h.pt.kept K (fun e => n (h.lp ▸ e)) (fun g e d => n (h.lo g e ▸ d)), (rel_lt h.pt.box.lt).trans h.lp, fun b e => (rel_lt (h.pt.own.own b e.symm).2).trans (h.lo b e)⟩
theorem PlB.go (h : PlB W pl k) (K : Kept (Tn I pl.lab) W W') (n : ¬ I 8) : PlB W' (pl.re W.heap.size j) k :=
  ⟨big_fr h.rs K (fun b _ hb e => n (h.lab b hb ▸ e)), h.cap, h.nil, fun b hb => (rel_lt (big_lt h.rs hb)).trans (h.lab b hb)⟩
theorem PlQ.go (h : PlQ W pl k) (K : Kept (Tn I pl.lab) W W') (n : ¬ I 9) : PlQ W' (pl.re W.heap.size j) k :=
  ⟨int_fr h.rs K (fun b _ hb e => n (h.lab b hb ▸ e)), h.cap, h.nil, fun b hb => (rel_lt (int_lt h.rs hb)).trans (h.lab b hb)⟩
theorem PlL.go (h : PlL W pl live w0) (K : Kept (Tn I pl.lab) W W') (n : ¬ I 10) : PlL W' (pl.re W.heap.size j) live w0 :=
  ⟨h.ow.kept K (fun g e d => n (h.lab g e ▸ d)), fun b e => (rel_lt (h.ow.own b e.symm).2).trans (h.lab b e)⟩
theorem PlF.go (h : PlF W pl w0 F) (K : Kept (Tn I pl.lab) W W') (i98 : ¬ I 98) (i99 : ¬ I 99) : PlF W' (pl.re W.heap.size j) w0 F := by
  have s := h.kept.size
  refine ⟨h.kept.join K (fun i hi e => ?_), fun b hb => ?_, fun b hb => ?_⟩
  · rcases h.low i hi with z | z
    · exact (i99 (z ▸ e)).elim
    · exact (i98 (z ▸ e)).elim
  · rw [show (pl.re W.heap.size j).lab b = pl.lab b from rel_lt (by omega)]; exact h.low b hb
  · obtain ⟨a, b'⟩ := h.far b hb
    exact ⟨(rel_lt b').trans a, Nat.lt_of_lt_of_le b' K.size⟩
theorem PlF.frame (h : PlF W pl w0 F) (K : Kept (Tn I pl.lab) W W') (i98 : ¬ I 98) : Kept (Fr F) W W' := K.mono fun i e hF => i98 ((h.far i hF).1 ▸ e)
end step
section turn
variable {w0 W W' : World} {s P : Nat} {k : K} {live : List Lm.S} {F : Nat → Prop} {pl : Pl}
theorem StM.frame {I : Nat → Prop} (m : StM w0 W s P k live F pl) (K : Kept (Tn I pl.lab) W W') (i98 : ¬ I 98) : Kept (Fr F) W W' := m.ff.frame K i98
theorem old_tn {lab : Nat → Nat} (K : Kept Old W W') : Kept (Tn (fun _ => False) lab) W W' := K.mono fun _ x => x.elim
/-- Nothing of the store has turned; what is new is nobody's. -/
theorem StM.old (m : StM w0 W s P k live F pl) (K : Kept Old W W') : StM w0 W' s P k live F (pl.re W.heap.size 97) :=
  have K := old_tn (lab := pl.lab) K
  ⟨m.st.go K id, m.hp.go m.ff K id id id, m.ar.go K id, fun c hc => (m.pt c hc).go K id, m.ch, m.kb.go K id, m.kq.go K id, m.lv.go K id, m.ff.go K id id⟩
/-- Blocks that came since are none of the store's. -/
theorem StM.more {G : Nat → Prop} (m : StM w0 W s P k live F pl) (K : Kept Old W W') (hG : ∀ b, G b → F b ∨ (W.heap.size ≤ b ∧ b < W'.heap.size)) : StM w0 W' s P k live G (pl.re W.heap.size 98) := by
  have K' := old_tn (lab := pl.lab) K
  have f := m.ff.go (j := 98) K' id id
  refine ⟨m.st.go K' id, m.hp.go m.ff K' id id id, m.ar.go K' id, fun c hc => (m.pt c hc).go K' id, m.ch, m.kb.go K' id, m.kq.go K' id, m.lv.go K' id, ⟨f.kept, f.low, fun b hb => ?_⟩⟩
  rcases hG b hb with e | ⟨e1, e2⟩
  · exact f.far b e
  · exact ⟨rel_ge e1, e2⟩
/-- A step that turns blocks of F alone, new since w0 or not. -/
theorem StM.only {G D : Nat → Prop} (m : StM w0 W s P k live F pl) (K : Kept D W W') (hD : ∀ b, D b → b < W.heap.size → F b ∧ w0.heap.size ≤ b) (hG : ∀ b, G b → F b ∨ (W.heap.size ≤ b ∧ b < W'.heap.size)) : StM w0 W' s P k live G (pl.re W.heap.size 98) := by
  have K1 : Kept (Tn (fun i => i = 98) pl.lab) W W' := kept_lt K fun i hi d => (m.ff.far i (hD i d hi).1).1
  have K0 : Kept (fun b => D b ∧ b < W.heap.size) W W' := kept_lt K fun i hi d => ⟨d, hi⟩
  refine ⟨m.st.go K1 (by omega), ⟨Hp.turns m.hp.hp K (fun b hb hl => ?_) (fun b hb => ?_)⟩, m.ar.go K1 (by omega), fun c hc => (m.pt c hc).go K1 (by omega), m.ch, m.kb.go K1 (by omega), m.kq.go K1 (by omega), m.lv.go K1 (by omega), ⟨m.ff.kept.join K0 (fun i hi e => by have := (hD i e.1 e.2).2; omega), fun b hb => ?_, fun b hb => ?_⟩⟩
  · have := hD b hb hl
    exact ⟨⟨hl, by rw [(m.ff.far b this.1).1]; omega⟩, this.2⟩
  · obtain ⟨b1, b2⟩ := hb
    by_cases c : b < W.heap.size
    · exact .inl ⟨c, by rw [← rel_lt (j := 98) (lab := pl.lab) c]; exact b2⟩
    · exact .inr ⟨by omega, b1⟩
  · have := m.ff.kept.size
    rw [show (pl.re W.heap.size 98).lab b = pl.lab b from rel_lt (by omega)]; exact m.ff.low b hb
  · rcases hG b hb with e | ⟨e1, e2⟩
    · obtain ⟨z1, z2⟩ := m.ff.far b e
      exact ⟨(rel_lt z2).trans z1, Nat.lt_of_lt_of_le z2 K.size⟩
    · exact ⟨rel_ge e1, e2⟩
/-- The heap has turned. -/
theorem StM.heap {rl : List R} {sl : List S} (m : StM w0 W s P k live F pl) (H : Hp w0 W' pl.h (P : Int) rl sl (fun b => b < W.heap.size ∧ pl.lab b ≠ 1)) (K : Kept (Fr (fun b => b < W.heap.size ∧ pl.lab b ≠ 1)) W W') :
    StM w0 W' s P { k with rl := rl, sl := sl } live F (pl.re W.heap.size 1) ∧ Kept (Fr F) W W' := by
  have K1 : Kept (Tn (fun i => i = 1) pl.lab) W W' := kept_lt K fun i hi d => Classical.byContradiction fun q => d ⟨hi, q⟩
  refine ⟨⟨⟨(m.st.go (j := 1) K1 (by omega)).box, (m.st.go (j := 1) K1 (by omega)).lab⟩, ⟨H.more (Kept.refl _ _) (fun b hb => .inl ?_)⟩, m.ar.go K1 (by omega), fun c hc => ?_, m.ch, ?_, ?_, m.lv.go K1 (by omega), m.ff.go K1 (by omega) (by omega)⟩, m.ff.frame K1 (by omega)⟩
  · obtain ⟨b1, b2⟩ := hb
    by_cases c : b < W.heap.size
    · exact ⟨c, by rw [← rel_lt (j := 1) (lab := pl.lab) c]; exact b2⟩
    · exact absurd (rel_ge (by omega)) b2
  · have q := (m.pt c hc).go (j := 1) K1 (by omega)
    exact ⟨q.pt, q.lp, q.lo⟩
  · have q := m.kb.go (j := 1) K1 (by omega)
    exact ⟨q.rs, q.cap, q.nil, q.lab⟩
  · have q := m.kq.go (j := 1) K1 (by omega)
    exact ⟨q.rs, q.cap, q.nil, q.lab⟩
/-- A pool has turned, and words of one of its spans. -/
theorem StM.pool {c : Nat} (hc : c < 4) {L : List Prt.Q} {lo : Nat} (m : StM w0 W s P k live F pl) (H : Prt.ChgP w0.heap.size (pl.pq c) pl.a pl.g (pl.pv c) c L pl.ws lo W W') (far : ∀ d, d < 4 → d ≠ c → ∀ x ∈ k.p d, ∀ a ∈ x.free, a < lo * 64 ∨ lo * 64 + 512 ≤ a) :
    (∃ pl', StM w0 W' s P (k.pool c L) live F pl' ∧ pl'.a = pl.a ∧ pl'.h = pl.h ∧ pl'.pq = pl.pq) ∧ Kept (Fr F) W W' := by
  obtain ⟨v', vs, T, A, C, hl, K, ob, fr⟩ := H
  have P0 := m.pt c hc
  have K1 : Kept (Tn (fun i => i = 2 ∨ i = 3 + c) pl.lab) W W' := K.mono fun i e => by
    rcases e with e | e | e
    · exact .inr (e ▸ P0.lp)
    · exact .inl (e ▸ m.ar.lg)
    · exact .inr (P0.lo i e.symm)
  refine ⟨⟨{ pl.re W.heap.size (3 + c) with ws := vs, pv := fun d => if d = c then v' else pl.pv d }, ⟨?_, ?_, ⟨A, by rw [hl]; exact m.ar.len, (m.ar.go (j := 3 + c) (I := fun _ => False) ⟨rfl, rfl, rfl, Nat.le_refl _, fun _ _ _ => rfl⟩ id).la, (m.ar.go (j := 3 + c) (I := fun _ => False) ⟨rfl, rfl, rfl, Nat.le_refl _, fun _ _ _ => rfl⟩ id).lg⟩, fun d hd => ?_, fun d hd => ?_, ?_, ?_, ?_, ?_⟩, rfl, rfl, rfl⟩, m.ff.frame K1 (by omega)⟩
  · have q := m.st.go (j := 3 + c) K1 (by omega)
    exact ⟨q.box, q.lab⟩
  · exact ⟨(m.hp.go (j := 3 + c) m.ff K1 (by omega) (by omega) (by omega)).hp⟩
  · by_cases e : d = c
    · subst e
      refine ⟨?_, (rel_lt P0.pt.box.lt).trans P0.lp, fun b hb => ?_⟩
      · show Prt.Pt W' _ _ (if d = d then v' else pl.pv d) d ((k.pool d L).p d)
        rw [if_pos rfl, Sto.K.pool_at]
        exact T
      · have hb : v'.ownBlock = some b := by
          have : (if d = d then v' else pl.pv d).ownBlock = some b := hb
          rwa [if_pos rfl] at this
        rcases ob with z | ⟨b', z, hb'⟩
        · rw [z] at hb
          exact (rel_lt (P0.pt.own.own b hb.symm).2).trans (P0.lo b hb)
        · rw [z] at hb
          injection hb with hb
          exact rel_ge (by omega)
    · have q := (m.pt d hd).go (j := 3 + c) K1 (by omega)
      refine ⟨?_, q.lp, fun b hb => q.lo b ?_⟩
      · show Prt.Pt W' _ _ (if d = c then v' else pl.pv d) d ((k.pool c L).p d)
        rw [if_neg e, Sto.K.pool_ne _ _ e]
        exact q.pt
      · have : (if d = c then v' else pl.pv d).ownBlock = some b := hb
        rwa [if_neg e] at this
  · show Prt.Chs vs ((k.pool c L).p d)
    by_cases e : d = c
    · subst e; rw [Sto.K.pool_at]; exact C
    · rw [Sto.K.pool_ne _ _ e]
      exact fun x hx => fr _ _ (m.ch d hd x hx) (far d hd e x hx)
  · have q := m.kb.go (j := 3 + c) K1 (by omega)
    exact ⟨q.rs, q.cap, q.nil, q.lab⟩
  · have q := m.kq.go (j := 3 + c) K1 (by omega)
    exact ⟨q.rs, q.cap, q.nil, q.lab⟩
  · have q := m.lv.go (j := 3 + c) K1 (by omega)
    exact ⟨q.ow, q.lab⟩
  · have q := m.ff.go (j := 3 + c) K1 (by omega) (by omega)
    exact ⟨q.kept, q.low, q.far⟩
/-- The large ones that wait are another list, new memory. -/
theorem StM.big {L : List Bg.R} {A : Option Addr} {n c : Nat} (m : StM w0 W s P k live F pl) (R' : Bg.Rs W' A n L) (hc : n ≤ c) (hA : A = none → c = 0) (new : ∀ ad, A = some ad → W.heap.size ≤ ad.block) (K : Kept Old W W') :
    (∃ pl', StM w0 (W'.setCell ⟨s, 10, none⟩ (.slice A n c)) s P { k with big := L } live F pl' ∧ pl'.a = pl.a ∧ pl'.h = pl.h ∧ pl'.pq = pl.pq) ∧ Kept (Fr F) W (W'.setCell ⟨s, 10, none⟩ (.slice A n c)) := by
  have K0 := old_tn (lab := pl.lab) K
  have S0 := m.st.go (j := 8) K0 id
  have ks := only_setCell W' s 10 (.slice A n c)
  have K1 : Kept (Tn (fun i => i = 0) pl.lab) W (W'.setCell ⟨s, 10, none⟩ (.slice A n c)) := (K0.mono fun _ e => e.elim).trans (kept_lt ks fun i _ e => by have e : i = s := e; rw [e]; exact m.st.lab)
  have ne : ∀ b, FR A n b → ¬ (Only s) b := fun b hb e => by
    obtain ⟨_, ad, z, rfl⟩ := hb
    have := new ad z
    have := m.st.box.lt
    have e : ad.block = s := e
    omega
  refine ⟨⟨{ pl.re W.heap.size 8 with A1 := A, n1 := n, c1 := c }, ⟨⟨?_, S0.lab⟩, ⟨(m.hp.go (j := 8) m.ff K1 (by omega) (by omega) (by omega)).hp⟩, ?_, fun d hd => ?_, m.ch, ⟨big_fr R' ks (fun b _ hb => ne b hb), hc, hA, fun b hb => ?_⟩, ?_, ?_, ?_⟩, rfl, rfl, rfl⟩, m.ff.frame K1 (by omega)⟩
  · exact S0.box.put 10 (.slice A n c)
  · have q := m.ar.go (j := 8) K1 (by omega)
    exact ⟨q.ar, q.len, q.la, q.lg⟩
  · have q := (m.pt d hd).go (j := 8) K1 (by omega)
    exact ⟨q.pt, q.lp, q.lo⟩
  · obtain ⟨_, ad, z, rfl⟩ := hb
    exact rel_ge (new ad z)
  · have q := m.kq.go (j := 8) K1 (by omega)
    exact ⟨q.rs, q.cap, q.nil, q.lab⟩
  · have q := m.lv.go (j := 8) K1 (by omega)
    exact ⟨q.ow, q.lab⟩
  · have q := m.ff.go (j := 8) K1 (by omega) (by omega)
    exact ⟨q.kept, q.low, q.far⟩
/-- The queue is another one, new memory; the phase is stored with it. -/
theorem StM.late {L : List Int} {A : Option Addr} {n c : Nat} {on : Bool} (m : StM w0 W s P k live F pl) (R' : RsI W' A n L) (hc : n ≤ c) (hA : A = none → c = 0) (new : ∀ ad, A = some ad → W.heap.size ≤ ad.block) (K : Kept Old W W') :
    (∃ pl', StM w0 ((W'.setCell ⟨s, 11, none⟩ (.bool on)).setCell ⟨s, 12, none⟩ (.slice A n c)) s P { k with on := on, back := L } live F pl' ∧ pl'.a = pl.a ∧ pl'.h = pl.h ∧ pl'.pq = pl.pq) ∧ Kept (Fr F) W ((W'.setCell ⟨s, 11, none⟩ (.bool on)).setCell ⟨s, 12, none⟩ (.slice A n c)) := by
  have K0 := old_tn (lab := pl.lab) K
  have S0 := m.st.go (j := 9) K0 id
  have ks : Kept (Only s) W' ((W'.setCell ⟨s, 11, none⟩ (.bool on)).setCell ⟨s, 12, none⟩ (.slice A n c)) := (only_setCell W' s 11 (.bool on)).trans (only_setCell _ s 12 _)
  have K1 : Kept (Tn (fun i => i = 0) pl.lab) W ((W'.setCell ⟨s, 11, none⟩ (.bool on)).setCell ⟨s, 12, none⟩ (.slice A n c)) := (K0.mono fun _ e => e.elim).trans (kept_lt ks fun i _ e => by have e : i = s := e; rw [e]; exact m.st.lab)
  have ne : ∀ b, FR A n b → ¬ (Only s) b := fun b hb e => by
    obtain ⟨_, ad, z, rfl⟩ := hb
    have := new ad z
    have := m.st.box.lt
    have e : ad.block = s := e
    omega
  refine ⟨⟨{ pl.re W.heap.size 9 with A2 := A, n2 := n, c2 := c }, ⟨⟨?_, S0.lab⟩, ⟨(m.hp.go (j := 9) m.ff K1 (by omega) (by omega) (by omega)).hp⟩, ?_, fun d hd => ?_, m.ch, ?_, ⟨int_fr R' ks (fun b _ hb => ne b hb), hc, hA, fun b hb => ?_⟩, ?_, ?_⟩, rfl, rfl, rfl⟩, m.ff.frame K1 (by omega)⟩
  · exact (S0.box.put 11 (.bool on)).put 12 (.slice A n c)
  · have q := m.ar.go (j := 9) K1 (by omega)
    exact ⟨q.ar, q.len, q.la, q.lg⟩
  · have q := (m.pt d hd).go (j := 9) K1 (by omega)
    exact ⟨q.pt, q.lp, q.lo⟩
  · have q := m.kb.go (j := 9) K1 (by omega)
    exact ⟨q.rs, q.cap, q.nil, q.lab⟩
  · obtain ⟨_, ad, z, rfl⟩ := hb
    exact rel_ge (new ad z)
  · have q := m.lv.go (j := 9) K1 (by omega)
    exact ⟨q.ow, q.lab⟩
  · have q := m.ff.go (j := 9) K1 (by omega) (by omega)
    exact ⟨q.kept, q.low, q.far⟩
/-- The live stacks' list has turned, and is stored. -/
theorem StM.lives {L : List Lm.S} {v : Value} (m : StM w0 W s P k live F pl) (O : Lm.OwS W' w0.heap.size v L.length L) (K : Kept (fun b => some b = pl.lv.ownBlock) W W') (ob : v.ownBlock = pl.lv.ownBlock ∨ ∃ b, v.ownBlock = some b ∧ W.heap.size ≤ b) :
    (∃ pl', StM w0 (W'.setCell ⟨s, 13, none⟩ v) s P k L F pl' ∧ pl'.a = pl.a ∧ pl'.h = pl.h ∧ pl'.pq = pl.pq) ∧ Kept (Fr F) W (W'.setCell ⟨s, 13, none⟩ v) := by
  have K0 : Kept (Tn (fun i => i = 10) pl.lab) W W' := K.mono fun i e => m.lv.lab i e.symm
  have S0 := m.st.go (j := 10) K0 (by omega)
  have ks := only_setCell W' s 13 v
  have K1 : Kept (Tn (fun i => i = 0 ∨ i = 10) pl.lab) W (W'.setCell ⟨s, 13, none⟩ v) := (K0.mono fun _ e => .inr e).trans (kept_lt ks fun i _ e => by have e : i = s := e; rw [e]; exact .inl m.st.lab)
  have own : ∀ b, v.ownBlock = some b → (pl.re W.heap.size 10).lab b = 10 ∧ b ≠ s := fun b hb => by
    rcases ob with z | ⟨b', z, hb'⟩
    · rw [z] at hb
      have := (m.lv.ow.own b hb.symm).2
      refine ⟨(rel_lt this).trans (m.lv.lab b hb), fun e => ?_⟩
      have := m.lv.lab b hb
      rw [e, m.st.lab] at this
      cases this
    · rw [z] at hb
      injection hb with hb
      have := m.st.box.lt
      exact ⟨rel_ge (by omega), by omega⟩
  refine ⟨⟨{ pl.re W.heap.size 10 with lv := v }, ⟨⟨?_, S0.lab⟩, ⟨(m.hp.go (j := 10) m.ff K1 (by omega) (by omega) (by omega)).hp⟩, ?_, fun d hd => ?_, m.ch, ?_, ?_, ⟨O.kept ks (fun b hb e => (own b hb).2 e), fun b hb => (own b hb).1⟩, ?_⟩, rfl, rfl, rfl⟩, m.ff.frame K1 (by omega)⟩
  · exact S0.box.put 13 v
  · have q := m.ar.go (j := 10) K1 (by omega)
    exact ⟨q.ar, q.len, q.la, q.lg⟩
  · have q := (m.pt d hd).go (j := 10) K1 (by omega)
    exact ⟨q.pt, q.lp, q.lo⟩
  · have q := m.kb.go (j := 10) K1 (by omega)
    exact ⟨q.rs, q.cap, q.nil, q.lab⟩
  · have q := m.kq.go (j := 10) K1 (by omega)
    exact ⟨q.rs, q.cap, q.nil, q.lab⟩
  · have q := m.ff.go (j := 10) K1 (by omega) (by omega)
    exact ⟨q.kept, q.low, q.far⟩
end turn
end Go.Proofs.YtjfkmgicbakmgaaGreat.Sto
