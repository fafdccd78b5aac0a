/-
  A store whose queue and whose large ones are drained: blocks that were the caller's become the store's; one round of each loop of GC. Own work; no program is walked here.
-/
import Derived.Test.YtjfkmgicbakmgaaGreatRows
import Derived.Test.YtjfkmgicbakmgaaGreatJStoreGive
import Derived.Test.YtjfkmgicbakmgaaGreatJStoreWalk
namespace Go.Proofs.YtjfkmgicbakmgaaGreat.Sto
open Go.ChangeShapes Go.WideShapes Go.ChangeAt Go.RowKit
set_option maxRecDepth 100000
section drain
variable {w0 W : World} {s P : Nat} {k : K} {live : List Lm.S} {F G : Nat → Prop} {pl : Pl} {O : Int → Int → Prop}
/-- Blocks of the caller's are handed over, and bear label j. -/
theorem StM.relabel {B : Nat → Prop} (j : Nat) (m : StM w0 W s P k live G pl) (hB : ∀ b, B b → G b ∧ w0.heap.size ≤ b) (hF : ∀ b, F b → G b ∧ ¬ B b) :
    ∃ pl', StM w0 W s P k live F pl' ∧ Same pl pl' ∧ (∀ b, B b → pl'.lab b = j) := by
  classical
  let pl' : Pl := { pl with lab := fun b => if B b then j else pl.lab b }
  have keep : ∀ b i, pl.lab b = i → i ≠ 98 → pl'.lab b = i := fun b i h n => by
    show (if B b then j else pl.lab b) = i
    rw [if_neg fun c => n (by rw [← h]; exact (m.ff.far b (hB b c).1).1)]
    exact h
  refine ⟨pl', ⟨⟨m.st.box, keep _ _ m.st.lab (by omega)⟩, ⟨m.hp.hp.more (Kept.refl _ _) (fun b hb => .inl ⟨hb.1, ?_⟩)⟩, ⟨m.ar.ar, m.ar.len, keep _ _ m.ar.la (by omega), keep _ _ m.ar.lg (by omega)⟩, fun c hc => ⟨(m.pt c hc).pt, keep _ _ (m.pt c hc).lp (by omega), fun b h => keep _ _ ((m.pt c hc).lo b h) (by omega)⟩, m.ch, ⟨m.kb.rs, m.kb.cap, m.kb.nil, fun b h => keep _ _ (m.kb.lab b h) (by omega)⟩, ⟨m.kq.rs, m.kq.cap, m.kq.nil, fun b h => keep _ _ (m.kq.lab b h) (by omega)⟩, ⟨m.lv.ow, fun b h => keep _ _ (m.lv.lab b h) (by omega)⟩, ⟨m.ff.kept, fun b hb => ?_, fun b hb => ?_⟩⟩, ⟨rfl, rfl, rfl⟩, fun b hb => if_pos hb⟩
  · intro e
    have h2 := hb.2
    exact h2 (keep b 1 e (by omega))
  · have : pl'.lab b = pl.lab b := if_neg fun c => by have := (hB b c).2; omega
    rw [this]
    exact m.ff.low b hb
  · have : pl'.lab b = pl.lab b := if_neg (hF b hb).2
    rw [this]
    exact m.ff.far b (hF b hb).1
theorem StM.less (m : StM w0 W s P k live G pl) (hF : ∀ b, F b → G b) : StM w0 W s P k live F pl :=
  ⟨m.st, m.hp, m.ar, m.pt, m.ch, m.kb, m.kq, m.lv, ⟨m.ff.kept, m.ff.low, fun b hb => m.ff.far b (hF b hb)⟩⟩
theorem StM.phase {c : Bool} (m : StM w0 W s P k live F pl) (h : k.on = c) (b : Bool) (e : b = c) : StM w0 W s P { k with on := b } live F pl :=
  ⟨⟨by rw [show ({ k with on := b } : K).on = k.on from e.trans h.symm]; exact m.st.box, m.st.lab⟩, ⟨m.hp.hp⟩, m.ar, fun c hc => ⟨(m.pt c hc).pt, (m.pt c hc).lp, (m.pt c hc).lo⟩, m.ch, ⟨m.kb.rs, m.kb.cap, m.kb.nil, m.kb.lab⟩, ⟨m.kq.rs, m.kq.cap, m.kq.nil, m.kq.lab⟩, m.lv, m.ff⟩
/-- The queue's own blocks are laid in the struct. -/
theorem StM.late3 {L : List Int} {A : Option Addr} {n c : Nat} {on : Bool} (m : StM w0 W s P k live F pl) (R' : RsI W A n L) (hc : n ≤ c) (hA : A = none → c = 0) (lab : ∀ b, FR A n b → pl.lab b = 9) :
    StM w0 ((W.setCell ⟨s, 11, none⟩ (.bool on)).setCell ⟨s, 12, none⟩ (.slice A n c)) s P { k with on := on, back := L } live F { pl.re W.heap.size 97 with A2 := A, n2 := n, c2 := c } ∧ Kept (Fr F) W ((W.setCell ⟨s, 11, none⟩ (.bool on)).setCell ⟨s, 12, none⟩ (.slice A n c)) := by
  have ks : Kept (Only s) W ((W.setCell ⟨s, 11, none⟩ (.bool on)).setCell ⟨s, 12, none⟩ (.slice A n c)) := (only_setCell W s 11 (.bool on)).trans (only_setCell _ s 12 _)
  have K1 : Kept (Tn (fun i => i = 0) pl.lab) W ((W.setCell ⟨s, 11, none⟩ (.bool on)).setCell ⟨s, 12, none⟩ (.slice A n c)) := kept_lt ks fun i _ e => by have e : i = s := e; rw [e]; exact m.st.lab
  have ne : ∀ b, FR A n b → ¬ (Only s) b := fun b hb e => by
    have e : b = s := e
    have := lab b hb
    rw [e, m.st.lab] at this
    omega
  refine ⟨⟨⟨(m.st.box.put 11 (.bool on)).put 12 (.slice A n c), (rel_lt m.st.box.lt).trans m.st.lab⟩, ⟨(m.hp.go (j := 97) m.ff K1 (by omega) (by omega) (by omega)).hp⟩, ?_, fun d hd => ?_, m.ch, ?_, ⟨int_fr R' ks (fun b _ hb => ne b hb), hc, hA, fun b hb => (rel_lt (int_lt R' hb)).trans (lab b hb)⟩, ?_, ?_⟩, m.ff.frame K1 (by omega)⟩
  · have q := m.ar.go (j := 97) K1 (by omega)
    exact ⟨q.ar, q.len, q.la, q.lg⟩
  · have q := (m.pt d hd).go (j := 97) K1 (by omega)
    exact ⟨q.pt, q.lp, q.lo⟩
  · have q := m.kb.go (j := 97) K1 (by omega)
    exact ⟨q.rs, q.cap, q.nil, q.lab⟩
  · have q := m.lv.go (j := 97) K1 (by omega)
    exact ⟨q.ow, q.lab⟩
  · have q := m.ff.go (j := 97) K1 (by omega) (by omega)
    exact ⟨q.kept, q.low, q.far⟩
theorem StM.big3 {L : List Bg.R} {A : Option Addr} {n c : Nat} (m : StM w0 W s P k live F pl) (R' : Bg.Rs W A n L) (hc : n ≤ c) (hA : A = none → c = 0) (lab : ∀ b, FR A n b → pl.lab b = 8) :
    StM w0 (W.setCell ⟨s, 10, none⟩ (.slice A n c)) s P { k with big := L } live F { pl.re W.heap.size 97 with A1 := A, n1 := n, c1 := c } ∧ Kept (Fr F) W (W.setCell ⟨s, 10, none⟩ (.slice A n c)) := by
  have ks := only_setCell W s 10 (.slice A n c)
  have K1 : Kept (Tn (fun i => i = 0) pl.lab) W (W.setCell ⟨s, 10, none⟩ (.slice A n c)) := kept_lt ks fun i _ e => by have e : i = s := e; rw [e]; exact m.st.lab
  have ne : ∀ b, FR A n b → ¬ (Only s) b := fun b hb e => by
    have e : b = s := e
    have := lab b hb
    rw [e, m.st.lab] at this
    omega
  refine ⟨⟨⟨m.st.box.put 10 (.slice A n c), (rel_lt m.st.box.lt).trans m.st.lab⟩, ⟨(m.hp.go (j := 97) m.ff K1 (by omega) (by omega) (by omega)).hp⟩, ?_, fun d hd => ?_, m.ch, ⟨big_fr R' ks (fun b _ hb => ne b hb), hc, hA, fun b hb => (rel_lt (big_lt R' hb)).trans (lab b hb)⟩, ?_, ?_, ?_⟩, m.ff.frame K1 (by omega)⟩
  · have q := m.ar.go (j := 97) K1 (by omega)
    exact ⟨q.ar, q.len, q.la, q.lg⟩
  · have q := (m.pt d hd).go (j := 97) K1 (by omega)
    exact ⟨q.pt, q.lp, q.lo⟩
  · have q := m.kq.go (j := 97) K1 (by omega)
    exact ⟨q.rs, q.cap, q.nil, q.lab⟩
  · have q := m.lv.go (j := 97) K1 (by omega)
    exact ⟨q.ow, q.lab⟩
  · have q := m.ff.go (j := 97) K1 (by omega) (by omega)
    exact ⟨q.kept, q.low, q.far⟩
/-! ### A round of the queue's loop -/
abbrev Gx (F : Nat → Prop) (x : Nat) (A : Option Addr) (n : Nat) (b : Nat) : Prop := F b ∨ b = x ∨ FR A n b
/-- What is asked next: the rest in block x, new memory, beside a store whose queue is l. -/
structure Lr (w0 W : World) (s P : Nat) (k : K) (live : List Lm.S) (F : Nat → Prop) (pl : Pl) (x : Nat) (A : Option Addr) (n c : Nat) : Prop where
  st : StM w0 W s P k live (Gx F x A n) pl
  box : Lq.Bq W x false (.slice A n c)
  rs : RsI W A n (k.back.drop 1)
  cap : n ≤ c
  nil : A = none → c = 0
  xlow : w0.heap.size ≤ x
  xfar : ¬ FR A n x
  xnew : ¬ F x
  low : ∀ b, FR A n b → w0.heap.size ≤ b
  dis : ∀ b, FR A n b → ¬ F b
/-- The loop's variable is laid anew, with what Next told. -/
theorem Lr.make {V : World} {x : Nat} {A : Option Addr} {n c : Nat} (m : StM w0 W s P k live F pl) (K : Kept Old W V) (hx : W.heap.size ≤ x) (B : Lq.Bq V x false (.slice A n c)) (R : RsI V A n (k.back.drop 1)) (hc : n ≤ c) (hA : A = none → c = 0) (new : ∀ ad, A = some ad → W.heap.size ≤ ad.block) (hd : ∀ b, FR A n b → b ≠ x) :
    Lr w0 V s P k live F (pl.re W.heap.size 98) x A n c := by
  have s0 := m.ff.kept.size
  have nw : ∀ b, FR A n b → W.heap.size ≤ b := fun b ⟨_, ad, e, z⟩ => z ▸ new ad e
  exact ⟨m.more K (fun b hb => by
      rcases hb with e | rfl | e
      · exact .inl e
      · exact .inr ⟨hx, Blk.lt B⟩
      · exact .inr ⟨nw b e, int_lt R e⟩), B, R, hc, hA, by omega, fun z => hd x z rfl, fun e => by have := (m.ff.far x e).2; omega, fun b e => by have := nw b e; omega, fun b e f => by have := nw b e; have := (m.ff.far b f).2; omega⟩
/-- The heap has turned between. -/
theorem Lr.turn {W1 : World} {k1 : K} {pl1 : Pl} {x : Nat} {A : Option Addr} {n c : Nat} (h : Lr w0 W s P k live F pl x A n c) (m : StM w0 W1 s P k1 live (Gx F x A n) pl1) (K : Kept (Fr (Gx F x A n)) W W1) (e : k1.back = k.back) : Lr w0 W1 s P k1 live F pl1 x A n c :=
  ⟨m, Blk.kept h.box K (fun z => z (.inr (.inl rfl))), e ▸ int_fr h.rs K (fun _ _ hb z => z (.inr (.inr hb))), h.cap, h.nil, h.xlow, h.xfar, h.xnew, h.low, h.dis⟩
/-- The rest becomes the store's queue. -/
theorem Lr.step {x : Nat} {A : Option Addr} {n c : Nat} (h : Lr w0 W s P k live F pl x A n c) (on : k.on = false) :
    (∃ pl', StM w0 ((W.setCell ⟨s, 11, none⟩ (.bool false)).setCell ⟨s, 12, none⟩ (.slice A n c)) s P { k with back := k.back.drop 1 } live F pl' ∧ Same pl pl') ∧ Kept (Fr F) W ((W.setCell ⟨s, 11, none⟩ (.bool false)).setCell ⟨s, 12, none⟩ (.slice A n c)) ∧ Lq.Bq ((W.setCell ⟨s, 11, none⟩ (.bool false)).setCell ⟨s, 12, none⟩ (.slice A n c)) x false (.slice A n c) ∧ RsI ((W.setCell ⟨s, 11, none⟩ (.bool false)).setCell ⟨s, 12, none⟩ (.slice A n c)) A n (k.back.drop 1) := by
  obtain ⟨pl1, m1, e1, lab⟩ := h.st.relabel (F := F) (B := FR A n) 9 (fun b hb => ⟨.inr (.inr hb), h.low b hb⟩) (fun b hb => ⟨.inl hb, fun c => h.dis b c hb⟩)
  obtain ⟨m2, f⟩ := m1.late3 (on := false) h.rs h.cap h.nil lab
  have xs : x ≠ s := fun e => by
    have := (h.st.ff.far x (.inr (.inl rfl))).1
    rw [e, h.st.st.lab] at this
    omega
  refine ⟨⟨{ pl1.re W.heap.size 97 with A2 := A, n2 := n, c2 := c }, ?_, ⟨e1.a, e1.h, e1.pq⟩⟩, f, ?_, m2.kq.rs⟩
  · obtain ⟨rl, sl, p, big, on', back⟩ := k
    obtain rfl : on' = false := on
    exact m2
  · exact Blk.kept h.box ((only_setCell W s 11 (.bool false)).trans (only_setCell _ s 12 _)) xs
/-- The next variable and what Next told of the rest. -/
theorem Lr.next {V V2 : World} {v0 : Value} {A : Option Addr} {n c : Nat} (m : StM w0 V s P k live F pl) (K : Kept Old (V.alloc (.cells #[.bool false, v0] 84)) V2) (R : RsI V2 A n (k.back.drop 1)) (hc : n ≤ c) (hA : A = none → c = 0) (new : ∀ ad, A = some ad → (V.alloc (.cells #[.bool false, v0] 84)).heap.size ≤ ad.block) :
    Lr w0 ((V2.setCell ⟨V.heap.size, 0, none⟩ (.bool false)).setCell ⟨V.heap.size, 1, none⟩ (.slice A n c)) s P k live F (pl.re V.heap.size 98) V.heap.size A n c ∧ Kept Old V ((V2.setCell ⟨V.heap.size, 0, none⟩ (.bool false)).setCell ⟨V.heap.size, 1, none⟩ (.slice A n c)) := by
  have KV : Kept Old V V2 := (Kept.refl Old V).alloc _ |>.trans K
  have ks : Kept (Only V.heap.size) V2 ((V2.setCell ⟨V.heap.size, 0, none⟩ (.bool false)).setCell ⟨V.heap.size, 1, none⟩ (.slice A n c)) := (only_setCell V2 _ 0 _).trans (only_setCell _ _ 1 _)
  have sz : (V.alloc (.cells #[.bool false, v0] 84)).heap.size = V.heap.size + 1 := by simp
  have K3 : Kept Old V ((V2.setCell ⟨V.heap.size, 0, none⟩ (.bool false)).setCell ⟨V.heap.size, 1, none⟩ (.slice A n c)) := KV.join ks (fun i hi e => by have e : i = V.heap.size := e; omega)
  have far : ∀ ad, A = some ad → ad.block ≠ V.heap.size := fun ad e => by have := new ad e; omega
  refine ⟨Lr.make m K3 (Nat.le_refl _) (Lq.Bq.put2 ((Lq.Bq.new V false v0).old K) _ _) (R.kept ks (fun ad e d => far ad e d)) hc hA (fun ad e => by have := new ad e; omega) (fun b ⟨_, ad, e, z⟩ => z ▸ far ad e), K3⟩
/-- The first one. -/
theorem Lr.first {V : World} {A : Option Addr} {n c : Nat} (m : StM w0 W s P k live F pl) (K : Kept Old W V) (R : RsI V A n (k.back.drop 1)) (hc : n ≤ c) (hA : A = none → c = 0) (new : ∀ ad, A = some ad → W.heap.size ≤ ad.block) :
    Lr w0 (V.alloc (.cells #[.bool false, .slice A n c] 84)) s P k live F (pl.re W.heap.size 98) V.heap.size A n c ∧ Kept Old W (V.alloc (.cells #[.bool false, .slice A n c] 84)) := by
  have k1 : Kept Old V (V.alloc (.cells #[.bool false, .slice A n c] 84)) := (Kept.refl Old V).alloc _
  refine ⟨Lr.make m (K.trans k1) K.size (Lq.Bq.new V false _) (R.old k1) hc hA new (fun b hb e => by have := int_lt R hb; omega), K.trans k1⟩
/-! ### A round of the large ones' loop -/
structure Dr (w0 W : World) (s P : Nat) (k : K) (live : List Lm.S) (F : Nat → Prop) (pl : Pl) (x : Nat) (A : Option Addr) (n c : Nat) : Prop where
  st : StM w0 W s P k live (Gx F x A n) pl
  box : Bg.Bx W x (Bg.headL k.big)
  rs : Bg.Rs W A n (k.big.drop 1)
  cap : n ≤ c
  nil : A = none → c = 0
  xlow : w0.heap.size ≤ x
  xfar : ¬ FR A n x
  xnew : ¬ F x
  low : ∀ b, FR A n b → w0.heap.size ≤ b
  dis : ∀ b, FR A n b → ¬ F b
theorem Dr.make {V : World} {x : Nat} {A : Option Addr} {n c : Nat} (m : StM w0 W s P k live F pl) (K : Kept Old W V) (hx : W.heap.size ≤ x) (B : Bg.Bx V x (Bg.headL k.big)) (R : Bg.Rs V A n (k.big.drop 1)) (hc : n ≤ c) (hA : A = none → c = 0) (new : ∀ ad, A = some ad → W.heap.size ≤ ad.block) (hd : ∀ b, FR A n b → b ≠ x) :
    Dr w0 V s P k live F (pl.re W.heap.size 98) x A n c := by
  have s0 := m.ff.kept.size
  have nw : ∀ b, FR A n b → W.heap.size ≤ b := fun b ⟨_, ad, e, z⟩ => z ▸ new ad e
  exact ⟨m.more K (fun b hb => by
      rcases hb with e | rfl | e
      · exact .inl e
      · exact .inr ⟨hx, Blk.lt B⟩
      · exact .inr ⟨nw b e, big_lt R e⟩), B, R, hc, hA, by omega, fun z => hd x z rfl, fun e => by have := (m.ff.far x e).2; omega, fun b e => by have := nw b e; omega, fun b e f => by have := nw b e; have := (m.ff.far b f).2; omega⟩
theorem Dr.turn {W1 : World} {k1 : K} {pl1 : Pl} {x : Nat} {A : Option Addr} {n c : Nat} (h : Dr w0 W s P k live F pl x A n c) (m : StM w0 W1 s P k1 live (Gx F x A n) pl1) (K : Kept (Fr (Gx F x A n)) W W1) (e : k1.big = k.big) : Dr w0 W1 s P k1 live F pl1 x A n c :=
  ⟨m, e ▸ Blk.kept h.box K (fun z => z (.inr (.inl rfl))), e ▸ big_fr h.rs K (fun _ _ hb z => z (.inr (.inr hb))), h.cap, h.nil, h.xlow, h.xfar, h.xnew, h.low, h.dis⟩
theorem Dr.step {x : Nat} {A : Option Addr} {n c : Nat} (h : Dr w0 W s P k live F pl x A n c) :
    (∃ pl', StM w0 (W.setCell ⟨s, 10, none⟩ (.slice A n c)) s P { k with big := k.big.drop 1 } live F pl' ∧ Same pl pl') ∧ Kept (Fr F) W (W.setCell ⟨s, 10, none⟩ (.slice A n c)) ∧ Bg.Bx (W.setCell ⟨s, 10, none⟩ (.slice A n c)) x (Bg.headL k.big) ∧ Bg.Rs (W.setCell ⟨s, 10, none⟩ (.slice A n c)) A n (k.big.drop 1) := by
  obtain ⟨pl1, m1, e1, lab⟩ := h.st.relabel (F := F) (B := FR A n) 8 (fun b hb => ⟨.inr (.inr hb), h.low b hb⟩) (fun b hb => ⟨.inl hb, fun c => h.dis b c hb⟩)
  obtain ⟨m2, f⟩ := m1.big3 h.rs h.cap h.nil lab
  have xs : x ≠ s := fun e => by
    have := (h.st.ff.far x (.inr (.inl rfl))).1
    rw [e, h.st.st.lab] at this
    omega
  exact ⟨⟨{ pl1.re W.heap.size 97 with A1 := A, n1 := n, c1 := c }, m2, ⟨e1.a, e1.h, e1.pq⟩⟩, f, Blk.kept h.box (only_setCell W s 10 (.slice A n c)) xs, m2.kb.rs⟩
theorem Dr.next {V V2 : World} {y : Bg.R} {A : Option Addr} {n c : Nat} (m : StM w0 V s P k live F pl) (K : Kept Old (V.alloc (.cells #[.int .i64 y.1, .int .i64 y.2] 111)) V2) (R : Bg.Rs V2 A n (k.big.drop 1)) (hc : n ≤ c) (hA : A = none → c = 0) (new : ∀ ad, A = some ad → (V.alloc (.cells #[.int .i64 y.1, .int .i64 y.2] 111)).heap.size ≤ ad.block) :
    Dr w0 ((V2.setCell ⟨V.heap.size, 0, none⟩ (.int .i64 (Bg.headL k.big).1)).setCell ⟨V.heap.size, 1, none⟩ (.int .i64 (Bg.headL k.big).2)) s P k live F (pl.re V.heap.size 98) V.heap.size A n c ∧ Kept Old V ((V2.setCell ⟨V.heap.size, 0, none⟩ (.int .i64 (Bg.headL k.big).1)).setCell ⟨V.heap.size, 1, none⟩ (.int .i64 (Bg.headL k.big).2)) := by
  have KV : Kept Old V V2 := (Kept.refl Old V).alloc _ |>.trans K
  have ks : Kept (Only V.heap.size) V2 ((V2.setCell ⟨V.heap.size, 0, none⟩ (.int .i64 (Bg.headL k.big).1)).setCell ⟨V.heap.size, 1, none⟩ (.int .i64 (Bg.headL k.big).2)) := (only_setCell V2 _ 0 _).trans (only_setCell _ _ 1 _)
  have sz : (V.alloc (.cells #[.int .i64 y.1, .int .i64 y.2] 111)).heap.size = V.heap.size + 1 := by simp
  have K3 := KV.join ks (fun i hi e => by have e : i = V.heap.size := e; omega)
  have far : ∀ ad, A = some ad → ad.block ≠ V.heap.size := fun ad e => by have := new ad e; omega
  refine ⟨Dr.make m K3 (Nat.le_refl _) (Bg.Bx.put2 ((Bg.Bx.new V y).old K) _ _) (big_fr R ks (fun b _ ⟨_, ad, e, z⟩ d => far ad e (z.trans d))) hc hA (fun ad e => by have := new ad e; omega) (fun b ⟨_, ad, e, z⟩ => z ▸ far ad e), K3⟩
theorem Dr.first {V : World} {A : Option Addr} {n c : Nat} (m : StM w0 W s P k live F pl) (K : Kept Old W V) (R : Bg.Rs V A n (k.big.drop 1)) (hc : n ≤ c) (hA : A = none → c = 0) (new : ∀ ad, A = some ad → W.heap.size ≤ ad.block) :
    Dr w0 (V.alloc (.cells #[.int .i64 (Bg.headL k.big).1, .int .i64 (Bg.headL k.big).2] 111)) s P k live F (pl.re W.heap.size 98) V.heap.size A n c ∧ Kept Old W (V.alloc (.cells #[.int .i64 (Bg.headL k.big).1, .int .i64 (Bg.headL k.big).2] 111)) := by
  have k1 : Kept Old V (V.alloc (.cells #[.int .i64 (Bg.headL k.big).1, .int .i64 (Bg.headL k.big).2] 111)) := (Kept.refl Old V).alloc _
  exact ⟨Dr.make m (K.trans k1) K.size (Bg.Bx.new V _) (R.old k1) hc hA new (fun b hb e => by have := big_lt R hb; omega), K.trans k1⟩
theorem next_off (l : List Int) : Lq.nextB false l = false := by cases l <;> rfl
def lenAt (w : World) (s i : Nat) : Nat := match w.cell? ⟨s, i, none⟩ with | some (.slice _ n _) => n | _ => 0
theorem StM.len12 (m : StM w0 W s P k live F pl) : lenAt W s 12 = k.back.length := by
  unfold lenAt
  rw [m.c12]
  exact m.kq.rs.len.symm
theorem StM.len10 (m : StM w0 W s P k live F pl) : lenAt W s 10 = k.big.length := by
  unfold lenAt
  rw [show W.cell? ⟨s, 10, none⟩ = some (.slice pl.A1 pl.n1 pl.c1) from m.c 10]
  exact m.kb.rs.len.symm
end drain
end Go.Proofs.YtjfkmgicbakmgaaGreat.Sto
