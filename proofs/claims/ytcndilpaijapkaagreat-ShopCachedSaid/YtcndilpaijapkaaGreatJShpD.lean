/-
  Joined texts of ShpD; own work.
-/
import Derived.Test.YtcndilpaijapkaaGreatRows
import Derived.WalkKit
import Derived.ProofKit
import Derived.OpenShut
import Derived.Outline
import Derived.Deep.Light
import Derived.Deep.QuietTactic
import Derived.BigQuiet
import Derived.IntWalk
import Derived.StillTailTactics
import Derived.RegionTactic
import Derived.Deep.RegionLaw
import Derived.Deep.RegionHeld3
import Derived.Test.YtcndilpaijapkaaGreatJDeed
import Derived.Test.YtcndilpaijapkaaGreatJShpA
import Derived.Test.YtcndilpaijapkaaGreatJShpB
import Derived.Test.YtcndilpaijapkaaGreatJShpC
/- A store whose queue and whose large ones are drained: blocks that were the caller's become the store's; one round of each loop of GC. Own work; no program is walked here. -/
namespace Go.Proofs.YtcndilpaijapkaaGreat.Shp
open Sto
open Go.ChangeShapes Go.WideShapes Go.ChangeAt Go.RowKit
set_option maxRecDepth 100000
section drain
variable {w0 W : World} {s P : Nat} {k : K} {ca : Ca} {live : List Lm.S} {F G : Nat → Prop} {pl : Pl} {O : Int → Int → Prop}
/-- Blocks of the caller's are handed over, and bear label j. -/
theorem StM.relabel {B : Nat → Prop} (j : Nat) (m : StM w0 W s P k ca live G pl) (hB : ∀ b, B b → G b ∧ w0.heap.size ≤ b) (hF : ∀ b, F b → G b ∧ ¬ B b) :
    ∃ pl', StM w0 W s P k ca live F pl' ∧ Same pl pl' ∧ (∀ b, B b → pl'.lab b = j) := by
  classical
  let pl' : Pl := { pl with lab := fun b => if B b then j else pl.lab b }
  have keep : ∀ b i, pl.lab b = i → i ≠ 98 → pl'.lab b = i := fun b i h n => by
    show (if B b then j else pl.lab b) = i
    rw [if_neg fun c => n (by rw [← h]; exact (m.ff.far b (hB b c).1).1)]
    exact h
  refine ⟨pl', ⟨⟨m.st.box, keep _ _ m.st.lab (by omega)⟩, ⟨m.hp.hp.more (Kept.refl _ _) (fun b hb => .inl ⟨hb.1, ?_⟩)⟩, ⟨m.ar.ar, m.ar.len, keep _ _ m.ar.la (by omega), keep _ _ m.ar.lg (by omega)⟩, fun c hc => ⟨(m.pt c hc).pt, keep _ _ (m.pt c hc).lp (by omega), fun b h => keep _ _ ((m.pt c hc).lo b h) (by omega)⟩, m.ch, ⟨m.kb.rs, m.kb.cap, m.kb.nil, fun b h => keep _ _ (m.kb.lab b h) (by omega)⟩, ⟨m.kq.rs, m.kq.cap, m.kq.nil, fun b h => keep _ _ (m.kq.lab b h) (by omega)⟩, ⟨m.lv.ow, fun b h => keep _ _ (m.lv.lab b h) (by omega)⟩, ⟨m.cs.box, keep _ _ m.cs.lab (by omega), m.cs.ch, m.cs.few⟩, ⟨m.ff.kept, fun b hb => ?_, fun b hb => ?_⟩⟩, ⟨rfl, rfl, rfl, rfl, rfl⟩, fun b hb => if_pos hb⟩
  · intro e
    have h2 := hb.2
    exact h2 (keep b 1 e (by omega))
  · have : pl'.lab b = pl.lab b := if_neg fun c => by have := (hB b c).2; omega
    rw [this]
    exact m.ff.low b hb
  · have : pl'.lab b = pl.lab b := if_neg (hF b hb).2
    rw [this]
    exact m.ff.far b (hF b hb).1
theorem StM.less (m : StM w0 W s P k ca live G pl) (hF : ∀ b, F b → G b) : StM w0 W s P k ca live F pl :=
  ⟨m.st, m.hp, m.ar, m.pt, m.ch, m.kb, m.kq, m.lv, m.cs, ⟨m.ff.kept, m.ff.low, fun b hb => m.ff.far b (hF b hb)⟩⟩
theorem StM.phase {c : Bool} (m : StM w0 W s P k ca live F pl) (h : k.on = c) (b : Bool) (e : b = c) : StM w0 W s P { k with on := b } ca live F pl :=
  ⟨⟨by rw [show ({ k with on := b } : K).on = k.on from e.trans h.symm]; exact m.st.box, m.st.lab⟩, ⟨m.hp.hp⟩, m.ar, fun c hc => ⟨(m.pt c hc).pt, (m.pt c hc).lp, (m.pt c hc).lo⟩, m.ch, ⟨m.kb.rs, m.kb.cap, m.kb.nil, m.kb.lab⟩, ⟨m.kq.rs, m.kq.cap, m.kq.nil, m.kq.lab⟩, m.lv, m.cs, m.ff⟩
/-- The queue's own blocks are laid in the struct. -/
theorem StM.late3 {L : List Int} {A : Option Addr} {n c : Nat} {on : Bool} (m : StM w0 W s P k ca live F pl) (R' : RsI W A n L) (hc : n ≤ c) (hA : A = none → c = 0) (lab : ∀ b, FR A n b → pl.lab b = 9) :
    StM w0 ((W.setCell ⟨s, 12, none⟩ (.bool on)).setCell ⟨s, 13, none⟩ (.slice A n c)) s P { k with on := on, back := L } ca live F { pl.re W.heap.size 97 with A2 := A, n2 := n, c2 := c } ∧ Kept (Fr F) W ((W.setCell ⟨s, 12, none⟩ (.bool on)).setCell ⟨s, 13, none⟩ (.slice A n c)) := by
  have ks : Kept (Only s) W ((W.setCell ⟨s, 12, none⟩ (.bool on)).setCell ⟨s, 13, none⟩ (.slice A n c)) := (only_setCell W s 12 (.bool on)).trans (only_setCell _ s 13 _)
  have K1 : Kept (Tn (fun i => i = 0) pl.lab) W ((W.setCell ⟨s, 12, none⟩ (.bool on)).setCell ⟨s, 13, none⟩ (.slice A n c)) := kept_lt ks fun i _ e => by have e : i = s := e; rw [e]; exact m.st.lab
  have ne : ∀ b, FR A n b → ¬ (Only s) b := fun b hb e => by
    have e : b = s := e
    have := lab b hb
    rw [e, m.st.lab] at this
    omega
  refine ⟨⟨⟨(m.st.box.put 12 (.bool on)).put 13 (.slice A n c), (rel_lt m.st.box.lt).trans m.st.lab⟩, ⟨(m.hp.go (j := 97) m.ff K1 (by omega) (by omega) (by omega)).hp⟩, ?_, fun d hd => ?_, m.ch, ?_, ⟨int_fr R' ks (fun b _ hb => ne b hb), hc, hA, fun b hb => (rel_lt (int_lt R' hb)).trans (lab b hb)⟩, ?_, ?_, ?_⟩, m.ff.frame K1 (by omega)⟩
  · have q := m.ar.go (j := 97) K1 (by omega)
    exact ⟨q.ar, q.len, q.la, q.lg⟩
  · have q := (m.pt d hd).go (j := 97) K1 (by omega)
    exact ⟨q.pt, q.lp, q.lo⟩
  · have q := m.kb.go (j := 97) K1 (by omega)
    exact ⟨q.rs, q.cap, q.nil, q.lab⟩
  · have q := m.lv.go (j := 97) K1 (by omega)
    exact ⟨q.ow, q.lab⟩
  · have q := m.cs.go (j := 97) K1 (by omega)
    exact ⟨q.box, q.lab, q.ch, q.few⟩
  · have q := m.ff.go (j := 97) K1 (by omega) (by omega)
    exact ⟨q.kept, q.low, q.far⟩
theorem StM.big3 {L : List Bg.R} {A : Option Addr} {n c : Nat} (m : StM w0 W s P k ca live F pl) (R' : Bg.Rs W A n L) (hc : n ≤ c) (hA : A = none → c = 0) (lab : ∀ b, FR A n b → pl.lab b = 8) :
    StM w0 (W.setCell ⟨s, 11, none⟩ (.slice A n c)) s P { k with big := L } ca live F { pl.re W.heap.size 97 with A1 := A, n1 := n, c1 := c } ∧ Kept (Fr F) W (W.setCell ⟨s, 11, none⟩ (.slice A n c)) := by
  have ks := only_setCell W s 11 (.slice A n c)
  have K1 : Kept (Tn (fun i => i = 0) pl.lab) W (W.setCell ⟨s, 11, none⟩ (.slice A n c)) := kept_lt ks fun i _ e => by have e : i = s := e; rw [e]; exact m.st.lab
  have ne : ∀ b, FR A n b → ¬ (Only s) b := fun b hb e => by
    have e : b = s := e
    have := lab b hb
    rw [e, m.st.lab] at this
    omega
  refine ⟨⟨⟨m.st.box.put 11 (.slice A n c), (rel_lt m.st.box.lt).trans m.st.lab⟩, ⟨(m.hp.go (j := 97) m.ff K1 (by omega) (by omega) (by omega)).hp⟩, ?_, fun d hd => ?_, m.ch, ⟨big_fr R' ks (fun b _ hb => ne b hb), hc, hA, fun b hb => (rel_lt (big_lt R' hb)).trans (lab b hb)⟩, ?_, ?_, ?_, ?_⟩, m.ff.frame K1 (by omega)⟩
  · have q := m.ar.go (j := 97) K1 (by omega)
    exact ⟨q.ar, q.len, q.la, q.lg⟩
  · have q := (m.pt d hd).go (j := 97) K1 (by omega)
    exact ⟨q.pt, q.lp, q.lo⟩
  · have q := m.kq.go (j := 97) K1 (by omega)
    exact ⟨q.rs, q.cap, q.nil, q.lab⟩
  · have q := m.lv.go (j := 97) K1 (by omega)
    exact ⟨q.ow, q.lab⟩
  · have q := m.cs.go (j := 97) K1 (by omega)
    exact ⟨q.box, q.lab, q.ch, q.few⟩
  · have q := m.ff.go (j := 97) K1 (by omega) (by omega)
    exact ⟨q.kept, q.low, q.far⟩
/-! ### A round of the queue's loop -/
abbrev Gx (F : Nat → Prop) (x : Nat) (A : Option Addr) (n : Nat) (b : Nat) : Prop := F b ∨ b = x ∨ FR A n b
/-- What is asked next: the rest in block x, new memory, beside a store whose queue is l. -/
structure Lr (w0 W : World) (s P : Nat) (k : K) (ca : Ca) (live : List Lm.S) (F : Nat → Prop) (pl : Pl) (x : Nat) (A : Option Addr) (n c : Nat) : Prop where
  st : StM w0 W s P k ca live (Gx F x A n) pl
  box : Lq.Bq W x false (.slice A n c)
  rs : RsI W A n (k.back.drop 1)
  cap : n ≤ c
  nil : A = none → c = 0
  xlow : w0.heap.size ≤ x
  xfar : ¬ FR A n x
  xnew : ¬ F x
  low : ∀ b, FR A n b → w0.heap.size ≤ b
  dis : ∀ b, FR A n b → ¬ F b
/-- The loop's variable is laid anew, with what Next told. -/
theorem Lr.make {V : World} {x : Nat} {A : Option Addr} {n c : Nat} (m : StM w0 W s P k ca live F pl) (K : Kept Old W V) (hx : W.heap.size ≤ x) (B : Lq.Bq V x false (.slice A n c)) (R : RsI V A n (k.back.drop 1)) (hc : n ≤ c) (hA : A = none → c = 0) (new : ∀ ad, A = some ad → W.heap.size ≤ ad.block) (hd : ∀ b, FR A n b → b ≠ x) :
    Lr w0 V s P k ca live F (pl.re W.heap.size 98) x A n c := by
  have s0 := m.ff.kept.size
  have nw : ∀ b, FR A n b → W.heap.size ≤ b := fun b ⟨_, ad, e, z⟩ => z ▸ new ad e
  exact ⟨m.more K (fun b hb => by
      rcases hb with e | rfl | e
      · exact .inl e
      · exact .inr ⟨hx, Blk.lt B⟩
      · exact .inr ⟨nw b e, int_lt R e⟩), B, R, hc, hA, by omega, fun z => hd x z rfl, fun e => by have := (m.ff.far x e).2; omega, fun b e => by have := nw b e; omega, fun b e f => by have := nw b e; have := (m.ff.far b f).2; omega⟩
/-- The heap has turned between. -/
theorem Lr.turn {W1 : World} {k1 : K} {pl1 : Pl} {x : Nat} {A : Option Addr} {n c : Nat} (h : Lr w0 W s P k ca live F pl x A n c) (m : StM w0 W1 s P k1 ca live (Gx F x A n) pl1) (K : Kept (Fr (Gx F x A n)) W W1) (e : k1.back = k.back) : Lr w0 W1 s P k1 ca live F pl1 x A n c :=
  ⟨m, Blk.kept h.box K (fun z => z (.inr (.inl rfl))), e ▸ int_fr h.rs K (fun _ _ hb z => z (.inr (.inr hb))), h.cap, h.nil, h.xlow, h.xfar, h.xnew, h.low, h.dis⟩
/-- The rest becomes the store's queue. -/
theorem Lr.step {x : Nat} {A : Option Addr} {n c : Nat} (h : Lr w0 W s P k ca live F pl x A n c) (on : k.on = false) :
    (∃ pl', StM w0 ((W.setCell ⟨s, 12, none⟩ (.bool false)).setCell ⟨s, 13, none⟩ (.slice A n c)) s P { k with back := k.back.drop 1 } ca live F pl' ∧ Same pl pl') ∧ Kept (Fr F) W ((W.setCell ⟨s, 12, none⟩ (.bool false)).setCell ⟨s, 13, none⟩ (.slice A n c)) ∧ Lq.Bq ((W.setCell ⟨s, 12, none⟩ (.bool false)).setCell ⟨s, 13, none⟩ (.slice A n c)) x false (.slice A n c) ∧ RsI ((W.setCell ⟨s, 12, none⟩ (.bool false)).setCell ⟨s, 13, none⟩ (.slice A n c)) A n (k.back.drop 1) := by
  obtain ⟨pl1, m1, e1, lab⟩ := h.st.relabel (F := F) (B := FR A n) 9 (fun b hb => ⟨.inr (.inr hb), h.low b hb⟩) (fun b hb => ⟨.inl hb, fun c => h.dis b c hb⟩)
  obtain ⟨m2, f⟩ := m1.late3 (on := false) h.rs h.cap h.nil lab
  have xs : x ≠ s := fun e => by
    have := (h.st.ff.far x (.inr (.inl rfl))).1
    rw [e, h.st.st.lab] at this
    omega
  refine ⟨⟨{ pl1.re W.heap.size 97 with A2 := A, n2 := n, c2 := c }, ?_, ⟨e1.a, e1.h, e1.pq, e1.cb, e1.nw⟩⟩, f, ?_, m2.kq.rs⟩
  · obtain ⟨rl, sl, p, big, on', back⟩ := k
    obtain rfl : on' = false := on
    exact m2
  · exact Blk.kept h.box ((only_setCell W s 12 (.bool false)).trans (only_setCell _ s 13 _)) xs
/-- The next variable and what Next told of the rest. -/
theorem Lr.next {V V2 : World} {v0 : Value} {A : Option Addr} {n c : Nat} (m : StM w0 V s P k ca live F pl) (K : Kept Old (V.alloc (.cells #[.bool false, v0] 86)) V2) (R : RsI V2 A n (k.back.drop 1)) (hc : n ≤ c) (hA : A = none → c = 0) (new : ∀ ad, A = some ad → (V.alloc (.cells #[.bool false, v0] 86)).heap.size ≤ ad.block) :
    Lr w0 ((V2.setCell ⟨V.heap.size, 0, none⟩ (.bool false)).setCell ⟨V.heap.size, 1, none⟩ (.slice A n c)) s P k ca live F (pl.re V.heap.size 98) V.heap.size A n c ∧ Kept Old V ((V2.setCell ⟨V.heap.size, 0, none⟩ (.bool false)).setCell ⟨V.heap.size, 1, none⟩ (.slice A n c)) := by
  have KV : Kept Old V V2 := (Kept.refl Old V).alloc _ |>.trans K
  have ks : Kept (Only V.heap.size) V2 ((V2.setCell ⟨V.heap.size, 0, none⟩ (.bool false)).setCell ⟨V.heap.size, 1, none⟩ (.slice A n c)) := (only_setCell V2 _ 0 _).trans (only_setCell _ _ 1 _)
  have sz : (V.alloc (.cells #[.bool false, v0] 86)).heap.size = V.heap.size + 1 := by simp
  have K3 : Kept Old V ((V2.setCell ⟨V.heap.size, 0, none⟩ (.bool false)).setCell ⟨V.heap.size, 1, none⟩ (.slice A n c)) := KV.join ks (fun i hi e => by have e : i = V.heap.size := e; omega)
  have far : ∀ ad, A = some ad → ad.block ≠ V.heap.size := fun ad e => by have := new ad e; omega
  refine ⟨Lr.make m K3 (Nat.le_refl _) (Lq.Bq.put2 ((Lq.Bq.new V false v0).old K) _ _) (R.kept ks (fun ad e d => far ad e d)) hc hA (fun ad e => by have := new ad e; omega) (fun b ⟨_, ad, e, z⟩ => z ▸ far ad e), K3⟩
/-- The first one. -/
theorem Lr.first {V : World} {A : Option Addr} {n c : Nat} (m : StM w0 W s P k ca live F pl) (K : Kept Old W V) (R : RsI V A n (k.back.drop 1)) (hc : n ≤ c) (hA : A = none → c = 0) (new : ∀ ad, A = some ad → W.heap.size ≤ ad.block) :
    Lr w0 (V.alloc (.cells #[.bool false, .slice A n c] 86)) s P k ca live F (pl.re W.heap.size 98) V.heap.size A n c ∧ Kept Old W (V.alloc (.cells #[.bool false, .slice A n c] 86)) := by
  have k1 : Kept Old V (V.alloc (.cells #[.bool false, .slice A n c] 86)) := (Kept.refl Old V).alloc _
  refine ⟨Lr.make m (K.trans k1) K.size (Lq.Bq.new V false _) (R.old k1) hc hA new (fun b hb e => by have := int_lt R hb; omega), K.trans k1⟩
/-! ### A round of the large ones' loop -/
structure Dr (w0 W : World) (s P : Nat) (k : K) (ca : Ca) (live : List Lm.S) (F : Nat → Prop) (pl : Pl) (x : Nat) (A : Option Addr) (n c : Nat) : Prop where
  st : StM w0 W s P k ca live (Gx F x A n) pl
  box : Bg.Bx W x (Bg.headL k.big)
  rs : Bg.Rs W A n (k.big.drop 1)
  cap : n ≤ c
  nil : A = none → c = 0
  xlow : w0.heap.size ≤ x
  xfar : ¬ FR A n x
  xnew : ¬ F x
  low : ∀ b, FR A n b → w0.heap.size ≤ b
  dis : ∀ b, FR A n b → ¬ F b
theorem Dr.make {V : World} {x : Nat} {A : Option Addr} {n c : Nat} (m : StM w0 W s P k ca live F pl) (K : Kept Old W V) (hx : W.heap.size ≤ x) (B : Bg.Bx V x (Bg.headL k.big)) (R : Bg.Rs V A n (k.big.drop 1)) (hc : n ≤ c) (hA : A = none → c = 0) (new : ∀ ad, A = some ad → W.heap.size ≤ ad.block) (hd : ∀ b, FR A n b → b ≠ x) :
    Dr w0 V s P k ca live F (pl.re W.heap.size 98) x A n c := by
  have s0 := m.ff.kept.size
  have nw : ∀ b, FR A n b → W.heap.size ≤ b := fun b ⟨_, ad, e, z⟩ => z ▸ new ad e
  exact ⟨m.more K (fun b hb => by
      rcases hb with e | rfl | e
      · exact .inl e
      · exact .inr ⟨hx, Blk.lt B⟩
      · exact .inr ⟨nw b e, big_lt R e⟩), B, R, hc, hA, by omega, fun z => hd x z rfl, fun e => by have := (m.ff.far x e).2; omega, fun b e => by have := nw b e; omega, fun b e f => by have := nw b e; have := (m.ff.far b f).2; omega⟩
theorem Dr.turn {W1 : World} {k1 : K} {pl1 : Pl} {x : Nat} {A : Option Addr} {n c : Nat} (h : Dr w0 W s P k ca live F pl x A n c) (m : StM w0 W1 s P k1 ca live (Gx F x A n) pl1) (K : Kept (Fr (Gx F x A n)) W W1) (e : k1.big = k.big) : Dr w0 W1 s P k1 ca live F pl1 x A n c :=
  ⟨m, e ▸ Blk.kept h.box K (fun z => z (.inr (.inl rfl))), e ▸ big_fr h.rs K (fun _ _ hb z => z (.inr (.inr hb))), h.cap, h.nil, h.xlow, h.xfar, h.xnew, h.low, h.dis⟩
theorem Dr.step {x : Nat} {A : Option Addr} {n c : Nat} (h : Dr w0 W s P k ca live F pl x A n c) :
    (∃ pl', StM w0 (W.setCell ⟨s, 11, none⟩ (.slice A n c)) s P { k with big := k.big.drop 1 } ca live F pl' ∧ Same pl pl') ∧ Kept (Fr F) W (W.setCell ⟨s, 11, none⟩ (.slice A n c)) ∧ Bg.Bx (W.setCell ⟨s, 11, none⟩ (.slice A n c)) x (Bg.headL k.big) ∧ Bg.Rs (W.setCell ⟨s, 11, none⟩ (.slice A n c)) A n (k.big.drop 1) := by
  obtain ⟨pl1, m1, e1, lab⟩ := h.st.relabel (F := F) (B := FR A n) 8 (fun b hb => ⟨.inr (.inr hb), h.low b hb⟩) (fun b hb => ⟨.inl hb, fun c => h.dis b c hb⟩)
  obtain ⟨m2, f⟩ := m1.big3 h.rs h.cap h.nil lab
  have xs : x ≠ s := fun e => by
    have := (h.st.ff.far x (.inr (.inl rfl))).1
    rw [e, h.st.st.lab] at this
    omega
  exact ⟨⟨{ pl1.re W.heap.size 97 with A1 := A, n1 := n, c1 := c }, m2, ⟨e1.a, e1.h, e1.pq, e1.cb, e1.nw⟩⟩, f, Blk.kept h.box (only_setCell W s 11 (.slice A n c)) xs, m2.kb.rs⟩
theorem Dr.next {V V2 : World} {y : Bg.R} {A : Option Addr} {n c : Nat} (m : StM w0 V s P k ca live F pl) (K : Kept Old (V.alloc (.cells #[.int .i64 y.1, .int .i64 y.2] 113)) V2) (R : Bg.Rs V2 A n (k.big.drop 1)) (hc : n ≤ c) (hA : A = none → c = 0) (new : ∀ ad, A = some ad → (V.alloc (.cells #[.int .i64 y.1, .int .i64 y.2] 113)).heap.size ≤ ad.block) :
    Dr w0 ((V2.setCell ⟨V.heap.size, 0, none⟩ (.int .i64 (Bg.headL k.big).1)).setCell ⟨V.heap.size, 1, none⟩ (.int .i64 (Bg.headL k.big).2)) s P k ca live F (pl.re V.heap.size 98) V.heap.size A n c ∧ Kept Old V ((V2.setCell ⟨V.heap.size, 0, none⟩ (.int .i64 (Bg.headL k.big).1)).setCell ⟨V.heap.size, 1, none⟩ (.int .i64 (Bg.headL k.big).2)) := by
  have KV : Kept Old V V2 := (Kept.refl Old V).alloc _ |>.trans K
  have ks : Kept (Only V.heap.size) V2 ((V2.setCell ⟨V.heap.size, 0, none⟩ (.int .i64 (Bg.headL k.big).1)).setCell ⟨V.heap.size, 1, none⟩ (.int .i64 (Bg.headL k.big).2)) := (only_setCell V2 _ 0 _).trans (only_setCell _ _ 1 _)
  have sz : (V.alloc (.cells #[.int .i64 y.1, .int .i64 y.2] 113)).heap.size = V.heap.size + 1 := by simp
  have K3 := KV.join ks (fun i hi e => by have e : i = V.heap.size := e; omega)
  have far : ∀ ad, A = some ad → ad.block ≠ V.heap.size := fun ad e => by have := new ad e; omega
  refine ⟨Dr.make m K3 (Nat.le_refl _) (Bg.Bx.put2 ((Bg.Bx.new V y).old K) _ _) (big_fr R ks (fun b _ ⟨_, ad, e, z⟩ d => far ad e (z.trans d))) hc hA (fun ad e => by have := new ad e; omega) (fun b ⟨_, ad, e, z⟩ => z ▸ far ad e), K3⟩
theorem Dr.first {V : World} {A : Option Addr} {n c : Nat} (m : StM w0 W s P k ca live F pl) (K : Kept Old W V) (R : Bg.Rs V A n (k.big.drop 1)) (hc : n ≤ c) (hA : A = none → c = 0) (new : ∀ ad, A = some ad → W.heap.size ≤ ad.block) :
    Dr w0 (V.alloc (.cells #[.int .i64 (Bg.headL k.big).1, .int .i64 (Bg.headL k.big).2] 113)) s P k ca live F (pl.re W.heap.size 98) V.heap.size A n c ∧ Kept Old W (V.alloc (.cells #[.int .i64 (Bg.headL k.big).1, .int .i64 (Bg.headL k.big).2] 113)) := by
  have k1 : Kept Old V (V.alloc (.cells #[.int .i64 (Bg.headL k.big).1, .int .i64 (Bg.headL k.big).2] 113)) := (Kept.refl Old V).alloc _
  exact ⟨Dr.make m (K.trans k1) K.size (Bg.Bx.new V _) (R.old k1) hc hA new (fun b hb e => by have := big_lt R hb; omega), K.trans k1⟩
theorem next_off (l : List Int) : Lq.nextB false l = false := by cases l <;> rfl
def lenAt (w : World) (s i : Nat) : Nat := match w.cell? ⟨s, i, none⟩ with | some (.slice _ n _) => n | _ => 0
theorem StM.len12 (m : StM w0 W s P k ca live F pl) : lenAt W s 13 = k.back.length := by
  unfold lenAt
  rw [m.c13]
  exact m.kq.rs.len.symm
theorem StM.len10 (m : StM w0 W s P k ca live F pl) : lenAt W s 11 = k.big.length := by
  unfold lenAt
  rw [show W.cell? ⟨s, 11, none⟩ = some (.slice pl.A1 pl.n1 pl.c1) from m.c 11]
  exact m.kb.rs.len.symm
end drain
end Go.Proofs.YtcndilpaijapkaaGreat.Shp
/- GC of a store: the phase is set; where it is off, the queue and the large ones go back to the heap. Own work; it is proved by a walk through the landed text. -/
namespace Go.Proofs.YtcndilpaijapkaaGreat.Shp
open Sto
open Go.ChangeShapes Go.WideShapes Go.ChangeAt Go.RowKit
set_option maxRecDepth 100000
section gc
variable {w0 W : World} {s P : Nat} {k : K} {ca : Ca} {live : List Lm.S} {F : Nat → Prop} {pl : Pl} {O : Int → Int → Prop}
def QRel (w0 W : World) (s P : Nat) (k0 : K) (ca : Ca) (live : List Lm.S) (F : Nat → Prop) (pl0 : Pl) (O : Int → Int → Prop) (s4 s5 s6 : Value) (wr : World) : Prop :=
  ∃ pl x A n c rl sl l, s4 = ptr x ∧ s5 = .int .i64 (Lq.nextX l) ∧ s6 = .bool (Lq.nextK l) ∧ Hid (Lr w0 wr s P ⟨rl, sl, k0.p, k0.big, false, l⟩ ca live F pl x A n c) ∧ Hid (Same pl0 pl) ∧ Hid (Kept (Fr F) W wr) ∧ Hid (Inv P ⟨rl, sl, k0.p, k0.big, true, l⟩ O) ∧ Hid (freeAll rl sl l = freeAll k0.rl k0.sl k0.back)
def DRel (w0 W : World) (s P : Nat) (k0 : K) (ca : Ca) (live : List Lm.S) (F : Nat → Prop) (pl0 : Pl) (O : Int → Int → Prop) (T : List R × List S) (s7 s8 s9 : Value) (wr : World) : Prop :=
  ∃ pl x A n c rl sl l, s7 = .slice A n c ∧ s8 = ptr x ∧ s9 = .bool (Bg.dropB l) ∧ Hid (Dr w0 wr s P ⟨rl, sl, k0.p, l, false, []⟩ ca live F pl x A n c) ∧ Hid (Same pl0 pl) ∧ Hid (Kept (Fr F) W wr) ∧ Hid (Inv P ⟨rl, sl, k0.p, l, true, []⟩ O) ∧ Hid (freeAll rl sl (bigPages l) = T)
def GcPost (w0 W : World) (s P : Nat) (ca : Ca) (live : List Lm.S) (F : Nat → Prop) (pl : Pl) (k' : K) (e : Ending) (W' : World) : Prop := e = .returned (.tuple #[]) ∧ Left w0 W W' s P k' ca live F pl
set_option maxHeartbeats 2000000 in
theorem sgc_true (m : StM w0 W s P k ca live F pl) (v : Inv P k O) : Calls Tryz.prog 29 #[ptr s, .bool true] W (GcPost w0 W s P ca live F pl (gcK k true)) := by
  have bl := v.back_len
  have hl := m.kq.rs.len
  have c12 := m.c12
  have c13 := m.c13
  have hs := m.st.box.lt
  have LS := Lib.hid (Lq.lset_any k.on pl.A2 pl.n2 pl.c2 k.back true W m.kq.rs (by omega) (slice_nil m.kq.cap m.kq.nil))
  have M := Lib.hid m
  clear m v bl hl
  go_enter Tryz.func29, Tryz.ntmps29
  go_wp2_with fail
  refine LS.out.mono ?_
  rintro e W1 ⟨v1, rfl, A, n, c, rfl, R, hcc, hA, K⟩
  obtain ⟨⟨pl1, m1, x1⟩, f⟩ := M.out.late (on := true) R hcc hA.1 hA.2 K
  have mo := M.out.old K
  have f12 := mo.f 12
  have f13 := mo.f 13
  have g12 := mo.c12
  have g13 := mo.c13
  have L := Lib.hid (show Left w0 W _ s P (gcK k true) ca live F pl from ⟨⟨pl1, m1, x1⟩, f⟩)
  clear m1 x1 f mo R hA K
  go_wp2_with fail
  (try simp only [Exit.inBlock, Exit.then])
  refine bodyPost_ret (results_none rfl _ _ _) rfl ?_
  exact ⟨rfl, L.out⟩
set_option maxHeartbeats 4000000 in
theorem sgc_false (m : StM w0 W s P k ca live F pl) (v : Inv P k O) : Calls Tryz.prog 29 #[ptr s, .bool false] W (GcPost w0 W s P ca live F pl (gcK k false)) := by
  have bl := v.back_len
  have hl := m.kq.rs.len
  have c12 := m.c12
  have c13 := m.c13
  have hs := m.st.box.lt
  have LS := Lib.hid (Lq.lset_any k.on pl.A2 pl.n2 pl.c2 k.back false W m.kq.rs (by omega) (slice_nil m.kq.cap m.kq.nil))
  have BL := Lib.hid bl
  have V0 := Lib.hid (show Inv P ⟨k.rl, k.sl, k.p, k.big, true, k.back⟩ O from v.on_)
  have M := Lib.hid m
  clear m v bl hl
  go_enter Tryz.func29, Tryz.ntmps29
  go_wp2_with fail
  refine LS.out.mono ?_
  rintro e W1 ⟨v1, rfl, A, n, c, rfl, R, hcc, hA, K⟩
  obtain ⟨⟨pl1, m1, x1⟩, f⟩ := M.out.late (on := false) R hcc hA.1 hA.2 K
  have mo := M.out.old K
  have f12 := mo.f 12
  have f13 := mo.f 13
  have g12 := mo.c12
  have g13 := mo.c13
  have R1 : RsI ((W1.setCell ⟨s, 12, none⟩ (.bool false)).setCell ⟨s, 13, none⟩ (.slice A n c)) A n k.back := int_fr R ((only_setCell W1 s 12 _).trans (only_setCell _ s 13 _)) (fun b _ ⟨_, ad, e, z⟩ d => by have := hA.2 ad e; have d : b = s := d; omega)
  have LN := Lib.hid (Lq.lnext_any false A n c k.back _ R1 (by have := R1.len; have := BL.out; omega) hcc)
  have M1 := Lib.hid (show StM w0 _ s P ⟨k.rl, k.sl, k.p, k.big, false, k.back⟩ ca live F pl1 from m1)
  have E1 := Lib.hid (show Same pl pl1 from x1)
  have F1 := Lib.hid f
  clear m1 x1 f mo R hA K R1 LS
  go_wp2_with fail
  refine LN.out.mono ?_
  rintro e W2 ⟨v2, rfl, A2, n2, c2, rfl, R2, hc2, hA2, K2⟩
  rw [next_off]
  obtain ⟨l2, k2⟩ := Lr.first M1.out K2 R2 hc2 hA2.1 hA2.2
  have Q0 := Lib.hid (show QRel w0 W s P k ca live F pl O (ptr W2.heap.size) (.int .i64 (Lq.nextX k.back)) (.bool (Lq.nextK k.back)) _ from ⟨_, _, _, _, _, _, _, _, rfl, rfl, rfl, l2, ⟨E1.out.a, E1.out.h, E1.out.pq, E1.out.cb, E1.out.nw⟩, F1.out.trans k2.any, V0.out, rfl⟩)
  clear l2 k2 R2 hA2 K2 LN f12 f13 g12 g13 c12 c13
  go_wp2_with fail
  generalize W2.heap.size = x0 at *
  generalize W2.alloc (.cells #[.bool false, .slice A2 n2 c2] 86) = V0' at *
  clear M1 E1 F1
  go_loopw [4, 5, 6] (fun s4 s5 s6 wr => Hid (QRel w0 W s P k ca live F pl O s4 s5 s6 wr)) (fun _ _ _ wr => lenAt wr s 13)
  case atStart => exact Q0
  case round =>
    clear Q0
    obtain ⟨pl2, x, A3, n3, c3, rl, sl, l, rfl, rfl, rfl, h, e2, f2, iv, fa⟩ := hrel.out
    clear hrel
    rename World => V
    cases l with
    | nil =>
      have hk : Lq.nextK ([] : List Int) = false := rfl
      have M2 := Lib.hid (h.out.st.less (F := F) (fun _ z => .inl z))
      have S2 := Lib.hid (show (rl, sl) = freeAll k.rl k.sl k.back from fa.out)
      have c11 : V.cell? ⟨s, 11, none⟩ = some (.slice pl2.A1 pl2.n1 pl2.c1) := h.out.st.c 11
      have hs := h.out.st.st.box.lt
      have LB := Lib.hid (big_len iv.out.right)
      have R2 := Lib.hid (show Bg.Rs V pl2.A1 pl2.n1 k.big from M2.out.kb.rs)
      have DN := Lib.hid (Bg.drop_any pl2.A1 pl2.n1 pl2.c1 k.big V R2.out (by have := R2.out.len; have := LB.out; simp only at this; omega) M2.out.kb.cap)
      clear h fa
      go_wp2_with fail
      refine DN.out.mono ?_
      rintro e W3 ⟨v3, rfl, A3, n3, c3, rfl, R3, hc3, hA3, K3⟩
      obtain ⟨d3, k3⟩ := Dr.first M2.out K3 R3 hc3 hA3.1 hA3.2
      have Q0 := Lib.hid (show DRel w0 W s P k ca live F pl O (freeAll rl sl (bigPages k.big)) (.slice A3 n3 c3) (ptr W3.heap.size) (.bool (Bg.dropB k.big)) _ from ⟨_, _, _, _, _, _, _, _, rfl, rfl, rfl, d3, ⟨e2.out.a, e2.out.h, e2.out.pq, e2.out.cb, e2.out.nw⟩, f2.out.trans k3.any, iv.out, rfl⟩)
      clear d3 k3 R3 hA3 K3 DN c11 R2 M2 e2 f2 iv LB
      go_wp2_with fail
      generalize W3.heap.size = x3 at *
      generalize W3.alloc (.cells #[.int .i64 (Bg.headL k.big).1, .int .i64 (Bg.headL k.big).2] 113) = V3' at *
      obtain ⟨T, hT⟩ : ∃ T, freeAll rl sl (bigPages k.big) = T := ⟨_, rfl⟩
      rw [hT] at Q0
      have TT := Lib.hid hT
      clear hT
      go_loopw [7, 8, 9] (fun s7 s8 s9 wr => Hid (DRel w0 W s P k ca live F pl O T s7 s8 s9 wr)) (fun _ _ _ wr => lenAt wr s 11)
      case atStart => exact Q0
      case round =>
        clear Q0
        obtain ⟨pl4, y, A4, n4, c4, rl4, sl4, l4, rfl, rfl, rfl, h, e4, f4, iv, fa⟩ := hrel.out
        clear hrel
        rename World => U
        have hm := Lib.hid h.out.st.len10
        cases l4 with
        | nil =>
          have hd : Bg.dropB ([] : List Bg.R) = false := rfl
          have L := Lib.hid (show Left w0 W U s P (gcK k false) ca live F pl from by
            have e : gcK k false = ⟨rl4, sl4, k.p, [], false, []⟩ := by
              unfold gcK
              rw [if_neg (by simp)]
              simp only
              rw [← S2.out, TT.out, ← fa.out]
              rfl
            rw [e]
            exact ⟨⟨pl4, h.out.st.less (fun _ z => .inl z), e4.out⟩, f4.out⟩)
          clear h e4 f4 iv fa hm
          go_wp2_with fail
          (try simp only [Exit.inBlock, Exit.then])
          refine bodyPost_ret (results_none rfl _ _ _) rfl ?_
          exact ⟨rfl, L.out⟩
        | cons b t =>
          have hd : Bg.dropB (b :: t) = true := rfl
          have c1 : U.cell? ⟨s, 1, none⟩ = some (ptr pl4.h) := h.out.st.c 1
          have hs := h.out.st.st.box.lt
          have b0 : U.cell? ⟨y, 0, none⟩ = some (.int .i64 b.1) := h.out.box.c0
          obtain ⟨nb, hnb, nb1⟩ : ∃ nb : Nat, b.1 = (nb : Int) ∧ nb ≤ 1000000 := by
            have ok := iv.out.ok (iv.out.big b (List.mem_cons_self ..))
            have pp := iv.out.pages
            have := ok.a0
            have := ok.up
            have := ok.n1
            simp only at *
            exact ⟨b.1.toNat, by omega, by omega⟩
          have PG := Lib.hid (show ∀ X, Calls Tryz.prog 80 #[.int .i64 b.1] X fun e w' => e = .returned (.int .i64 (b.1 / 64)) ∧ X = w' from fun X => by rw [hnb]; exact page_at nb nb1 X)
          have HF := Lib.hid (show ∀ X, Kept Old U X → Calls Tryz.prog 78 #[ptr pl4.h, .int .i64 (b.1 / 64)] X fun e W' => e = .returned (.tuple #[spn (freeA rl4 sl4 (b.1 / 64)).x, .int .i64 (freeA rl4 sl4 (b.1 / 64)).e]) ∧ Left w0 U W' s P ⟨(freeA rl4 sl4 (b.1 / 64)).rl, (freeA rl4 sl4 (b.1 / 64)).sl, k.p, b :: t, false, []⟩ ca live (Gx F y A4 n4) pl4 from fun X q => by
            refine (heap_free (b.1 / 64) (h.out.st.old q)).mono ?_
            rintro e W' ⟨rfl, L⟩
            exact ⟨rfl, Left.trans (pl1 := pl4.re U.heap.size 97) ⟨rfl, rfl, rfl, rfl, rfl⟩ q.any L⟩)
          clear hnb
          go_wp2_with fail
          go_region_with (first
            | (go_at_call 80; refine (PG.out _).mono ?_; rintro e X ⟨rfl, rfl⟩)
            | (go_at_call 78; refine (HF.out _ (by first | exact Kept.refl Old U | exact (Kept.refl Old U).drew)).mono ?_; rintro e W5 ⟨rfl, L⟩; have L := Lib.hid L))
          all_goals
            obtain ⟨⟨pl5, m5, e5⟩, f5⟩ := L.out
            have h5 := h.out.turn m5 f5 rfl
            have b0 : W5.cell? ⟨y, 0, none⟩ = some (.int .i64 b.1) := h5.box.c0
            have b1 : W5.cell? ⟨y, 1, none⟩ = some (.int .i64 b.2) := h5.box.c1
            have f11 := m5.f 11
            have g11 : W5.cell? ⟨s, 11, none⟩ = some (.slice pl5.A1 pl5.n1 pl5.c1) := m5.c 11
            have hs5 := m5.st.box.lt
            obtain ⟨⟨pl6, m6, e6⟩, f6, bx6, r6⟩ := h5.step
            have ys : y ≠ s := fun e => by
              have := (h5.st.ff.far y (.inr (.inl rfl))).1
              rw [e, h5.st.st.lab] at this
              omega
            have r7 := r6.old ((Kept.refl Old _).alloc (.cells #[.int .i64 b.1, .int .i64 b.2] 113))
            have DN := Lib.hid (Bg.drop_any A4 n4 c4 t _ r7 (by have := big_len iv.out.right; simp at this; have : t.length = n4 := r7.len; omega) h5.cap)
            have M6 := Lib.hid m6
            have E6 := Lib.hid (e4.out.trans (e5.trans e6))
            have F6 := Lib.hid (f4.out.trans ((f5.mono fun i z q => z (.inl q)).trans f6))
            have IV := Lib.hid iv.out.dropBig.2
            have FA := Lib.hid (show freeAll (freeA rl4 sl4 (b.1 / 64)).rl (freeA rl4 sl4 (b.1 / 64)).sl (bigPages t) = T from fa.out)
            have sv : (W5.setCell ⟨s, 11, none⟩ (.slice A4 n4 c4)).heap.size = W5.heap.size := by simp
            clear h5 m5 e5 f5 h e4 f4 iv fa m6 e6 f6 bx6 r6 r7 HF PG L
            go_wp2_with fail
            refine DN.out.mono ?_
            rintro e W6 ⟨v6, rfl, A6, n6, c6, rfl, R6, hc6, hA6, K6⟩
            have B6 := (Bg.Bx.new _ b).old K6
            obtain ⟨l6, k6⟩ := Dr.next (y := b) M6.out K6 R6 hc6 hA6.1 hA6.2
            rw [sv] at B6 l6 k6
            have a0 := B6.c0
            have a1 := B6.c1
            have a2 := Blk.frozen B6 0
            have a3 := Blk.frozen B6 1
            have Q6 := Lib.hid (show DRel w0 W s P k ca live F pl O T (.slice A6 n6 c6) (ptr W5.heap.size) (.bool (Bg.dropB t)) _ from ⟨_, _, _, _, _, _, _, _, rfl, rfl, rfl, l6, ⟨E6.out.a, E6.out.h, E6.out.pq, E6.out.cb, E6.out.nw⟩, F6.out.trans k6.any, IV.out, FA.out⟩)
            have LT := Lib.hid (show lenAt _ s 11 < lenAt U s 11 from by rw [l6.st.len10, hm.out]; exact Nat.lt_succ_self _)
            clear B6 l6 k6 R6 hA6 K6 DN f11 g11 b0 b1 c1 M6 E6 F6 IV FA
            go_wp2_with fail
            exact ⟨Lib.hid Q6, LT.out⟩
    | cons q t =>
      have hk : Lq.nextK (q :: t) = true := rfl
      have c1 : V.cell? ⟨s, 1, none⟩ = some (ptr pl2.h) := h.out.st.c 1
      have hs := h.out.st.st.box.lt
      have HF := Lib.hid (heap_free (Lq.nextX (q :: t)) h.out.st)
      have hm := Lib.hid h.out.st.len12
      go_wp2_with fail
      refine HF.out.mono ?_
      rintro e W5 ⟨rfl, ⟨pl3, m3, e3⟩, f3⟩
      have h3 := h.out.turn m3 f3 rfl
      have b0 := h3.box.c0
      have b1 := h3.box.c1
      have f12 := m3.f 12
      have f13 := m3.f 13
      have g12 := m3.c12
      have g13 := m3.c13
      have hs5 := m3.st.box.lt
      obtain ⟨⟨pl4, m4, e4⟩, f4, bx4, r4⟩ := h3.step rfl
      have xs : x ≠ s := fun e => by
        have := (h3.st.ff.far x (.inr (.inl rfl))).1
        rw [e, h3.st.st.lab] at this
        omega
      have r5 := r4.old ((Kept.refl Old _).alloc (.cells #[.bool false, .slice A3 n3 c3] 86))
      have LN := Lib.hid (Lq.lnext_any false A3 n3 c3 t _ r5 (by have := r5.len; have := iv.out.back_len; simp at this; have : t.length = n3 := r5.len; omega) h3.cap)
      have M4 := Lib.hid m4
      have E4 := Lib.hid (e2.out.trans (e3.trans e4))
      have F4 := Lib.hid (f2.out.trans ((f3.mono fun i z y => z (.inl y)).trans f4))
      have IV := Lib.hid iv.out.dropBack.2
      have FA := Lib.hid (show freeAll (freeA rl sl q).rl (freeA rl sl q).sl t = _ from fa.out)
      have sv : ((W5.setCell ⟨s, 12, none⟩ (.bool false)).setCell ⟨s, 13, none⟩ (.slice A3 n3 c3)).heap.size = W5.heap.size := by simp
      clear h3 m3 e3 f3 h e2 f2 iv fa m4 e4 f4 bx4 r4 r5 HF
      go_wp2_with fail
      refine LN.out.mono ?_
      rintro e W6 ⟨v6, rfl, A6, n6, c6, rfl, R6, hc6, hA6, K6⟩
      rw [next_off]
      have B6 := (Lq.Bq.new _ false (.slice A3 n3 c3)).old K6
      obtain ⟨l6, k6⟩ := Lr.next M4.out K6 R6 hc6 hA6.1 hA6.2
      rw [sv] at B6 l6 k6
      have a0 := B6.c0
      have a1 := B6.c1
      have a2 := B6.f0
      have a3 := B6.f1
      have Q6 := Lib.hid (show QRel w0 W s P k ca live F pl O (ptr W5.heap.size) (.int .i64 (Lq.nextX t)) (.bool (Lq.nextK t)) _ from ⟨_, _, _, _, _, _, _, _, rfl, rfl, rfl, l6, ⟨E4.out.a, E4.out.h, E4.out.pq, E4.out.cb, E4.out.nw⟩, F4.out.trans k6.any, IV.out, FA.out⟩)
      have LT := Lib.hid (show lenAt _ s 13 < lenAt V s 13 from by rw [l6.st.len12, hm.out]; exact Nat.lt_succ_self _)
      clear B6 l6 k6 R6 hA6 K6 LN f12 f13 g12 g13 b0 b1 c1 M4 E4 F4 IV FA
      go_wp2_with fail
      exact ⟨Lib.hid Q6, LT.out⟩
theorem sgc_any (b : Bool) (m : StM w0 W s P k ca live F pl) (v : Inv P k O) : Calls Tryz.prog 29 #[ptr s, .bool b] W (GcPost w0 W s P ca live F pl (gcK k b)) := by
  cases b
  · exact sgc_false m v
  · exact sgc_true m v
end gc
end Go.Proofs.YtcndilpaijapkaaGreat.Shp
/- The laws' own Size, address and do: calls on a store by numbers, as plain functions. Own work; each is proved by a walk through the landed text. -/
namespace Go.Proofs.YtcndilpaijapkaaGreat.Shp
open Sto
open Go.ChangeShapes Go.WideShapes Go.ChangeAt Go.RowKit
set_option maxRecDepth 100000
section play
variable {w0 W : World} {s P : Nat} {k : K} {ca : Ca} {live : List Lm.S} {F : Nat → Prop} {pl : Pl} {O : Int → Int → Prop}
def sizeB (b : Nat) : Int := if b < 250 then 32 * 2 ^ (b % 8) - (b : Int) / 8 % 3 else if b = 250 then 0 else if b = 251 then -1 else if b = 252 then 4097 else if b = 253 then 1 else if b = 254 then 5000 else 4096
theorem size_bounds (b : Nat) : -1 ≤ sizeB b ∧ sizeB b ≤ 5000 := by
  have : b % 8 = 0 ∨ b % 8 = 1 ∨ b % 8 = 2 ∨ b % 8 = 3 ∨ b % 8 = 4 ∨ b % 8 = 5 ∨ b % 8 = 6 ∨ b % 8 = 7 := by omega
  unfold sizeB
  split
  · rcases this with e | e | e | e | e | e | e | e <;> rw [e] <;> simp only [show (2 : Int) ^ 0 = 1 from rfl, show (2 : Int) ^ 1 = 2 from rfl, show (2 : Int) ^ 2 = 4 from rfl, show (2 : Int) ^ 3 = 8 from rfl, show (2 : Int) ^ 4 = 16 from rfl, show (2 : Int) ^ 5 = 32 from rfl, show (2 : Int) ^ 6 = 64 from rfl, show (2 : Int) ^ 7 = 128 from rfl] <;> omega
  · split
    · omega
    · split
      · omega
      · split
        · omega
        · split
          · omega
          · split <;> omega
theorem size_low (b : Nat) (h : b < 250) (w : World) : Calls Tryz.prog 46 #[.int .u8 (b : Int)] w fun e w' => e = .returned (.int .i64 (sizeB b)) ∧ Kept Old w w' := by
  have E := Lib.hid (show wrap64 (wrap64 (32 * 2 ^ (b % 8)) - (b : Int) / 8 % 3) = sizeB b from by
    have bb := size_bounds b
    have e : sizeB b = 32 * 2 ^ (b % 8) - (b : Int) / 8 % 3 := if_pos h
    rw [e] at bb
    rw [e, IntWalk.wrap64_in (32 * 2 ^ (b % 8)) (by omega), IntWalk.wrap64_in _ (by omega)])
  have h1 : ¬ (250 : Int) ≤ (b : Int) := by omega
  clear h
  go_enter Tryz.func46, Tryz.ntmps46
  go_wp2_with fail
  go_ret
  exact ⟨congrArg (fun z => Ending.returned (.int .i64 z)) E.out, Kept.refl _ _⟩
theorem size_high (b : Nat) (h : ¬ b < 250) (h2 : b ≤ 255) (w : World) : Calls Tryz.prog 46 #[.int .u8 (b : Int)] w fun e w' => e = .returned (.int .i64 (sizeB b)) ∧ Kept Old w w' := by
  have : b = 250 ∨ b = 251 ∨ b = 252 ∨ b = 253 ∨ b = 254 ∨ b = 255 := by omega
  rcases this with rfl | rfl | rfl | rfl | rfl | rfl
  all_goals
    clear h h2
    go_enter Tryz.func46, Tryz.ntmps46
    go_wp2_with fail
    go_ret
    exact ⟨rfl, (Kept.refl Old w).alloc _⟩
theorem size_any (b : Nat) (h : b ≤ 255) (w : World) : Calls Tryz.prog 46 #[.int .u8 (b : Int)] w fun e w' => e = .returned (.int .i64 (sizeB b)) ∧ Kept Old w w' := by
  by_cases c : b < 250
  · exact size_low b c w
  · exact size_high b c h w
def addrB (l : List Lm.S) (a b : Nat) : Int := if 0 < l.length ∧ a % 16 < 14 then (l.getD (b % l.length) ⟨0, 0, 0⟩).a else (b : Int) * 32 - (a : Int) % 2
theorem address_any (A : Option Addr) (n c : Nat) (l : List Lm.S) (a b : Nat) (ha : a ≤ 255) (hb : b ≤ 255) (hn : n ≤ 600) (w : World) (h : Lm.RsS w A n l) :
    Calls Tryz.prog 47 #[.slice A n c, .int .u8 (a : Int), .int .u8 (b : Int)] w fun e w' => e = .returned (.int .i64 (addrB l a b)) ∧ w = w' := by
  have hl := h.len
  by_cases c1 : 0 < n
  · by_cases c2 : a % 16 < 14
    · obtain ⟨q, hq, hqn⟩ : ∃ q : Nat, b % n = q ∧ q < n := ⟨_, rfl, Nat.mod_lt _ c1⟩
      have E := Lib.hid (show addrB l a b = (l.getD q ⟨0, 0, 0⟩).a from by unfold addrB; rw [if_pos ⟨by omega, c2⟩, hl, hq])
      obtain ⟨g, o, rfl, hg, cc⟩ := h.lies c1
      obtain ⟨x, hx⟩ : ∃ x, l[q]? = some x := ⟨_, List.getElem?_eq_getElem (by omega)⟩
      have hx0 := (cc q x hx).1
      have E2 := Lib.hid (show addrB l a b = x.a from by rw [E.out, List.getD_eq_getElem?_getD, hx]; rfl)
      have hq2 : (b : Int) % (n : Int) = (q : Int) := by omega
      have h3 : (a : Int) % 16 < 14 := by omega
      have h4 : (0 : Int) < (n : Int) := by omega
      have hqn2 : (q : Int) < (n : Int) := by omega
      clear E hx hq cc
      go_enter Tryz.func47, Tryz.ntmps47
      go_wp2_with fail
      go_ret
      exact ⟨by rw [E2.out]; rfl, rfl⟩
    · have E := Lib.hid (show addrB l a b = (b : Int) * 32 - (a : Int) % 2 from if_neg (by omega))
      have h3 : ¬ (a : Int) % 16 < 14 := by omega
      have h4 : (0 : Int) < (n : Int) := by omega
      clear c2
      go_enter Tryz.func47, Tryz.ntmps47
      go_wp2_with fail
      go_ret
      exact ⟨by rw [E.out]; rfl, rfl⟩
  · obtain rfl : n = 0 := by omega
    have E := Lib.hid (show addrB l a b = (b : Int) * 32 - (a : Int) % 2 from if_neg (by omega))
    clear c1
    go_enter Tryz.func47, Tryz.ntmps47
    go_wp2_with fail
    go_ret
    exact ⟨by rw [E.out]; rfl, rfl⟩
/-! ### One call by numbers -/
abbrev deedV (d : Lm.D) : Value := .agg #[.int .i64 d.k, .int .i64 d.n, .int .i64 d.a, .int .i64 d.c]
def doW (P nw : Nat) (k : K) (ca : Ca) (live : List Lm.S) (a b c : Nat) : K × Ca × List Lm.S × Lm.D :=
  if a % 16 = 14 then ((flushW k ca (c % nw)).1, (flushW k ca (c % nw)).2, live, ⟨0, 0, 0, 0⟩)
  else if a % 16 = 15 then (gcK k ((b : Int) % 2 == 0), ca, live, ⟨0, 0, 0, 0⟩)
  else if a % 16 < 8 then ((allocW P k ca live (c % nw) (sizeB b)).1, (allocW P k ca live (c % nw) (sizeB b)).2.1, (allocW P k ca live (c % nw) (sizeB b)).2.2.1, ⟨1, sizeB b, (allocW P k ca live (c % nw) (sizeB b)).2.2.2.1, (allocW P k ca live (c % nw) (sizeB b)).2.2.2.2⟩)
  else ((freeW k ca live (c % nw) (addrB live (a / 16) b)).1, (freeW k ca live (c % nw) (addrB live (a / 16) b)).2.1, (freeW k ca live (c % nw) (addrB live (a / 16) b)).2.2.1, ⟨2, 0, addrB live (a / 16) b, (freeW k ca live (c % nw) (addrB live (a / 16) b)).2.2.2⟩)
def DoPost (w0 W : World) (s P : Nat) (F : Nat → Prop) (pl : Pl) (r : K × Ca × List Lm.S × Lm.D) (e : Ending) (W' : World) : Prop := e = .returned (deedV r.2.2.2) ∧ Left w0 W W' s P r.1 r.2.1 r.2.2.1 F pl
/-- A block of the call's own, beside the store. -/
abbrev Wx (F : Nat → Prop) (x : Nat) (b : Nat) : Prop := F b ∨ b = x
abbrev zeroD : List Value := [.int .i64 0, .int .i64 0, .int .i64 0, .int .i64 0]
structure Bs (w0 W V : World) (s P : Nat) (k : K) (ca : Ca) (live : List Lm.S) (F : Nat → Prop) (pl pl' : Pl) (x : Nat) : Prop where
  st : StM w0 V s P k ca live (Wx F x) pl'
  same : Same pl pl'
  box : Blk V x 29 zeroD
  low : w0.heap.size ≤ x
  new : ¬ F x
  kept : Kept (Fr F) W V
theorem Bs.start (m : StM w0 W s P k ca live F pl) : Bs w0 W (W.alloc (.cells zeroD.toArray 29)) s P k ca live F pl (pl.re W.heap.size 98) W.heap.size := by
  have K : Kept Old W (W.alloc (.cells zeroD.toArray 29)) := (Kept.refl Old W).alloc _
  have sz : (W.alloc (.cells zeroD.toArray 29)).heap.size = W.heap.size + 1 := by simp
  exact ⟨m.more K (fun b hb => hb.elim .inl (fun e => .inr ⟨by omega, by omega⟩)), ⟨rfl, rfl, rfl, rfl, rfl⟩, Blk.new W _ _, m.ff.kept.size, fun e => by have := (m.ff.far _ e).2; omega, K.any⟩
theorem Bs.left {V V1 : World} {k1 : K} {ca1 : Ca} {l1 : List Lm.S} {pl1 : Pl} {x : Nat} (h : Bs w0 W V s P k ca live F pl pl1 x) (L : Left w0 V V1 s P k1 ca1 l1 (Wx F x) pl1) : ∃ pl2, Bs w0 W V1 s P k1 ca1 l1 F pl pl2 x := by
  obtain ⟨⟨pl2, m, e⟩, f⟩ := L
  exact ⟨pl2, m, h.same.trans e, h.box.kept f (fun z => z (.inr rfl)), h.low, h.new, h.kept.trans (f.mono fun i z y => z (.inl y))⟩
theorem Bs.old {V V1 : World} {pl1 : Pl} {x : Nat} (h : Bs w0 W V s P k ca live F pl pl1 x) (K : Kept Old V V1) : ∃ pl2, Bs w0 W V1 s P k ca live F pl pl2 x := h.left (Left.old h.st K)
/-- The deed is stored, and read again. -/
theorem Bs.fin {V : World} {pl1 : Pl} {x : Nat} (h : Bs w0 W V s P k ca live F pl pl1 x) (d : Lm.D) :
    ∃ Z, (((V.setCell ⟨x, 0, none⟩ (.int .i64 d.k)).setCell ⟨x, 1, none⟩ (.int .i64 d.n)).setCell ⟨x, 2, none⟩ (.int .i64 d.a)).setCell ⟨x, 3, none⟩ (.int .i64 d.c) = Z ∧ Z.cell? ⟨x, 0, none⟩ = some (.int .i64 d.k) ∧ Z.cell? ⟨x, 1, none⟩ = some (.int .i64 d.n) ∧ Z.cell? ⟨x, 2, none⟩ = some (.int .i64 d.a) ∧ Z.cell? ⟨x, 3, none⟩ = some (.int .i64 d.c) ∧ Left w0 W Z s P k ca live F pl := by
  have b := (((h.box.put 0 (.int .i64 d.k)).put 1 (.int .i64 d.n)).put 2 (.int .i64 d.a)).put 3 (.int .i64 d.c)
  have ks : Kept (Only x) V ((((V.setCell ⟨x, 0, none⟩ (.int .i64 d.k)).setCell ⟨x, 1, none⟩ (.int .i64 d.n)).setCell ⟨x, 2, none⟩ (.int .i64 d.a)).setCell ⟨x, 3, none⟩ (.int .i64 d.c)) := ((((only_setCell _ _ _ _).trans (only_setCell _ _ _ _)).trans (only_setCell _ _ _ _)).trans (only_setCell _ _ _ _))
  have m := h.st.only (G := F) ks (fun b e _ => by have e : b = x := e; rw [e]; exact ⟨.inr rfl, h.low⟩) (fun b e => .inl (.inl e))
  exact ⟨_, rfl, b.cell 0, b.cell 1, b.cell 2, b.cell 3, ⟨⟨_, m, ⟨h.same.a, h.same.h, h.same.pq, h.same.cb, h.same.nw⟩⟩, h.kept.trans (ks.mono fun i e z => by have e : i = x := e; rw [e] at z; exact h.new z)⟩⟩
set_option maxHeartbeats 4000000 in
theorem do_flush {nw : Nat} (a b c : Nat) (ha : a % 16 = 14) (_ : b ≤ 255) (ha2 : a ≤ 255) (hc5 : c ≤ 255) (hn : pl.nw = nw) (h1 : 1 ≤ nw) (m : StM w0 W s P k ca live F pl) (v : Sq P nw k ca live) : Calls Tryz.prog 14 #[ptr s, .int .i64 (nw : Int), .int .u8 (a : Int), .int .u8 (b : Int), .int .u8 (c : Int)] W (DoPost w0 W s P F pl (doW P nw k ca live a b c)) := by
  have n100 := m.cs.few
  obtain ⟨w, hw, hwn⟩ : ∃ w, c % nw = w ∧ w < nw := ⟨_, rfl, Nat.mod_lt _ h1⟩
  have hwi : (c : Int) % (nw : Int) = (w : Int) := by omega
  have nz : ¬ (nw : Int) = 0 := by omega
  obtain ⟨rk, rc, hr⟩ : ∃ rk rc, flushW k ca w = (rk, rc) := ⟨_, _, rfl⟩
  have E := Lib.hid (show doW P nw k ca live a b c = (rk, rc, live, ⟨0, 0, 0, 0⟩) from by unfold doW; rw [if_pos ha, hw, hr])
  have q14 : (a : Int) % 16 = 14 := by omega
  have B := Lib.hid (Bs.start m)
  have FL := sflush_any (w := w) (by have := B.out.same.nw; omega) B.out.st (by rw [B.out.same.nw, hn]; exact v)
  rw [hr] at FL
  have FL := Lib.hid FL
  clear m ha hw v hn n100 hr
  all_goals
    go_enter Tryz.func14, Tryz.ntmps14
    go_wp2_with fail
    refine FL.out.mono ?_
    rintro e V ⟨rfl, L⟩
    obtain ⟨pl2, b2⟩ := B.out.left L
    clear L B FL
    have B2 := Lib.hid b2
    have c0 : V.cell? ⟨W.heap.size, 0, none⟩ = some (.int .i64 0) := b2.box.cell 0
    have c1 : V.cell? ⟨W.heap.size, 1, none⟩ = some (.int .i64 0) := b2.box.cell 1
    have c2 : V.cell? ⟨W.heap.size, 2, none⟩ = some (.int .i64 0) := b2.box.cell 2
    have c3 : V.cell? ⟨W.heap.size, 3, none⟩ = some (.int .i64 0) := b2.box.cell 3
    have f0 := b2.box.frozen 0
    have f1 := b2.box.frozen 1
    have f2 := b2.box.frozen 2
    have f3 := b2.box.frozen 3
    clear b2
    go_wp2_with fail
    obtain ⟨Z, hZ, r0, r1, r2, r3, L⟩ := B2.out.fin ⟨0, 0, 0, 0⟩
    first | rw [hZ] | (simp only at hZ; rw [hZ])
    exact bodyPost_ret (v := deedV ⟨0, 0, 0, 0⟩) (by simp [results, Tryz.results14, go_sem, r0, r1, r2, r3]) rfl ⟨by rw [E.out], by rw [E.out]; exact L⟩
set_option maxHeartbeats 4000000 in
theorem do_gc {nw : Nat} (a b c : Nat) (ha : a % 16 = 15) (hb : b ≤ 255) (ha2 : a ≤ 255) (hc5 : c ≤ 255) (hn : pl.nw = nw) (h1 : 1 ≤ nw) (m : StM w0 W s P k ca live F pl) (v : Sq P nw k ca live) : Calls Tryz.prog 14 #[ptr s, .int .i64 (nw : Int), .int .u8 (a : Int), .int .u8 (b : Int), .int .u8 (c : Int)] W (DoPost w0 W s P F pl (doW P nw k ca live a b c)) := by
  have n100 := m.cs.few
  obtain ⟨w, hw, hwn⟩ : ∃ w, c % nw = w ∧ w < nw := ⟨_, rfl, Nat.mod_lt _ h1⟩
  have hwi : (c : Int) % (nw : Int) = (w : Int) := by omega
  have nz : ¬ (nw : Int) = 0 := by omega
  have E := Lib.hid (show doW P nw k ca live a b c = (gcK k ((b : Int) % 2 == 0), ca, live, ⟨0, 0, 0, 0⟩) from by unfold doW; rw [if_neg (by omega), if_pos ha])
  have q15 : (a : Int) % 16 = 15 := by omega
  have B := Lib.hid (Bs.start m)
  have GC := Lib.hid (sgc_any ((b : Int) % 2 == 0) B.out.st v.iq.inv)
  clear m ha hw v hn n100
  all_goals
    go_enter Tryz.func14, Tryz.ntmps14
    go_wp2_with fail
    refine GC.out.mono ?_
    rintro e V ⟨rfl, L⟩
    obtain ⟨pl2, b2⟩ := B.out.left L
    clear L B GC
    have B2 := Lib.hid b2
    have c0 : V.cell? ⟨W.heap.size, 0, none⟩ = some (.int .i64 0) := b2.box.cell 0
    have c1 : V.cell? ⟨W.heap.size, 1, none⟩ = some (.int .i64 0) := b2.box.cell 1
    have c2 : V.cell? ⟨W.heap.size, 2, none⟩ = some (.int .i64 0) := b2.box.cell 2
    have c3 : V.cell? ⟨W.heap.size, 3, none⟩ = some (.int .i64 0) := b2.box.cell 3
    have f0 := b2.box.frozen 0
    have f1 := b2.box.frozen 1
    have f2 := b2.box.frozen 2
    have f3 := b2.box.frozen 3
    clear b2
    go_wp2_with fail
    obtain ⟨Z, hZ, r0, r1, r2, r3, L⟩ := B2.out.fin ⟨0, 0, 0, 0⟩
    first | rw [hZ] | (simp only at hZ; rw [hZ])
    exact bodyPost_ret (v := deedV ⟨0, 0, 0, 0⟩) (by simp [results, Tryz.results14, go_sem, r0, r1, r2, r3]) rfl ⟨by rw [E.out], by rw [E.out]; exact L⟩
set_option maxHeartbeats 4000000 in
theorem do_alloc {nw : Nat} (a b c : Nat) (ha : a % 16 < 8) (hb : b ≤ 255) (ha2 : a ≤ 255) (hc5 : c ≤ 255) (hn : pl.nw = nw) (h1 : 1 ≤ nw) (m : StM w0 W s P k ca live F pl) (v : Sq P nw k ca live) : Calls Tryz.prog 14 #[ptr s, .int .i64 (nw : Int), .int .u8 (a : Int), .int .u8 (b : Int), .int .u8 (c : Int)] W (DoPost w0 W s P F pl (doW P nw k ca live a b c)) := by
  have n100 := m.cs.few
  obtain ⟨w, hw, hwn⟩ : ∃ w, c % nw = w ∧ w < nw := ⟨_, rfl, Nat.mod_lt _ h1⟩
  have hwi : (c : Int) % (nw : Int) = (w : Int) := by omega
  have nz : ¬ (nw : Int) = 0 := by omega
  obtain ⟨rk, rc, rl, ra, re, hr⟩ : ∃ rk rc rl ra re, allocW P k ca live w (sizeB b) = (rk, rc, rl, ra, re) := ⟨_, _, _, _, _, rfl⟩
  have E := Lib.hid (show doW P nw k ca live a b c = (rk, rc, rl, ⟨1, sizeB b, ra, re⟩) from by unfold doW; rw [if_neg (by omega), if_neg (by omega), if_pos ha, hw, hr])
  have B := Lib.hid (Bs.start m)
  have AL := Lib.hid (fun (G : Nat → Prop) (X : World) (pl3 : Pl) (e3 : pl3.nw = nw) (m3 : StM w0 X s P k ca live G pl3) => salloc_any (w := w) (by omega) (sizeB b) m3 (by rw [e3]; exact v))
  rw [hr] at AL
  have SZ := Lib.hid (size_any b hb)
  have EN := Lib.hid hn
  have q14 : ((a : Int) % 16 == 14) = false := by simp; omega
  have q15 : ((a : Int) % 16 == 15) = false := by simp; omega
  have q8 : (a : Int) % 16 < 8 := by omega
  clear m ha hr hw v hn n100
  all_goals
    go_enter Tryz.func14, Tryz.ntmps14
    go_wp2_with fail
    refine (SZ.out _).mono ?_
    rintro e V0 ⟨rfl, k0⟩
    obtain ⟨pl0, b0⟩ := B.out.old k0
    have B0 := Lib.hid b0
    clear b0 k0
    go_wp2_with fail
    refine (AL.out _ _ _ (B0.out.same.nw.trans EN.out) B0.out.st).mono ?_
    rintro e V1 ⟨rfl, L⟩
    obtain ⟨pl1, b1⟩ := B0.out.left L
    have B1 := Lib.hid b1
    clear b1 L B0
    go_wp2_with fail
    refine (SZ.out _).mono ?_
    rintro e V ⟨rfl, k2⟩
    obtain ⟨pl2, b2⟩ := B1.out.old k2
    clear k2 B1 B
    have B2 := Lib.hid b2
    have c0 : V.cell? ⟨W.heap.size, 0, none⟩ = some (.int .i64 0) := b2.box.cell 0
    have c1 : V.cell? ⟨W.heap.size, 1, none⟩ = some (.int .i64 0) := b2.box.cell 1
    have c2 : V.cell? ⟨W.heap.size, 2, none⟩ = some (.int .i64 0) := b2.box.cell 2
    have c3 : V.cell? ⟨W.heap.size, 3, none⟩ = some (.int .i64 0) := b2.box.cell 3
    have f0 := b2.box.frozen 0
    have f1 := b2.box.frozen 1
    have f2 := b2.box.frozen 2
    have f3 := b2.box.frozen 3
    clear b2
    go_wp2_with fail
    obtain ⟨Z, hZ, r0, r1, r2, r3, L⟩ := B2.out.fin ⟨1, sizeB b, ra, re⟩
    first | rw [hZ] | (simp only at hZ; rw [hZ])
    exact bodyPost_ret (v := deedV ⟨1, sizeB b, ra, re⟩) (by simp [results, Tryz.results14, go_sem, r0, r1, r2, r3]) rfl ⟨by rw [E.out], by rw [E.out]; exact L⟩
set_option maxHeartbeats 4000000 in
theorem do_free {nw : Nat} (a b c : Nat) (ha : ¬ a % 16 < 8) (h14 : a % 16 ≠ 14) (h15 : a % 16 ≠ 15) (hb : b ≤ 255) (ha2 : a ≤ 255) (hc5 : c ≤ 255) (hn : pl.nw = nw) (h1 : 1 ≤ nw) (m : StM w0 W s P k ca live F pl) (v : Sq P nw k ca live) : Calls Tryz.prog 14 #[ptr s, .int .i64 (nw : Int), .int .u8 (a : Int), .int .u8 (b : Int), .int .u8 (c : Int)] W (DoPost w0 W s P F pl (doW P nw k ca live a b c)) := by
  have n100 := m.cs.few
  obtain ⟨w, hw, hwn⟩ : ∃ w, c % nw = w ∧ w < nw := ⟨_, rfl, Nat.mod_lt _ h1⟩
  have hwi : (c : Int) % (nw : Int) = (w : Int) := by omega
  have nz : ¬ (nw : Int) = 0 := by omega
  obtain ⟨t, ht⟩ : ∃ t, addrB live (a / 16) b = t := ⟨_, rfl⟩
  obtain ⟨rk, rc, rl, re, hr⟩ : ∃ rk rc rl re, freeW k ca live w t = (rk, rc, rl, re) := ⟨_, _, _, _, rfl⟩
  have E := Lib.hid (show doW P nw k ca live a b c = (rk, rc, rl, ⟨2, 0, t, re⟩) from by unfold doW; rw [if_neg h14, if_neg h15, if_neg ha, ht, hw, hr])
  have B := Lib.hid (Bs.start m)
  have HL := Lib.hid v.val.len
  have AF := Lib.hid (fun (G : Nat → Prop) (X : World) (pl3 : Pl) (e3 : pl3.nw = nw) (m3 : StM w0 X s P k ca live G pl3) => sfree_any (w := w) (by omega) t m3 (by rw [e3]; exact v))
  have AD := Lib.hid (fun (A : Option Addr) (n c : Nat) (X : World) (h : Lm.RsS X A n live) (hn : n ≤ 600) => address_any A n c live (a / 16) b (by omega) hb hn X h)
  rw [hr] at AF
  rw [ht] at AD
  have LI := Lib.hid (fun (G : Nat → Prop) (X : World) (pl3 : Pl) (m3 : StM w0 X s P k ca live G pl3) => slive_any m3 (by have := HL.out; omega))
  have EN := Lib.hid hn
  have dv : ((a / 16 : Nat) : Int) = (a : Int) / 16 := by omega
  rw [dv] at AD
  have q14 : ((a : Int) % 16 == 14) = false := by simp; omega
  have q15 : ((a : Int) % 16 == 15) = false := by simp; omega
  have q8 : ¬ (a : Int) % 16 < 8 := by omega
  clear m ha hr h14 h15 ht dv hw v hn n100
  all_goals
    go_enter Tryz.func14, Tryz.ntmps14
    go_wp2_with fail
    refine (LI.out _ _ _ B.out.st).mono ?_
    rintro e V0 ⟨v0, rfl, A, n, c, rfl, R, _, _, k0⟩
    obtain ⟨pl0, b0⟩ := B.out.old k0
    have B0 := Lib.hid b0
    have AD1 := Lib.hid (AD.out A n c V0 R (by have := R.len; have := HL.out; omega))
    clear b0 k0 R
    go_wp2_with fail
    refine AD1.out.mono ?_
    rintro e V0 ⟨rfl, rfl⟩
    go_wp2_with fail
    refine (AF.out _ _ _ (B0.out.same.nw.trans EN.out) B0.out.st).mono ?_
    rintro e V ⟨rfl, L⟩
    obtain ⟨pl2, b2⟩ := B0.out.left L
    clear L B0 B AD1
    have B2 := Lib.hid b2
    have c0 : V.cell? ⟨W.heap.size, 0, none⟩ = some (.int .i64 0) := b2.box.cell 0
    have c1 : V.cell? ⟨W.heap.size, 1, none⟩ = some (.int .i64 0) := b2.box.cell 1
    have c2 : V.cell? ⟨W.heap.size, 2, none⟩ = some (.int .i64 0) := b2.box.cell 2
    have c3 : V.cell? ⟨W.heap.size, 3, none⟩ = some (.int .i64 0) := b2.box.cell 3
    have f0 := b2.box.frozen 0
    have f1 := b2.box.frozen 1
    have f2 := b2.box.frozen 2
    have f3 := b2.box.frozen 3
    clear b2
    go_wp2_with fail
    obtain ⟨Z, hZ, r0, r1, r2, r3, L⟩ := B2.out.fin ⟨2, 0, t, re⟩
    first | rw [hZ] | (simp only at hZ; rw [hZ])
    exact bodyPost_ret (v := deedV ⟨2, 0, t, re⟩) (by simp [results, Tryz.results14, go_sem, r0, r1, r2, r3]) rfl ⟨by rw [E.out], by rw [E.out]; exact L⟩
/-- One call, whatever the numbers. -/
theorem do_any {nw : Nat} (a b c : Nat) (ha : a ≤ 255) (hb : b ≤ 255) (hc : c ≤ 255) (hn : pl.nw = nw) (h1 : 1 ≤ nw) (m : StM w0 W s P k ca live F pl) (v : Sq P nw k ca live) : Calls Tryz.prog 14 #[ptr s, .int .i64 (nw : Int), .int .u8 (a : Int), .int .u8 (b : Int), .int .u8 (c : Int)] W (DoPost w0 W s P F pl (doW P nw k ca live a b c)) := by
  by_cases q : a % 16 = 14
  · exact do_flush a b c q hb ha hc hn h1 m v
  · by_cases r : a % 16 = 15
    · exact do_gc a b c r hb ha hc hn h1 m v
    · by_cases t : a % 16 < 8
      · exact do_alloc a b c t hb ha hc hn h1 m v
      · exact do_free a b c t q r hb ha hc hn h1 m v
/-- What a call leaves is a shop; a deed is one that the model accepts, to the same live stacks. -/
theorem Sq.doW {nw : Nat} (v : Sq P nw k ca live) (h1 : 1 ≤ nw) (a b c : Nat) : Sq P nw (doW P nw k ca live a b c).1 (doW P nw k ca live a b c).2.1 (doW P nw k ca live a b c).2.2.1 ∧ ((Shp.doW P nw k ca live a b c).2.2.2.k = 0 → (Shp.doW P nw k ca live a b c).2.2.1 = live) ∧ ((Shp.doW P nw k ca live a b c).2.2.2.k ≠ 0 → Lm.accB ((P : Int) * 64) live (Shp.doW P nw k ca live a b c).2.2.2 = true ∧ Lm.accL ((P : Int) * 64) live (Shp.doW P nw k ca live a b c).2.2.2 = (Shp.doW P nw k ca live a b c).2.2.1) := by
  have hw : c % nw < nw := Nat.mod_lt _ h1
  unfold Shp.doW
  split
  · exact ⟨v.flushW hw, fun _ => rfl, fun h => by simp at h⟩
  · split
    · exact ⟨v.gc _, fun _ => rfl, fun h => by simp at h⟩
    · split
      · refine ⟨v.allocW hw _, fun h => by simp at h, fun _ => ?_⟩
        unfold Shp.allocW
        by_cases q : classB (sizeB b) = true
        · rw [if_pos q]
          by_cases d : (takeWR P k ca (c % nw) (classI (sizeB b))).2.2.2 = 0
          · rw [if_pos d]
            have r := (v.alloc hw q d).1
            exact ⟨by unfold Lm.accB; simp [r], by unfold Lm.accL; simp [r]⟩
          · rw [if_neg d]
            exact ⟨by unfold Lm.accB; simp [q], by unfold Lm.accL; simp⟩
        · rw [if_neg q]
          exact ⟨by unfold Lm.accB; simp [q], by unfold Lm.accL; simp⟩
      · refine ⟨v.freeW hw _, fun h => by simp at h, fun _ => ?_⟩
        unfold Shp.freeW
        by_cases q : Lm.hasB live (addrB live (a / 16) b) = true
        · rw [if_pos q]
          exact ⟨by unfold Lm.accB; simp [q], by unfold Lm.accL; simp [q]⟩
        · rw [if_neg q]
          exact ⟨by unfold Lm.accB; simp [q], by unfold Lm.accL; simp⟩
end play
end Go.Proofs.YtcndilpaijapkaaGreat.Shp
/- The calls that a law plays on a store, as a list of deeds: each is accepted by the model; the list beside the store in memory. Own work; no program is walked here. -/
namespace Go.Proofs.YtcndilpaijapkaaGreat.Shp
open Sto
open Go.ChangeShapes Go.WideShapes Go.ChangeAt Go.RowKit
set_option maxRecDepth 100000
section deeds
variable {w w0 W V : World} {s P : Nat} {k : K} {ca : Ca} {live : List Lm.S} {F : Nat → Prop} {pl : Pl}
theorem acc_app {Z : Int} {d : Lm.D} : ∀ {ds : List Lm.D} {l l' : List Lm.S}, Lm.accF Z l ds = true → Lm.accM Z l ds = l' → Lm.accK Z l ds = ds.length → Lm.accB Z l' d = true →
    Lm.accF Z l (ds ++ [d]) = true ∧ Lm.accM Z l (ds ++ [d]) = Lm.accL Z l' d ∧ Lm.accK Z l (ds ++ [d]) = (ds ++ [d]).length
  | [], l, l', _, h2, _, h4 => by
    have h2 : l = l' := h2
    subst h2
    show (if Lm.accB Z l d then true else false) = true ∧ (if Lm.accB Z l d then Lm.accL Z l d else l) = _ ∧ (if Lm.accB Z l d then 0 + 1 else 0) = 1
    rw [h4]
    exact ⟨rfl, rfl, rfl⟩
  | e :: t, l, l', h1, h2, h3, h4 => by
    have g1 : (if Lm.accB Z l e then Lm.accF Z (Lm.accL Z l e) t else false) = true := h1
    have g2 : (if Lm.accB Z l e then Lm.accM Z (Lm.accL Z l e) t else l) = l' := h2
    have g3 : (if Lm.accB Z l e then Lm.accK Z (Lm.accL Z l e) t + 1 else 0) = t.length + 1 := h3
    show (if Lm.accB Z l e then Lm.accF Z (Lm.accL Z l e) (t ++ [d]) else false) = true ∧ (if Lm.accB Z l e then Lm.accM Z (Lm.accL Z l e) (t ++ [d]) else l) = _ ∧ (if Lm.accB Z l e then Lm.accK Z (Lm.accL Z l e) (t ++ [d]) + 1 else 0) = (t ++ [d]).length + 1
    cases b : Lm.accB Z l e with
    | false => rw [b] at g1; cases g1
    | true =>
      rw [b, if_pos rfl] at g1 g2 g3
      rw [if_pos rfl, if_pos rfl, if_pos rfl]
      obtain ⟨q1, q2, q3⟩ := acc_app g1 g2 (by omega) h4
      exact ⟨q1, q2, by omega⟩
/-- All deeds are accepted, and lead to l. -/
structure Acc (Z : Int) (ds : List Lm.D) (l : List Lm.S) : Prop where
  f : Lm.accF Z [] ds = true
  m : Lm.accM Z [] ds = l
  k : Lm.accK Z [] ds = ds.length
theorem Acc.nil (Z : Int) : Acc Z [] [] := ⟨rfl, rfl, rfl⟩
theorem Acc.app {Z : Int} {ds : List Lm.D} {l : List Lm.S} (h : Acc Z ds l) {d : Lm.D} (a : Lm.accB Z l d = true) : Acc Z (ds ++ [d]) (Lm.accL Z l d) := by
  obtain ⟨a1, a2, a3⟩ := acc_app h.f h.m h.k a
  exact ⟨a1, a2, a3⟩
theorem addr_bounds {nw : Nat} (v : Sq P nw k ca live) (a b : Nat) (hb : b ≤ 255) : -1 ≤ addrB live a b ∧ addrB live a b ≤ 20000 := by
  unfold addrB
  split
  · rename_i h
    have hq : b % live.length < live.length := Nat.mod_lt _ h.1
    have ly := v.val.each (live[b % live.length]'hq) (List.getElem_mem hq)
    rw [List.getD_eq_getElem?_getD, List.getElem?_eq_getElem hq]
    have h1 := ly.a0
    have h2 := ly.fit
    have h3 := ly.w0
    have h4 := v.val.w1
    simp only [Option.getD_some]
    omega
  · omega
theorem do_fit {nw : Nat} (v : Sq P nw k ca live) (h1 : 1 ≤ nw) (a b c : Nat) (hb : b ≤ 255) : Lm.FitD (doW P nw k ca live a b c).2.2.2 := by
  have sb := size_bounds b
  have ab := addr_bounds v (a / 16) b hb
  have hw : c % nw < nw := Nat.mod_lt _ h1
  unfold doW
  split
  · exact ⟨⟨by simp, by simp⟩, ⟨by simp, by simp⟩, ⟨by simp, by simp⟩, ⟨by simp, by simp⟩⟩
  · split
    · exact ⟨⟨by simp, by simp⟩, ⟨by simp, by simp⟩, ⟨by simp, by simp⟩, ⟨by simp, by simp⟩⟩
    · split
      · unfold allocW
        by_cases q : classB (sizeB b) = true
        · rw [if_pos q]
          by_cases d : (takeWR P k ca (c % nw) (classI (sizeB b))).2.2.2 = 0
          · rw [if_pos d]
            have r := (v.alloc hw q d).1
            unfold Lm.roomB Lm.fitB at r
            simp only [Bool.and_eq_true] at r
            have ly := Lm.lies_of r.1.2
            have h1 := ly.a0
            have h2 := ly.fit
            have h3 := ly.w0
            have h4 := v.val.w1
            refine ⟨⟨by simp, by simp⟩, ⟨by simp only; omega, by simp only; omega⟩, ⟨by simp only; omega, by simp only; omega⟩, ⟨by simp, by simp⟩⟩
          · rw [if_neg d]
            refine ⟨⟨by simp, by simp⟩, ⟨by simp only; omega, by simp only; omega⟩, ⟨by simp, by simp⟩, ⟨by simp, by simp⟩⟩
        · rw [if_neg q]
          refine ⟨⟨by simp, by simp⟩, ⟨by simp only; omega, by simp only; omega⟩, ⟨by simp, by simp⟩, ⟨by simp, by simp⟩⟩
      · unfold freeW
        split
        · exact ⟨⟨by simp, by simp⟩, ⟨by simp, by simp⟩, ⟨by simp only; omega, by simp only; omega⟩, ⟨by simp, by simp⟩⟩
        · exact ⟨⟨by simp, by simp⟩, ⟨by simp, by simp⟩, ⟨by simp only; omega, by simp only; omega⟩, ⟨by simp, by simp⟩⟩
abbrev Fo (v : Value) (b : Nat) : Prop := some b = v.ownBlock
/-- A shop, and the list of what was done, apart from it. -/
structure Pm (w V : World) (s P nw : Nat) (v : Value) (ds : List Lm.D) (k : K) (ca : Ca) (live : List Lm.S) (pl : Pl) : Prop where
  st : StM w V s P k ca live (Fo v) pl
  sv : Sq P nw k ca live
  num : pl.nw = nw
  ow : Lm.OwD V w.heap.size v ds.length ds
  acc : Acc ((P : Int) * 64) ds live
theorem Pm.old {Z : World} {nw : Nat} {v : Value} {ds : List Lm.D} (h : Pm w V s P nw v ds k ca live pl) (K : Kept Old V Z) : Pm w Z s P nw v ds k ca live (pl.re V.heap.size 97) := ⟨h.st.old K, h.sv, h.num, h.ow.old K, h.acc⟩
/-- One call that is no deed, or whose deed is not told yet. -/
theorem Pm.call {V1 : World} {nw : Nat} {k1 : K} {ca1 : Ca} {l1 : List Lm.S} {v : Value} {ds : List Lm.D} (h : Pm w V s P nw v ds k ca live pl) (L : Left w V V1 s P k1 ca1 l1 (Fo v) pl) : (∃ pl1, StM w V1 s P k1 ca1 l1 (Fo v) pl1 ∧ pl1.nw = nw) ∧ Lm.OwD V1 w.heap.size v ds.length ds := by
  obtain ⟨⟨pl1, m, e⟩, f⟩ := L
  exact ⟨⟨pl1, m, e.nw.trans h.num⟩, h.ow.kept f (fun g e z => z e.symm)⟩
/-- The deed is appended. -/
theorem app_store {V1 Z : World} {nw : Nat} {v v9 : Value} (m : StM w V1 s P k ca live (Fo v) pl) (hn : pl.nw = nw) (own : ∀ b, Fo v b → w.heap.size ≤ b) (K : Kept (fun i => some i = v.ownBlock) V1 Z) (n9 : v9.ownBlock = v.ownBlock ∨ v9.ownBlock = some V1.heap.size) (lt : ∀ b, Fo v9 b → b < Z.heap.size) : ∃ pl9, StM w Z s P k ca live (Fo v9) pl9 ∧ pl9.nw = nw :=
  ⟨_, m.only K (fun b e _ => ⟨e, own b e⟩) (fun b e => by
    rcases n9 with z | z
    · exact .inl (e.trans z)
    · have := lt b e
      have e : some b = v9.ownBlock := e
      rw [z] at e
      injection e with e
      exact .inr ⟨by omega, this⟩), hn⟩
end deeds
end Go.Proofs.YtcndilpaijapkaaGreat.Shp
/- The law's own played: a shop behind some calls. Own work; proved by a walk through the landed text. -/
namespace Go.Proofs.YtcndilpaijapkaaGreat.Shp
open Sto
open Go.ChangeShapes Go.WideShapes Go.ChangeAt Go.RowKit
set_option maxRecDepth 100000
abbrev NoB (_ : Nat) : Prop := False
def PlayedPost (w0 : World) (P nw : Nat) (e : Ending) (W' : World) : Prop := ∃ s, e = .returned (ptr s) ∧ ∃ k ca live pl, StM w0 W' s P k ca live NoB pl ∧ pl.nw = nw ∧ Sq P nw k ca live
set_option maxHeartbeats 4000000 in
theorem played_any {w0 : World} (u x P nw : Nat) (hu : u ≤ 255) (hx : x ≤ 255) (hP : 1 + (u : Int) = (P : Int)) (hnw : 1 + (x : Int) % 6 = (nw : Int)) (A : Option Addr) (len cap : Nat) (z : Nat → Int) (hl : len ≤ 9223372036854775807) (hz : ∀ i, i < len → 0 ≤ z i ∧ z i ≤ 255) (HS : Sl w0 A 1 len fun i _ => .int .u8 (z i)) :
    Calls Tryz.prog 28 #[.int .u8 (u : Int), .int .u8 (x : Int), .slice A len cap] w0 (PlayedPost w0 P nw) := by
  have hz := Lib.hid hz
  have HS := Lib.hid HS
  have P1 : 1 ≤ P := by omega
  have P2 : P ≤ 256 := by omega
  have N1 : 1 ≤ nw := by omega
  have N2 : nw ≤ 6 := by omega
  have NS := Lib.hid (snew_yes w0 P nw NoB w0 P1 P2 N1 N2 (Kept.refl Old w0) (fun _ h => h.elim))
  have V0 := Lib.hid (show Sq P nw (K0 P) (fun _ _ => []) [] from Sq.new (P := P) P1 P2 nw)
  go_enter Tryz.func28, Tryz.ntmps28
  go_wp2_with fail
  refine NS.out.mono ?_
  rintro e W1 ⟨s, rfl, ⟨pl, en, m⟩, k1, _⟩
  have M0 := Lib.hid m
  have EN0 := Lib.hid en
  clear m en k1 NS
  go_wp2_with fail
  go_loopw [9] (fun s6 wr => ∃ (i : Nat) (k : Sto.K) (ca : Ca) (live : List Lm.S) (pl : Pl), i ≤ 452 ∧ s6 = .int .i64 (i : Int) ∧ Hid (StM w0 wr s P k ca live NoB pl) ∧ Hid (pl.nw = nw) ∧ Hid (Sq P nw k ca live)) (fun s6 _ => 453 - (intOf s6).toNat)
  case atStart => exact ⟨0, _, _, _, _, by omega, rfl, M0, EN0, V0⟩
  case round =>
    clear M0 V0 EN0
    obtain ⟨i, k, ca, live, pl, hi, rfl, M, EN, SVV⟩ := hrel
    rename World => V
    have wi : IntKind.i64.wrap ((i : Int) + 1) = (i : Int) + 1 := IntWalk.i64_in _ (by omega)
    have wi2 : IntKind.i64.wrap ((i : Int) + 2) = (i : Int) + 2 := IntWalk.i64_in _ (by omega)
    have wi3 : IntKind.i64.wrap ((i : Int) + 3) = (i : Int) + 3 := IntWalk.i64_in _ (by omega)
    by_cases cc : i + 2 < len ∧ i < 450
    · obtain ⟨c1, c2⟩ := cc
      have ci2 : (i : Int) < 450 := by omega
      have ci : (i : Int) + 2 < (len : Int) := by omega
      have ci1 : (i : Int) + 1 < (len : Int) := by omega
      have ci0 : (i : Int) < (len : Int) := by omega
      have ci3 : ¬ (i : Int) + 1 < 0 := by omega
      have ci4 : ¬ (i : Int) < 0 := by omega
      have ci5 : ¬ (i : Int) + 2 < 0 := by omega
      obtain ⟨g, o, rfl, hg, hc⟩ := (HS.out.old M.out.ff.kept).lies (by omega)
      have d0 := hc i 0 (by omega) (by omega)
      have d1 := hc (i + 1) 0 (by omega) (by omega)
      have d2 := hc (i + 2) 0 (by omega) (by omega)
      simp only [Nat.mul_one, Nat.add_zero] at d0 d1 d2
      obtain ⟨q0, q1⟩ := hz.out i (by omega)
      obtain ⟨q2, q3⟩ := hz.out (i + 1) (by omega)
      obtain ⟨q4, q5⟩ := hz.out (i + 2) (by omega)
      obtain ⟨a, ha, ha5⟩ : ∃ a : Nat, z i = (a : Int) ∧ a ≤ 255 := ⟨(z i).toNat, by omega, by omega⟩
      obtain ⟨b, hb, hb5⟩ : ∃ b : Nat, z (i + 1) = (b : Int) ∧ b ≤ 255 := ⟨(z (i + 1)).toNat, by omega, by omega⟩
      obtain ⟨c, hcc, hc5⟩ : ∃ c : Nat, z (i + 2) = (c : Int) ∧ c ≤ 255 := ⟨(z (i + 2)).toNat, by omega, by omega⟩
      rw [ha] at d0
      rw [hb] at d1
      rw [hcc] at d2
      have HC := Lib.hid (fun X (q : Kept Old w0 X) => (show X.cell? ⟨g, o + i, none⟩ = some (.int .u8 (a : Int)) ∧ X.cell? ⟨g, o + (i + 1), none⟩ = some (.int .u8 (b : Int)) ∧ X.cell? ⟨g, o + (i + 2), none⟩ = some (.int .u8 (c : Int)) from by
        obtain ⟨g2, o2, e2, hg2, hc2⟩ := (HS.out.old q).lies (by omega)
        injection e2 with e2
        injection e2 with e3 e4
        subst e3
        subst e4
        have x0 := hc2 i 0 (by omega) (by omega)
        have x1 := hc2 (i + 1) 0 (by omega) (by omega)
        have x2 := hc2 (i + 2) 0 (by omega) (by omega)
        simp only [Nat.mul_one, Nat.add_zero] at x0 x1 x2
        rw [ha] at x0
        rw [hb] at x1
        rw [hcc] at x2
        exact ⟨x0, x1, x2⟩))
      clear hc q0 q1 q2 q3 q4 q5 ha hb hcc
      obtain ⟨rk, rc, rl, rd, hr⟩ : ∃ rk rc rl rd, doW P nw k ca live a b c = (rk, rc, rl, rd) := ⟨_, _, _, _, rfl⟩
      have SV := Lib.hid (SVV.out.doW N1 a b c)
      rw [hr] at SV
      have DO : ∀ X, Kept Old V X → Calls Tryz.prog 14 #[ptr s, .int .i64 (nw : Int), .int .u8 (a : Int), .int .u8 (b : Int), .int .u8 (c : Int)] X fun e W' => e = .returned (deedV rd) ∧ Shp.Left w0 V W' s P rk rc rl (NoB) pl := fun X q => by
        have h := do_any (pl := pl.re V.heap.size 97) a b c ha5 hb5 hc5 EN.out N1 (M.out.old q) SVV.out
        unfold DoPost at h
        rw [hr] at h
        refine h.mono ?_
        rintro e W' ⟨rfl, L⟩
        exact ⟨rfl, Shp.Left.trans (pl1 := pl.re V.heap.size 97) ⟨rfl, rfl, rfl, rfl, rfl⟩ q.any L⟩
      have DO := Lib.hid DO
      clear c1 c2 hr
      go_wp2_with fail
      refine wp_region_held_drew (S := (fun w' => w'.cell? ⟨g, o + i, none⟩ = some (.int .u8 (a : Int)) ∧ w'.cell? ⟨g, o + (i + 1), none⟩ = some (.int .u8 (b : Int)) ∧ w'.cell? ⟨g, o + (i + 2), none⟩ = some (.int .u8 (c : Int)))) (by kernel_rfl) ⟨d0, d1, d2⟩ (fun hHeld => ?_)
      refine wpAnyH_take (i := 0) (v := ptr s) rfl (by kernel_rfl) (by decide +kernel) (by decide +kernel) (fun _ _ _ h => h) (Or.inl ⟨by rfl, fun w' hSw => ?_⟩) hHeld ?_
      · (go_simp)
      simp only [Act.put, List.getElem_toArray, List.getElem_cons_zero, List.setIfInBounds_toArray, List.set_cons_zero, List.set_cons_succ]
      refine wpAnyH_take (i := 1) (v := .int .i64 (nw : Int)) rfl (by kernel_rfl) (by decide +kernel) (by decide +kernel) (fun _ _ _ h => h) (Or.inl ⟨by rfl, fun w' hSw => ?_⟩) hHeld ?_
      · (go_simp)
      simp only [Act.put, List.getElem_toArray, List.getElem_cons_succ, List.getElem_cons_zero, List.setIfInBounds_toArray, List.set_cons_zero, List.set_cons_succ]
      refine wpAnyH_take (i := 2) (v := .slice (some ⟨g, o, none⟩) len cap) rfl (by kernel_rfl) (by decide +kernel) (by decide +kernel) (fun _ _ _ h => h) (Or.inl ⟨by rfl, fun w' hSw => ?_⟩) hHeld ?_
      · (go_simp)
      simp only [Act.put, List.getElem_toArray, List.getElem_cons_succ, List.getElem_cons_zero, List.setIfInBounds_toArray, List.set_cons_zero, List.set_cons_succ]
      refine wpAnyH_take (i := 3) (v := .int .i64 (i : Int)) rfl (by kernel_rfl) (by decide +kernel) (by decide +kernel) (fun _ _ _ h => h) (Or.inl ⟨by rfl, fun w' hSw => ?_⟩) hHeld ?_
      · (go_simp)
      simp only [Act.put, List.getElem_toArray, List.getElem_cons_succ, List.getElem_cons_zero, List.setIfInBounds_toArray, List.set_cons_zero, List.set_cons_succ]
      refine wpAnyH_take (i := 4) (v := .pointer (some ⟨g, o + i, none⟩)) rfl (by kernel_rfl) (by decide +kernel) (by decide +kernel) (fun _ _ _ h => h) (Or.inl ⟨by rfl, fun w' hSw => ?_⟩) hHeld ?_
      · (go_simp)
      simp only [Act.put, List.getElem_toArray, List.getElem_cons_succ, List.getElem_cons_zero, List.setIfInBounds_toArray, List.set_cons_zero, List.set_cons_succ]
      refine wpAnyH_take (i := 5) (v := .int .u8 (a : Int)) rfl (by kernel_rfl) (by decide +kernel) (by decide +kernel) (fun _ _ _ h => h) (Or.inl ⟨by rfl, fun w' hSw => ?_⟩) hHeld ?_
      · (go_simp)
      simp only [Act.put, List.getElem_toArray, List.getElem_cons_succ, List.getElem_cons_zero, List.setIfInBounds_toArray, List.set_cons_zero, List.set_cons_succ]
      refine wpAnyH_take (i := 6) (v := .slice (some ⟨g, o, none⟩) len cap) rfl (by kernel_rfl) (by decide +kernel) (by decide +kernel) (fun _ _ _ h => h) (Or.inl ⟨by rfl, fun w' hSw => ?_⟩) hHeld ?_
      · (go_simp)
      simp only [Act.put, List.getElem_toArray, List.getElem_cons_succ, List.getElem_cons_zero, List.setIfInBounds_toArray, List.set_cons_zero, List.set_cons_succ]
      refine wpAnyH_take (i := 7) (v := .int .i64 (i : Int)) rfl (by kernel_rfl) (by decide +kernel) (by decide +kernel) (fun _ _ _ h => h) (Or.inl ⟨by rfl, fun w' hSw => ?_⟩) hHeld ?_
      · (go_simp)
      simp only [Act.put, List.getElem_toArray, List.getElem_cons_succ, List.getElem_cons_zero, List.setIfInBounds_toArray, List.set_cons_zero, List.set_cons_succ]
      refine wpAnyH_take (i := 8) (v := .int .i64 ((i : Int) + 1)) rfl (by kernel_rfl) (by decide +kernel) (by decide +kernel) (fun _ _ _ h => h) (Or.inl ⟨by rfl, fun w' hSw => ?_⟩) hHeld ?_
      · (go_simp)
      simp only [Act.put, List.getElem_toArray, List.getElem_cons_succ, List.getElem_cons_zero, List.setIfInBounds_toArray, List.set_cons_zero, List.set_cons_succ]
      refine wpAnyH_take (i := 9) (v := .pointer (some ⟨g, o + (i + 1), none⟩)) rfl (by kernel_rfl) (by decide +kernel) (by decide +kernel) (fun _ _ _ h => h) (Or.inl ⟨by rfl, fun w' hSw => ?_⟩) hHeld ?_
      · (go_simp)
      simp only [Act.put, List.getElem_toArray, List.getElem_cons_succ, List.getElem_cons_zero, List.setIfInBounds_toArray, List.set_cons_zero, List.set_cons_succ]
      refine wpAnyH_take (i := 10) (v := .int .u8 (b : Int)) rfl (by kernel_rfl) (by decide +kernel) (by decide +kernel) (fun _ _ _ h => h) (Or.inl ⟨by rfl, fun w' hSw => ?_⟩) hHeld ?_
      · (go_simp)
      simp only [Act.put, List.getElem_toArray, List.getElem_cons_succ, List.getElem_cons_zero, List.setIfInBounds_toArray, List.set_cons_zero, List.set_cons_succ]
      refine wpAnyH_take (i := 11) (v := .slice (some ⟨g, o, none⟩) len cap) rfl (by kernel_rfl) (by decide +kernel) (by decide +kernel) (fun _ _ _ h => h) (Or.inl ⟨by rfl, fun w' hSw => ?_⟩) hHeld ?_
      · (go_simp)
      simp only [Act.put, List.getElem_toArray, List.getElem_cons_succ, List.getElem_cons_zero, List.setIfInBounds_toArray, List.set_cons_zero, List.set_cons_succ]
      refine wpAnyH_take (i := 12) (v := .int .i64 (i : Int)) rfl (by kernel_rfl) (by decide +kernel) (by decide +kernel) (fun _ _ _ h => h) (Or.inl ⟨by rfl, fun w' hSw => ?_⟩) hHeld ?_
      · (go_simp)
      simp only [Act.put, List.getElem_toArray, List.getElem_cons_succ, List.getElem_cons_zero, List.setIfInBounds_toArray, List.set_cons_zero, List.set_cons_succ]
      refine wpAnyH_take (i := 13) (v := .int .i64 ((i : Int) + 2)) rfl (by kernel_rfl) (by decide +kernel) (by decide +kernel) (fun _ _ _ h => h) (Or.inl ⟨by rfl, fun w' hSw => ?_⟩) hHeld ?_
      · (go_simp)
      simp only [Act.put, List.getElem_toArray, List.getElem_cons_succ, List.getElem_cons_zero, List.setIfInBounds_toArray, List.set_cons_zero, List.set_cons_succ]
      refine wpAnyH_take (i := 14) (v := .pointer (some ⟨g, o + (i + 2), none⟩)) rfl (by kernel_rfl) (by decide +kernel) (by decide +kernel) (fun _ _ _ h => h) (Or.inl ⟨by rfl, fun w' hSw => ?_⟩) hHeld ?_
      · (go_simp)
      simp only [Act.put, List.getElem_toArray, List.getElem_cons_succ, List.getElem_cons_zero, List.setIfInBounds_toArray, List.set_cons_zero, List.set_cons_succ]
      refine wpAnyH_take (i := 15) (v := .int .u8 (c : Int)) rfl (by kernel_rfl) (by decide +kernel) (by decide +kernel) (fun _ _ _ h => h) (Or.inl ⟨by rfl, fun w' hSw => ?_⟩) hHeld ?_
      · (go_simp)
      simp only [Act.put, List.getElem_toArray, List.getElem_cons_succ, List.getElem_cons_zero, List.setIfInBounds_toArray, List.set_cons_zero, List.set_cons_succ]
      refine wpAnyH_ready (rs := [16]) (by decide +kernel) (by simp) (AllReadyH.cons rfl (fun K hK => ?_) AllReadyH.nil)
      simp only [List.getElem_toArray, List.getElem_cons_succ, List.getElem_cons_zero]
      rw [if_pos (by rfl)]
      go_simp
      go_at_call 14
      refine (DO.out _ (Kept.refl Old V).drew).mono ?_
      rintro e V1 ⟨rfl, ⟨pl1, m1, e1⟩, f1⟩
      have CV := HC.out V1 m1.ff.kept
      have M1 := Lib.hid m1
      have EN1 := Lib.hid (e1.nw.trans EN.out)
      have f1 := Lib.hid f1
      clear m1 e1
      refine hK.out _ _ CV (fun hHeld => ?_)
      clear hK K CV
      refine wpAnyH_done (by decide +kernel) ?_ _
      go_wp2_with fail
      exact ⟨⟨i + 3, rk, rc, rl, pl1, by omega, by go_num, M1, EN1, Lib.hid SV.out.1⟩, by simp [intOf]; omega⟩
    · have ways : ¬ (i : Int) + 2 < (len : Int) ∨ ((i : Int) + 2 < (len : Int) ∧ ¬ (i : Int) < 450) := by omega
      clear cc
      rcases ways with h1 | ⟨h1, h2⟩
      all_goals
        go_wp2_with fail
        go_ret
        exact ⟨s, rfl, k, ca, live, pl, M.out, EN.out, SVV.out⟩
end Go.Proofs.YtcndilpaijapkaaGreat.Shp
