/-
  The document's own pool in memory behind a call: lists of entries joined, cut, one turned; what a call leaves (RpN). Own work; no program is walked here.
-/
import Derived.Test.YtcaongcpfepcjaaRows
import Derived.Test.YtcaongcpfepcjaaRefPool
namespace Go.Proofs.Ytcaongcpfepcjaa
open Go.ChangeShapes Go.WideShapes Go.ChangeAt Go.RowKit
theorem size_setP (w : World) (p : Addr) (v : Value) : (w.setCell p v).heap.size = w.heap.size := by simp [World.setCell]
/-- Block g is a row of cells, none frozen. -/
def Fz (w : World) (g : Nat) : Prop := ∃ cur t, w.heap[g]? = some (.cells cur t (0, 0))
theorem Fz.lt {w : World} {g : Nat} (h : Fz w g) : g < w.heap.size := by obtain ⟨_, _, h⟩ := h; exact (Array.getElem?_eq_some_iff.1 h).1
theorem Fz.kept {D : Nat → Prop} {w w' : World} {g : Nat} (h : Fz w g) (k : Kept D w w') (hd : ¬ D g) : Fz w' g := by
  have l := h.lt
  obtain ⟨c, t, h⟩ := h
  exact ⟨c, t, (k.block g l hd).trans h⟩
theorem Fz.frozen {w : World} {g : Nat} (h : Fz w g) (i : Nat) : w.frozen? ⟨g, i, none⟩ = false := by
  obtain ⟨c, t, h⟩ := h
  exact frozen_of_row w g i c t h
namespace Rf
/-- The second cell of one entry is written. -/
theorem Rs.put1 {w : World} {g o n : Nat} {l : List R} (h : Rs w (some ⟨g, o, none⟩) n l) {k : Nat} {x : R} (hx : l[k]? = some x) (A : Option Addr) (m c : Nat) :
    Rs (w.setCell ⟨g, o + k * 2 + 1, none⟩ (.slice A m c)) (some ⟨g, o, none⟩) n (l.set k ⟨x.a, A, m, c⟩) := by
  have hk := get_len h hx
  refine ⟨by rw [List.length_set]; exact h.len, fun y hy => ?_, fun hn => ?_⟩
  · obtain ⟨j, hj⟩ := List.getElem?_of_mem hy
    rw [List.getElem?_set] at hj
    split at hj
    · split at hj
      · obtain rfl := Option.some.inj hj; exact ⟨(h.fit x (List.mem_of_getElem? hx)).1, trivial⟩
      · cases hj
    · exact h.fit y (List.mem_of_getElem? hj)
  · obtain ⟨g', o', e, hg, c0⟩ := h.lies hn
    injection e with e
    injection e with e1 e2
    subst e1
    subst e2
    refine ⟨g, o, rfl, by rw [size_setP]; exact hg, fun i y hy => ?_⟩
    rw [List.getElem?_set] at hy
    by_cases e : k = i
    · subst e
      rw [if_pos rfl, if_pos (by have := h.len; omega)] at hy
      obtain rfl := Option.some.inj hy
      have := c0 k x hx
      refine ⟨?_, World.cell?_setCell_same _ _ _ this.2⟩
      rw [World.cell?_setCell_other _ _ _ _ (fun e => by injection e with e1 e2; omega)]
      exact this.1
    · rw [if_neg e] at hy
      have := c0 i y hy
      refine ⟨?_, ?_⟩
      · rw [World.cell?_setCell_other _ _ _ _ (fun e => by injection e with e1 e2; omega)]
        exact this.1
      · rw [World.cell?_setCell_other _ _ _ _ (fun e' => by injection e' with e1 e2; omega)]
        exact this.2
/-- The second cells of two entries are written. -/
theorem Rs.put2 {w : World} {g o n : Nat} {l : List R} (h : Rs w (some ⟨g, o, none⟩) n l) {k : Nat} {x : R} (hx : l[k]? = some x) (a : Int) (ha : in64 a) (A : Option Addr) (m c : Nat) :
    Rs ((w.setCell ⟨g, o + k * 2, none⟩ (.int .i64 a)).setCell ⟨g, o + k * 2 + 1, none⟩ (.slice A m c)) (some ⟨g, o, none⟩) n (l.set k ⟨a, A, m, c⟩) := by
  have hk := get_len h hx
  refine ⟨by rw [List.length_set]; exact h.len, fun y hy => ?_, fun hn => ?_⟩
  · obtain ⟨j, hj⟩ := List.getElem?_of_mem hy
    rw [List.getElem?_set] at hj
    split at hj
    · split at hj
      · obtain rfl := Option.some.inj hj; exact ⟨ha, trivial⟩
      · cases hj
    · exact h.fit y (List.mem_of_getElem? hj)
  · obtain ⟨g', o', e, hg, c0⟩ := h.lies hn
    injection e with e
    injection e with e1 e2
    subst e1
    subst e2
    refine ⟨g, o, rfl, by rw [size_setP, size_setP]; exact hg, fun i y hy => ?_⟩
    rw [List.getElem?_set] at hy
    by_cases e : k = i
    · subst e
      rw [if_pos rfl, if_pos (by have := h.len; omega)] at hy
      obtain rfl := Option.some.inj hy
      have := c0 k x hx
      refine ⟨?_, World.cell?_setCell_same _ _ _ (u := x.s) ?_⟩
      · rw [World.cell?_setCell_other _ _ _ _ (fun e => by injection e with e1 e2; omega)]
        exact World.cell?_setCell_same _ _ _ this.1
      · rw [World.cell?_setCell_other _ _ _ _ (fun e => by injection e with e1 e2; omega)]
        exact this.2
    · rw [if_neg e] at hy
      have := c0 i y hy
      refine ⟨?_, ?_⟩
      · rw [World.cell?_setCell_other _ _ _ _ (fun e => by injection e with e1 e2; omega), World.cell?_setCell_other _ _ _ _ (fun e => by injection e with e1 e2; omega)]
        exact this.1
      · rw [World.cell?_setCell_other _ _ _ _ (fun e' => by injection e' with e1 e2; omega), World.cell?_setCell_other _ _ _ _ (fun e' => by injection e' with e1 e2; omega)]
        exact this.2
/-- The block of a slice that is owned and not empty. -/
theorem Ow.blk1 {w : World} {B : Nat} {v : Value} {n : Nat} {l : List R} (h : Ow w B v n l) (hn : 0 < n) : ∃ g c, v = .slice (some ⟨g, 0, none⟩) n c ∧ B ≤ g ∧ g < w.heap.size ∧ n ≤ c ∧ Fz w g := by
  rcases h.row.2 with ⟨_, e⟩ | ⟨g, cap, cur, rfl, hb, hg, hc, _⟩
  · omega
  · exact ⟨g, cap, rfl, hb, (Array.getElem?_eq_some_iff.1 hg).1, hc, cur, _, hg⟩
theorem Ow.ofEmpty {w : World} {B X : Nat} (hb : B ≤ X) (h : Blk w X 71 []) : Ow w B (.slice (some ⟨X, 0, none⟩) 0 0) 0 [] :=
  ⟨⟨rfl, .inr ⟨X, 0, #[], rfl, hb, h, Nat.le_refl _, Nat.zero_le _, rfl, rfl⟩⟩, fun _ h => by cases h⟩
end Rf
theorem OwI.ofEmpty {w : World} {B X : Nat} (hb : B ≤ X) (h : Blk w X 3 []) : OwI w B (.slice (some ⟨X, 0, none⟩) 0 0) 0 [] :=
  ⟨⟨rfl, .inr ⟨X, 0, #[], rfl, hb, h, Nat.le_refl _, Nat.zero_le _, rfl, rfl⟩⟩, fun _ h => by cases h⟩
theorem OwI.ofOne {w : World} {B X : Nat} {x : Int} (hb : B ≤ X) (hx : inI x) (h : Blk w X 3 [.int .i64 x]) : OwI w B (.slice (some ⟨X, 0, none⟩) 1 1) 1 [x] :=
  ⟨⟨rfl, .inr ⟨X, 1, #[.int .i64 x], rfl, hb, h, Nat.le_refl _, by simp only [maxLen]; omega, rfl, rfl⟩⟩, fun y hy => by obtain rfl := List.mem_singleton.1 hy; exact hx⟩
theorem OwI.at {w : World} {B n c : Nat} {A : Option Addr} {l : List Int} (h : OwI w B (.slice A n c) n l) : (A = none → c = 0) ∧ n ≤ c ∧ RsI w A n l ∧ ∀ ad, A = some ad → B ≤ ad.block ∧ ad.block < w.heap.size := by
  obtain ⟨A', c', e, r, h1, h2⟩ := h.rs
  injection e with e1 e2 e3
  subst e1
  subst e3
  refine ⟨h2, h1, r, fun ad e => ?_⟩
  subst e
  exact h.own ad.block rfl
namespace Prt
theorem Ents.nil (W : World) : Ents W [] [] := ⟨rfl, fun k e x h => by cases h⟩
theorem Ents.take {W : World} {es : List Rf.R} {L : List Q} (h : Ents W es L) (i : Nat) : Ents W (es.take i) (L.take i) :=
  ⟨by simp [h.len], fun k e x he hx => by
    rw [List.getElem?_take] at he hx
    split at he
    · rename_i c; rw [if_pos c] at hx; exact h.each k e x he hx
    · cases he⟩
theorem Ents.drop {W : World} {es : List Rf.R} {L : List Q} (h : Ents W es L) (i : Nat) : Ents W (es.drop i) (L.drop i) :=
  ⟨by simp [h.len], fun k e x he hx => by
    rw [List.getElem?_drop] at he hx
    exact h.each _ e x he hx⟩
theorem Ents.app {W : World} {es fs : List Rf.R} {L M : List Q} (h : Ents W es L) (k : Ents W fs M) : Ents W (es ++ fs) (L ++ M) :=
  ⟨by simp [h.len, k.len], fun i e x he hx => by
    rw [List.getElem?_append] at he hx
    have := h.len
    by_cases c : i < es.length
    · rw [if_pos c] at he; rw [if_pos (by omega)] at hx; exact h.each i e x he hx
    · rw [if_neg c] at he; rw [if_neg (by omega)] at hx
      rw [← this] at hx
      exact k.each _ e x he hx⟩
/-- One entry. -/
def Ent1 (W : World) (e : Rf.R) (x : Q) : Prop := e.a = (x.page : Int) ∧ e.m = x.free.length ∧ RsI W e.A e.m (NI x.free) ∧ (e.A = none → e.c = 0) ∧ e.m ≤ e.c
theorem Ents.one {W : World} {e : Rf.R} {x : Q} (h : Ent1 W e x) : Ents W [e] [x] :=
  ⟨rfl, fun k e' x' he hx => by
    cases k with
    | zero =>
      simp only [List.getElem?_cons_zero, Option.some.injEq] at he hx
      subst he
      subst hx
      exact h
    | succ k => cases he⟩
theorem Ents.set {W : World} {es : List Rf.R} {L : List Q} (h : Ents W es L) {k : Nat} {e : Rf.R} {x : Q} (h1 : Ent1 W e x) : Ents W (es.set k e) (L.set k x) :=
  ⟨by simp [h.len], fun i e' x' he hx => by
    rw [List.getElem?_set] at he hx
    by_cases c : k = i
    · rw [if_pos c] at he hx
      split at he
      · rename_i c'
        rw [if_pos (by have := h.len; omega)] at hx
        obtain rfl := Option.some.inj he
        obtain rfl := Option.some.inj hx
        exact h1
      · cases he
    · rw [if_neg c] at he hx
      exact h.each i e' x' he hx⟩
/-- G, and what came since. -/
def Gn (G : Nat → Prop) (W W' : World) (b : Nat) : Prop := G b ∨ (W.heap.size ≤ b ∧ b < W'.heap.size)
/-- What a call leaves of the document's pool. -/
def RpN (W : World) (q c P : Nat) (L : List Q) (G : Nat → Prop) (W' : World) : Prop := RpX W' q c P L (Gn G W W') ∧ Kept (Only q) W W'
theorem RpX.more {W : World} {q c P : Nat} {L : List Q} {G G' : Nat → Prop} (h : RpX W q c P L G) (hG : ∀ b, G b → G' b) (hl : ∀ b, G' b → b < W.heap.size) : RpX W q c P L G' := by
  obtain ⟨A, cap, es, r⟩ := h
  exact ⟨A, cap, es, r.box, r.rs, r.sh, r.cp, r.en, hG _ r.gq, fun ad e => ⟨hG _ (r.gA ad e).1, (r.gA ad e).2⟩, fun e he ad e' => ⟨hG _ (r.gE e he ad e').1, (r.gE e he ad e').2⟩, hl⟩
theorem Rp.same {W : World} {q c P : Nat} {L : List Q} {A : Option Addr} {cap : Nat} {es : List Rf.R} {G : Nat → Prop} (h : Rp W q c P L A cap es G) {W' : World} (k : Kept Old W W') : RpN W q c P L G W' :=
  ⟨RpX.more ⟨A, cap, es, h.old k⟩ (fun b hb => .inl hb) (fun b hb => by
    rcases hb with hb | hb
    · exact Nat.lt_of_lt_of_le (h.lt b hb) k.size
    · exact hb.2), k.any⟩
/-- Behind a call that wrote q's third cell and made the rest anew. -/
theorem Rp.next {W : World} {q c P : Nat} {L : List Q} {A : Option Addr} {cap : Nat} {es : List Rf.R} {G : Nat → Prop} (h : Rp W q c P L A cap es G) {W' : World} (K : Kept (Only q) W W') {L' : List Q} {A' : Option Addr} {cap' : Nat} {es' : List Rf.R}
    (box : Blk W' q 30 [.int .i64 (c : Int), .int .i64 (P : Int), .slice A' L'.length cap']) (rs : Rf.Rs W' A' L'.length es') (sh : (A' = none ∧ cap' = 0) ∨ ∃ g o, A' = some ⟨g, o, none⟩) (cp : L'.length ≤ cap') (en : Ents W' es' L')
    (hA : ∀ ad, A' = some ad → W.heap.size ≤ ad.block ∧ ad.block < W'.heap.size) (hE : ∀ e ∈ es', e ∈ es ∨ ∀ ad, e.A = some ad → W.heap.size ≤ ad.block ∧ ad.block < W'.heap.size) : RpN W q c P L' G W' :=
  have hq := h.lt q h.gq
  ⟨⟨A', cap', es', box, rs, sh, cp, en, .inl h.gq, fun ad e => ⟨.inr (hA ad e), by have := hA ad e; omega⟩, fun e he ad e' => by
    rcases hE e he with m | m
    · exact ⟨.inl (h.gE e m ad e').1, (h.gE e m ad e').2⟩
    · exact ⟨.inr (m ad e'), by have := m ad e'; omega⟩, fun b hb => by
    rcases hb with hb | hb
    · exact Nat.lt_of_lt_of_le (h.lt b hb) K.size
    · exact hb.2⟩, K⟩
/-- The old entries, behind a call that turned q alone. -/
theorem Rp.ents {W : World} {q c P : Nat} {L : List Q} {A : Option Addr} {cap : Nat} {es : List Rf.R} {G : Nat → Prop} (h : Rp W q c P L A cap es G) {W' : World} (K : Kept (Only q) W W') : Ents W' es L :=
  h.en.kept K fun e he ad e' => (h.gE e he ad e').2
/-- q's third cell is written. -/
theorem Rp.box2 {W : World} {q c P : Nat} {L : List Q} {A : Option Addr} {cap : Nat} {es : List Rf.R} {G : Nat → Prop} (h : Rp W q c P L A cap es G) {W1 : World} (K : Kept Old W W1) (v : Value) : Blk (W1.setCell ⟨q, 2, none⟩ v) q 30 [.int .i64 (c : Int), .int .i64 (P : Int), v] :=
  (h.box.kept K (fun x => x)).put 2 v
end Prt
end Go.Proofs.Ytcaongcpfepcjaa
