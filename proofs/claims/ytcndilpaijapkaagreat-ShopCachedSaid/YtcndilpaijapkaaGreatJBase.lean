/-
  Joined texts of Base; own work.
-/
import Derived.Test.YtcndilpaijapkaaGreatRows
import Derived.Below
import Derived.Laws.OwnMore
import Derived.Laws.Rows
import Derived.Laws.CopyOwn
import Derived.Deep.Draws
import Derived.Deep.OwnRows
import Derived.Deep.AppendLies
import Derived.Lib.Hide
import Derived.OpenShut
import Derived.ChangeOld
import Derived.Deep.Grids
import Derived.Lib.SmallJoins
import Derived.Deep.Slices
import Derived.SizedLaws
import Derived.WalkKit
import Derived.OwnWalk
/- Words for memory: a frame (Kept): which blocks may have turned; a block that is known whole (Blk). Own work; no program is walked here. -/
namespace Go.Proofs.YtcndilpaijapkaaGreat
open Go.RowKit

/-! ### Frames -/
/-- What was there, and is none of D, is as it was; the streams are as they were. -/
structure Kept (D : Nat → Prop) (w w' : World) : Prop where
  os : w'.os = w.os
  tape : w'.tape = w.tape
  output : w'.output = w.output
  size : w.heap.size ≤ w'.heap.size
  block : ∀ k, k < w.heap.size → ¬ D k → w'.heap[k]? = w.heap[k]?
/-- Nothing that was there has turned. -/
abbrev Old (_ : Nat) : Prop := False
theorem Kept.refl (D : Nat → Prop) (w : World) : Kept D w w := ⟨rfl, rfl, rfl, Nat.le_refl _, fun _ _ _ => rfl⟩
theorem Kept.trans {D : Nat → Prop} {a b c : World} (h : Kept D a b) (k : Kept D b c) : Kept D a c :=
  ⟨k.os.trans h.os, k.tape.trans h.tape, k.output.trans h.output, Nat.le_trans h.size k.size, fun i hi hd => (k.block i (Nat.lt_of_lt_of_le hi h.size) hd).trans (h.block i hi hd)⟩
/-- The second step may turn what the first one made. -/
theorem Kept.join {D E : Nat → Prop} {a b c : World} (h : Kept D a b) (k : Kept E b c) (he : ∀ i, i < a.heap.size → E i → D i) : Kept D a c :=
  ⟨k.os.trans h.os, k.tape.trans h.tape, k.output.trans h.output, Nat.le_trans h.size k.size, fun i hi hd => (k.block i (Nat.lt_of_lt_of_le hi h.size) (fun e => hd (he i hi e))).trans (h.block i hi hd)⟩
theorem Kept.mono {D E : Nat → Prop} {a b : World} (h : Kept D a b) (he : ∀ i, D i → E i) : Kept E a b := ⟨h.os, h.tape, h.output, h.size, fun i hi hd => h.block i hi (fun x => hd (he i x))⟩
theorem Kept.any {D : Nat → Prop} {a b : World} (h : Kept Old a b) : Kept D a b := h.mono fun _ x => x.elim
theorem Kept.drew {D : Nat → Prop} {a w : World} (h : Kept D a w) : Kept D a w.drew := ⟨h.os, h.tape, h.output, h.size, h.block⟩
theorem Kept.drewN {D : Nat → Prop} {a w : World} (h : Kept D a w) (n : Nat) : Kept D a (w.drewN n) := ⟨h.os, h.tape, h.output, h.size, h.block⟩
theorem Kept.alloc {D : Nat → Prop} {a w : World} (h : Kept D a w) (o : Obj) : Kept D a (w.alloc o) :=
  h.trans ⟨rfl, rfl, rfl, by simp, fun k hk _ => Below.heap_alloc _ _ _ hk⟩
theorem Kept.setCell {D : Nat → Prop} {a w : World} (h : Kept D a w) {p : Addr} (hp : p.block < a.heap.size → D p.block) (u : Value) : Kept D a (w.setCell p u) :=
  h.join (E := fun i => i = p.block) ⟨rfl, rfl, rfl, by simp [World.setCell], fun k _ hd => Below.heap_setCell _ _ _ _ hd⟩ (fun i hi e => by subst e; exact hp hi)
theorem Kept.setRow {D : Nat → Prop} {a w : World} (h : Kept D a w) {g : Nat} (hp : g < a.heap.size → D g) (cs : Array Value) : Kept D a (w.setRow g cs) :=
  h.join (E := fun i => i = g) ⟨rfl, rfl, rfl, by simp [World.setRow], fun k _ hd => setRow_other w g k cs hd⟩ (fun i hi e => by subst e; exact hp hi)
theorem Kept.grown {D : Nat → Prop} {a w w' : World} {row : Option Nat} (h : Kept D a w) (hg : w.grownBy w' row) (hr : ∀ g, row = some g → g < a.heap.size → D g) : Kept D a w' :=
  h.join (E := fun i => some i = row) ⟨hg.os, hg.tape, hg.output, hg.size, fun k hk hd => hg.block k hk hd⟩ (fun i hi e => hr i e.symm hi)
theorem Kept.below {D : Nat → Prop} {B : Nat} {a b c : World} (h : Below B a b) (k : Kept D b c) (hB : B ≤ b.heap.size) (hd : ∀ i, D i → B ≤ i) : Below B a c :=
  h.trans ⟨k.os, k.tape, k.output, k.size, fun i hi => k.block i (by omega) (fun x => by have := hd i x; omega)⟩
theorem Kept.toBelow {D : Nat → Prop} {B : Nat} {b c : World} (k : Kept D b c) (hB : B ≤ b.heap.size) (hd : ∀ i, D i → B ≤ i) : Below B b c := Kept.below (Below.refl _ _) k hB hd
theorem Kept.ofBelow {a b : World} (h : Below a.heap.size a b) (D : Nat → Prop) : Kept D a b := ⟨h.os, h.tape, h.output, h.size, fun i hi _ => h.block i hi⟩
theorem Kept.cell {D : Nat → Prop} {a b : World} (h : Kept D a b) {p : Addr} (hp : p.block < a.heap.size) (hd : ¬ D p.block) : b.cell? p = a.cell? p := World.cell?_of_block (w := a) (h.block p.block hp hd)

/-- Only block g, and what is new, may have turned. -/
abbrev Only (g : Nat) (k : Nat) : Prop := k = g
theorem only_setCell (w : World) (g k : Nat) (u : Value) : Kept (Only g) w (w.setCell ⟨g, k, none⟩ u) := Kept.setCell (D := Only g) (Kept.refl _ _) (fun _ => rfl) u
theorem only_setRow (w : World) (g : Nat) (cs : Array Value) : Kept (Only g) w (w.setRow g cs) := Kept.setRow (D := Only g) (Kept.refl _ _) (fun _ => rfl) cs
theorem addr_add (g o n : Nat) : (⟨g, o, none⟩ : Addr).add n = ⟨g, o + n, none⟩ := by
  unfold Addr.add
  by_cases c : n = 0 <;> simp [c]

/-! ### A block that is known whole -/
/-- Block g is just these cells, of element type t; none is frozen. -/
def Blk (w : World) (g : Nat) (t : TypeId) (cs : List Value) : Prop := w.heap[g]? = some (.cells cs.toArray t (0, 0))
theorem Blk.lt {w : World} {g : Nat} {t : TypeId} {cs : List Value} (h : Blk w g t cs) : g < w.heap.size := by
  rcases Nat.lt_or_ge g w.heap.size with c | c
  · exact c
  · unfold Blk at h; rw [Array.getElem?_eq_none c] at h; cases h
theorem Blk.cell {w : World} {g : Nat} {t : TypeId} {cs : List Value} (h : Blk w g t cs) (i : Nat) : w.cell? ⟨g, i, none⟩ = cs[i]? := by
  rw [cell_of_row w g i cs.toArray t (0, 0) h]; simp
theorem Blk.frozen {w : World} {g : Nat} {t : TypeId} {cs : List Value} (h : Blk w g t cs) (i : Nat) : w.frozen? ⟨g, i, none⟩ = false := frozen_of_row w g i _ t h
theorem Blk.kept {D : Nat → Prop} {w w' : World} {g : Nat} {t : TypeId} {cs : List Value} (h : Blk w g t cs) (k : Kept D w w') (hd : ¬ D g) : Blk w' g t cs := (k.block g h.lt hd).trans h
theorem Blk.below {B : Nat} {w w' : World} {g : Nat} {t : TypeId} {cs : List Value} (h : Blk w g t cs) (k : Below B w w') (hd : g < B) : Blk w' g t cs := (k.block g hd).trans h
theorem Blk.new (w : World) (t : TypeId) (cs : List Value) : Blk (w.alloc (.cells cs.toArray t)) w.heap.size t cs := heap_alloc_new w _
theorem Blk.alloc {w : World} {g : Nat} {t : TypeId} {cs : List Value} (h : Blk w g t cs) (o : Obj) : Blk (w.alloc o) g t cs := (Below.heap_alloc w o g h.lt).trans h
theorem Blk.drew {w : World} {g : Nat} {t : TypeId} {cs : List Value} (h : Blk w g t cs) : Blk w.drew g t cs := h
theorem Blk.drewN {w : World} {g : Nat} {t : TypeId} {cs : List Value} (h : Blk w g t cs) (n : Nat) : Blk (w.drewN n) g t cs := h
theorem Blk.far {w : World} {g : Nat} {t : TypeId} {cs : List Value} (h : Blk w g t cs) {p : Addr} (hp : g ≠ p.block) (u : Value) : Blk (w.setCell p u) g t cs := (Below.heap_setCell w p u g hp).trans h
theorem Blk.put {w : World} {g : Nat} {t : TypeId} {cs : List Value} (h : Blk w g t cs) (i : Nat) (u : Value) : Blk (w.setCell ⟨g, i, none⟩ u) g t (cs.set i u) := by
  unfold Blk at h ⊢
  have e : (cs.set i u).toArray = cs.toArray.setIfInBounds i u := by simp
  rw [e]
  simp [World.setCell, Array.getElem?_modify, h]
theorem Blk.ne {w : World} {g g' : Nat} {t t' : TypeId} {cs cs' : List Value} (h : Blk w g t cs) (h' : Blk w g' t' cs') (n : t ≠ t') : g ≠ g' := by
  rintro rfl
  unfold Blk at h h'
  rw [h] at h'
  injection h' with h'
  injection h' with _ e
  exact n e

abbrev ptr (p : Nat) : Value := .pointer (some ⟨p, 0, none⟩)
end Go.Proofs.YtcndilpaijapkaaGreat
/- What a law's arguments are, as a walk wants them: slices of one-cell elements or of structs of them, by their cells (Sl). Own work; no program is walked here. -/
namespace Go.Proofs.YtcndilpaijapkaaGreat
open Go.ChangeShapes Go.WideShapes Go.ChangeAt Go.RowKit Go.Deep

/-- The slice at A has n elements of k cells each: V i j is cell j of element i. -/
structure Sl (w : World) (A : Option Addr) (k n : Nat) (V : Nat → Nat → Value) : Prop where
  lies : 0 < n → ∃ g o, A = some ⟨g, o, none⟩ ∧ g < w.heap.size ∧ ∀ i j, i < n → j < k → w.cell? ⟨g, o + (i * k + j), none⟩ = some (V i j)
theorem Sl.kept {D : Nat → Prop} {w w' : World} {A : Option Addr} {k n : Nat} {V : Nat → Nat → Value} (h : Sl w A k n V) (q : Kept D w w') (hd : ∀ ad, A = some ad → ¬ D ad.block) : Sl w' A k n V :=
  ⟨fun hn => by
    obtain ⟨g, o, rfl, hg, c⟩ := h.lies hn
    have hd' : ¬ D g := hd _ rfl
    exact ⟨g, o, rfl, Nat.lt_of_lt_of_le hg q.size, fun i j hi hj => (q.cell (p := ⟨g, o + (i * k + j), none⟩) hg hd').trans (c i j hi hj)⟩⟩
theorem Sl.old {w w' : World} {A : Option Addr} {k n : Nat} {V : Nat → Nat → Value} (h : Sl w A k n V) (q : Kept Old w w') : Sl w' A k n V := h.kept q fun _ _ x => x

/-- A slice of bools that came in. -/
theorem bools_in {H : Type} {enc : TypeId × Value → H} {P : Program} {w : World} {t e : TypeId} {a : Option Addr} {len cap : Nat} {d : DataW H} {p : List MemPlace} (ht : P.underlying t = some (.slice e)) (he : P.underlying e = some .bool) (hc : P.cellsOf e = 1)
    (h : DataW.Trod enc P w 0 (fun _ => true) true t (.slice a len cap) d p) : ∃ z : Nat → Bool, len ≤ cap ∧ cap ≤ maxLen ∧ Sl w a 1 len fun i _ => .bool (z i) := by
  obtain ⟨fuel, hf⟩ := h
  rcases open_bools ht he hc hf with ⟨hcs, _⟩ | ⟨x, l, c, B, hcs, _, hl, hm, _, hcell⟩
  · simp [Value.cells] at hcs
    obtain ⟨rfl, rfl, rfl⟩ := hcs
    exact ⟨fun _ => false, Nat.le_refl _, Nat.zero_le _, ⟨fun h => absurd h (Nat.lt_irrefl 0)⟩⟩
  · simp [Value.cells] at hcs
    obtain ⟨rfl, rfl, rfl⟩ := hcs
    refine ⟨B, hl, hm, ⟨fun hn => ?_⟩⟩
    obtain ⟨b, o, s⟩ := x
    have c0 := hcell 0 (by omega)
    have hs : s = none := by simpa [Addr.add] using World.cell?_spot c0
    subst hs
    refine ⟨b, o, rfl, ?_, fun i j hi hj => ?_⟩
    · have := block_lt_of_cell c0
      rw [addr_add] at this
      exact this
    · obtain rfl : j = 0 := by omega
      have c := hcell i (by omega)
      rw [addr_add] at c
      simpa using c
end Go.Proofs.YtcndilpaijapkaaGreat
/- How many bytes a slice takes that came in as a law's argument. Own work; no program is walked here. -/
namespace Go.Proofs.YtcndilpaijapkaaGreat
open Go.ChangeShapes Go.WideShapes Go.ChangeAt Go.RowKit Go.Deep
/-- A slice that came in is nil, or its datum has as many elements as it has room. -/
theorem slice_size {H : Type} {enc : TypeId × Value → H} {P : Program} {w : World} {t e : TypeId} {a : Option Addr} {len cap : Nat} {d : DataW H} {p : List MemPlace} (ht : P.underlying t = some (.slice e))
    (h : DataW.Trod enc P w 0 (fun _ => true) true t (.slice a len cap) d p) : (len = 0 ∧ cap = 0) ∨ (a ≠ none ∧ ∃ elems spare, d = .slice elems spare ∧ elems.length + spare.length = cap) := by
  obtain ⟨fuel, hf⟩ := h
  rcases Deep.open_slice ht hf with ⟨hcs, _⟩ | ⟨x, l, c, m, n, D, Pl, hcs, _, hl, hm, hmm, hd, hx⟩
  · simp [Value.cells] at hcs
    obtain ⟨rfl, rfl, rfl⟩ := hcs
    exact .inl ⟨rfl, rfl⟩
  · simp [Value.cells] at hcs
    obtain ⟨rfl, rfl, rfl⟩ := hcs
    simp only [if_true] at hmm
    subst hmm
    injection hd with hd _
    exact .inr ⟨(fun h => by cases h), _, _, hd, by simp; omega⟩
/-- What that pays: its bytes, and that a nil one is empty. -/
theorem slice_reach {H : Type} {enc : TypeId × Value → H} {P : Program} {w : World} {t e : TypeId} {a : Option Addr} {len cap by_ : Nat} {d : DataW H} {p : List MemPlace} {ts : List TypeId} {ds : List (DataW H)} {j : Nat} (ht : P.underlying t = some (.slice e)) (hb : P.bytesOf e = by_)
    (h : DataW.Trod enc P w 0 (fun _ => true) true t (.slice a len cap) d p) (hsz : (DataW.weightsEach P ts ds).all (· ≤ reachBytes) = true) (hj : ts[j]? = some t) (hd : ds[j]? = some d) :
    cap * by_ ≤ 140737488351232 ∧ (a = none → len = 0 ∧ cap = 0) := by
  rcases slice_size ht h with ⟨e1, e2⟩ | ⟨na, es, sp, rfl, e1⟩
  · subst e1
    subst e2
    exact ⟨by simp, fun _ => ⟨rfl, rfl⟩⟩
  · have := sized_slice hsz hj hd ht
    rw [e1, hb] at this
    exact ⟨this, fun h => absurd h na⟩
end Go.Proofs.YtcndilpaijapkaaGreat
/- A slice of integers that came in as a law's argument, by its cells. Own work; no program is walked here. -/
namespace Go.Proofs.YtcndilpaijapkaaGreat
open Go.ChangeShapes Go.WideShapes Go.ChangeAt Go.RowKit Go.Deep
/-- A slice of integers that came in. -/
theorem ints_in {H : Type} {enc : TypeId × Value → H} {P : Program} {w : World} {t e : TypeId} {kd : IntKind} {a : Option Addr} {len cap : Nat} {d : DataW H} {p : List MemPlace} (ht : P.underlying t = some (.slice e)) (he : P.underlying e = some (.int kd)) (hc : P.cellsOf e = 1)
    (h : DataW.Trod enc P w 0 (fun _ => true) true t (.slice a len cap) d p) : ∃ z : Nat → Int, len ≤ cap ∧ cap ≤ maxLen ∧ (∀ i, i < len → (Lit.int kd (z i)).wf = true) ∧ Sl w a 1 len fun i _ => .int kd (z i) := by
  obtain ⟨fuel, hf⟩ := h
  rcases Deep.open_slice1 ht hc hf with ⟨hcs, _⟩ | ⟨x, l, c, m, n, V, D, Pl, hcs, _, hl, hm, hmm, _, hcell⟩
  · simp [Value.cells] at hcs
    obtain ⟨rfl, rfl, rfl⟩ := hcs
    exact ⟨fun _ => 0, Nat.le_refl _, Nat.zero_le _, fun i hi => absurd hi (Nat.not_lt_zero _), ⟨fun h => absurd h (Nat.lt_irrefl 0)⟩⟩
  · simp [Value.cells] at hcs
    obtain ⟨rfl, rfl, rfl⟩ := hcs
    simp only [if_true] at hmm
    subst hmm
    have each : ∀ i, i < len → ∃ z : Int, (Lit.int kd z).wf = true ∧ w.cell? (x.add i) = some (.int kd z) := by
      intro i hi
      obtain ⟨c0, t0⟩ := hcell i (by omega)
      obtain ⟨z, e0, _, f0⟩ := DataW.trod_int he t0
      rw [List.head_eq_of_cons_eq e0] at c0
      exact ⟨z, f0, c0⟩
    obtain ⟨q, hq⟩ := Deep.choose_lt each
    refine ⟨q, hl, hm, fun i hi => (hq i hi).1, ⟨fun hn => ?_⟩⟩
    obtain ⟨b, o, s⟩ := x
    have c0 := (hq 0 (by omega)).2
    have hs : s = none := by simpa [Addr.add] using World.cell?_spot c0
    subst hs
    refine ⟨b, o, rfl, ?_, fun i j hi hj => ?_⟩
    · have := block_lt_of_cell c0
      rw [addr_add] at this
      exact this
    · obtain rfl : j = 0 := by omega
      have c := (hq i (by omega)).2
      rw [addr_add] at c
      simpa using c
end Go.Proofs.YtcndilpaijapkaaGreat
/- Cells laid over those of a block. Own work; no program is walked here. -/
namespace Go.Proofs.YtcndilpaijapkaaGreat
open Go.RowKit

/-- Cells cs laid over those from o on. -/
def over (cur : List Value) (o : Nat) (cs : List Value) : List Value := cur.take o ++ cs ++ cur.drop (o + cs.length)
theorem over_length {cur cs : List Value} {o : Nat} (h : o + cs.length ≤ cur.length) : (over cur o cs).length = cur.length := by
  simp [over]; omega
theorem Blk.cells {g : Nat} {t : TypeId} : ∀ (cs cur : List Value) (o : Nat) (w : World), Blk w g t cur → o + cs.length ≤ cur.length → Blk (w.setCells g o cs) g t (over cur o cs)
  | [], cur, o, w, h, _ => by simpa [over, World.setCells] using h
  | v :: r, cur, o, w, h, k => by
    have hl : o + (r.length + 1) ≤ cur.length := by simpa using k
    have h1 := h.put o v
    have := Blk.cells r (cur.set o v) (o + 1) _ h1 (by simp; omega)
    have e : over (cur.set o v) (o + 1) r = over cur o (v :: r) := by
      unfold over
      rw [List.take_set, List.drop_set_of_lt (by omega), List.take_succ_eq_append_getElem (by omega), List.set_append_right _ _ (by simp; omega)]
      have : o - (List.take o cur).length = 0 := by simp; omega
      rw [this]
      simp [show o + 1 + r.length = o + (r.length + 1) by omega]
    rw [e] at this
    exact this
theorem kept_cells (g : Nat) : ∀ (cs : List Value) (o : Nat) (w : World), Kept (Only g) w (w.setCells g o cs)
  | [], _, w => Kept.refl _ w
  | v :: r, o, w => (only_setCell w g o v).trans (kept_cells g r (o + 1) _)
theorem Blk.mem {w : World} {g : Nat} {t : TypeId} {cur : List Value} (h : Blk w g t cur) {i : Nat} (k : i < cur.length) : (w.cell? ⟨g, i, none⟩).isSome = true := by
  rw [h.cell, List.getElem?_eq_getElem k]; rfl
theorem over_at (a : Nat) (A M D r : List Value) (hA : A.length = a) : over (A ++ M ++ r) a D = A ++ D ++ (M ++ r).drop D.length := by
  subst hA
  simp [over, List.drop_append]
end Go.Proofs.YtcndilpaijapkaaGreat
