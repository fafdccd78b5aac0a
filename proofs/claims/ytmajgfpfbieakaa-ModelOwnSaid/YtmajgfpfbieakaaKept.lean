/-
  Words for memory: a frame (Kept): which blocks may have turned; a block that is known whole (Blk). Own work; no program is walked here.
-/
import Derived.Test.YtmajgfpfbieakaaRows
import Derived.Below
import Derived.Laws.OwnMore
import Derived.Laws.Rows
import Derived.Laws.CopyOwn
import Derived.Deep.Draws
import Derived.Deep.OwnRows
import Derived.Deep.AppendLies
import Derived.Lib.Hide
namespace Go.Proofs.Ytmajgfpfbieakaa
open Go.RowKit

/-! ### Frames -/
/-- What was there, and is none of D, is as it was; the streams are as they were. -/
structure Kept (D : Nat → Prop) (w w' : World) : Prop where
  os : w'.os = w.os
  tape : w'.tape = w.tape
  output : w'.output = w.output
  size : w.heap.size ≤ w'.heap.size
  block : ∀ k, k < w.heap.size → ¬ D k → w'.heap[k]? = w.heap[k]?
/-- Nothing that was there has turned. -/
abbrev Old (_ : Nat) : Prop := False
theorem Kept.refl (D : Nat → Prop) (w : World) : Kept D w w := ⟨rfl, rfl, rfl, Nat.le_refl _, fun _ _ _ => rfl⟩
theorem Kept.trans {D : Nat → Prop} {a b c : World} (h : Kept D a b) (k : Kept D b c) : Kept D a c :=
  ⟨k.os.trans h.os, k.tape.trans h.tape, k.output.trans h.output, Nat.le_trans h.size k.size, fun i hi hd => (k.block i (Nat.lt_of_lt_of_le hi h.size) hd).trans (h.block i hi hd)⟩
/-- The second step may turn what the first one made. -/
theorem Kept.join {D E : Nat → Prop} {a b c : World} (h : Kept D a b) (k : Kept E b c) (he : ∀ i, i < a.heap.size → E i → D i) : Kept D a c :=
  ⟨k.os.trans h.os, k.tape.trans h.tape, k.output.trans h.output, Nat.le_trans h.size k.size, fun i hi hd => (k.block i (Nat.lt_of_lt_of_le hi h.size) (fun e => hd (he i hi e))).trans (h.block i hi hd)⟩
theorem Kept.mono {D E : Nat → Prop} {a b : World} (h : Kept D a b) (he : ∀ i, D i → E i) : Kept E a b := ⟨h.os, h.tape, h.output, h.size, fun i hi hd => h.block i hi (fun x => hd (he i x))⟩
theorem Kept.any {D : Nat → Prop} {a b : World} (h : Kept Old a b) : Kept D a b := h.mono fun _ x => x.elim
theorem Kept.drew {D : Nat → Prop} {a w : World} (h : Kept D a w) : Kept D a w.drew := ⟨h.os, h.tape, h.output, h.size, h.block⟩
theorem Kept.drewN {D : Nat → Prop} {a w : World} (h : Kept D a w) (n : Nat) : Kept D a (w.drewN n) := ⟨h.os, h.tape, h.output, h.size, h.block⟩
theorem Kept.alloc {D : Nat → Prop} {a w : World} (h : Kept D a w) (o : Obj) : Kept D a (w.alloc o) :=
  h.trans ⟨rfl, rfl, rfl, by simp, fun k hk _ => Below.heap_alloc _ _ _ hk⟩
theorem Kept.setCell {D : Nat → Prop} {a w : World} (h : Kept D a w) {p : Addr} (hp : p.block < a.heap.size → D p.block) (u : Value) : Kept D a (w.setCell p u) :=
  h.join (E := fun i => i = p.block) ⟨rfl, rfl, rfl, by simp [World.setCell], fun k _ hd => Below.heap_setCell _ _ _ _ hd⟩ (fun i hi e => by subst e; exact hp hi)
theorem Kept.setRow {D : Nat → Prop} {a w : World} (h : Kept D a w) {g : Nat} (hp : g < a.heap.size → D g) (cs : Array Value) : Kept D a (w.setRow g cs) :=
  h.join (E := fun i => i = g) ⟨rfl, rfl, rfl, by simp [World.setRow], fun k _ hd => setRow_other w g k cs hd⟩ (fun i hi e => by subst e; exact hp hi)
theorem Kept.grown {D : Nat → Prop} {a w w' : World} {row : Option Nat} (h : Kept D a w) (hg : w.grownBy w' row) (hr : ∀ g, row = some g → g < a.heap.size → D g) : Kept D a w' :=
  h.join (E := fun i => some i = row) ⟨hg.os, hg.tape, hg.output, hg.size, fun k hk hd => hg.block k hk hd⟩ (fun i hi e => hr i e.symm hi)
theorem Kept.below {D : Nat → Prop} {B : Nat} {a b c : World} (h : Below B a b) (k : Kept D b c) (hB : B ≤ b.heap.size) (hd : ∀ i, D i → B ≤ i) : Below B a c :=
  h.trans ⟨k.os, k.tape, k.output, k.size, fun i hi => k.block i (by omega) (fun x => by have := hd i x; omega)⟩
theorem Kept.toBelow {D : Nat → Prop} {B : Nat} {b c : World} (k : Kept D b c) (hB : B ≤ b.heap.size) (hd : ∀ i, D i → B ≤ i) : Below B b c := Kept.below (Below.refl _ _) k hB hd
theorem Kept.ofBelow {a b : World} (h : Below a.heap.size a b) (D : Nat → Prop) : Kept D a b := ⟨h.os, h.tape, h.output, h.size, fun i hi _ => h.block i hi⟩
theorem Kept.cell {D : Nat → Prop} {a b : World} (h : Kept D a b) {p : Addr} (hp : p.block < a.heap.size) (hd : ¬ D p.block) : b.cell? p = a.cell? p := World.cell?_of_block (w := a) (h.block p.block hp hd)

/-- Only block g, and what is new, may have turned. -/
abbrev Only (g : Nat) (k : Nat) : Prop := k = g
theorem only_setCell (w : World) (g k : Nat) (u : Value) : Kept (Only g) w (w.setCell ⟨g, k, none⟩ u) := Kept.setCell (D := Only g) (Kept.refl _ _) (fun _ => rfl) u
theorem only_setRow (w : World) (g : Nat) (cs : Array Value) : Kept (Only g) w (w.setRow g cs) := Kept.setRow (D := Only g) (Kept.refl _ _) (fun _ => rfl) cs
theorem addr_add (g o n : Nat) : (⟨g, o, none⟩ : Addr).add n = ⟨g, o + n, none⟩ := by
  unfold Addr.add
  by_cases c : n = 0 <;> simp [c]

/-! ### A block that is known whole -/
/-- Block g is just these cells, of element type t; none is frozen. -/
def Blk (w : World) (g : Nat) (t : TypeId) (cs : List Value) : Prop := w.heap[g]? = some (.cells cs.toArray t (0, 0))
theorem Blk.lt {w : World} {g : Nat} {t : TypeId} {cs : List Value} (h : Blk w g t cs) : g < w.heap.size := by
  rcases Nat.lt_or_ge g w.heap.size with c | c
  · exact c
  · unfold Blk at h; rw [Array.getElem?_eq_none c] at h; cases h
theorem Blk.cell {w : World} {g : Nat} {t : TypeId} {cs : List Value} (h : Blk w g t cs) (i : Nat) : w.cell? ⟨g, i, none⟩ = cs[i]? := by
  rw [cell_of_row w g i cs.toArray t (0, 0) h]; simp
theorem Blk.frozen {w : World} {g : Nat} {t : TypeId} {cs : List Value} (h : Blk w g t cs) (i : Nat) : w.frozen? ⟨g, i, none⟩ = false := frozen_of_row w g i _ t h
theorem Blk.kept {D : Nat → Prop} {w w' : World} {g : Nat} {t : TypeId} {cs : List Value} (h : Blk w g t cs) (k : Kept D w w') (hd : ¬ D g) : Blk w' g t cs := (k.block g h.lt hd).trans h
theorem Blk.below {B : Nat} {w w' : World} {g : Nat} {t : TypeId} {cs : List Value} (h : Blk w g t cs) (k : Below B w w') (hd : g < B) : Blk w' g t cs := (k.block g hd).trans h
theorem Blk.new (w : World) (t : TypeId) (cs : List Value) : Blk (w.alloc (.cells cs.toArray t)) w.heap.size t cs := heap_alloc_new w _
theorem Blk.alloc {w : World} {g : Nat} {t : TypeId} {cs : List Value} (h : Blk w g t cs) (o : Obj) : Blk (w.alloc o) g t cs := (Below.heap_alloc w o g h.lt).trans h
theorem Blk.drew {w : World} {g : Nat} {t : TypeId} {cs : List Value} (h : Blk w g t cs) : Blk w.drew g t cs := h
theorem Blk.drewN {w : World} {g : Nat} {t : TypeId} {cs : List Value} (h : Blk w g t cs) (n : Nat) : Blk (w.drewN n) g t cs := h
theorem Blk.far {w : World} {g : Nat} {t : TypeId} {cs : List Value} (h : Blk w g t cs) {p : Addr} (hp : g ≠ p.block) (u : Value) : Blk (w.setCell p u) g t cs := (Below.heap_setCell w p u g hp).trans h
theorem Blk.put {w : World} {g : Nat} {t : TypeId} {cs : List Value} (h : Blk w g t cs) (i : Nat) (u : Value) : Blk (w.setCell ⟨g, i, none⟩ u) g t (cs.set i u) := by
  unfold Blk at h ⊢
  have e : (cs.set i u).toArray = cs.toArray.setIfInBounds i u := by simp
  rw [e]
  simp [World.setCell, Array.getElem?_modify, h]
theorem Blk.ne {w : World} {g g' : Nat} {t t' : TypeId} {cs cs' : List Value} (h : Blk w g t cs) (h' : Blk w g' t' cs') (n : t ≠ t') : g ≠ g' := by
  rintro rfl
  unfold Blk at h h'
  rw [h] at h'
  injection h' with h'
  injection h' with _ e
  exact n e

end Go.Proofs.Ytmajgfpfbieakaa
