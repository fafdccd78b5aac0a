/-
  A row of truth values in a block (BR), and a pool beside two of them (On). Own work.
-/
import Derived.Test.YtmkkkifigeaalaaRows
import Derived.Test.YtmkkkifigeaalaaPoolOnceM
namespace Go.Proofs.Ytmkkkifigeaalaa.Prt
open Go.ChangeShapes Go.WideShapes Go.ChangeAt Go.RowKit

def rowB (n : Nat) (f : Nat → Bool) : List Value := (List.range n).map fun i => .bool (f i)
theorem rowB_get {n : Nat} {f : Nat → Bool} {i : Nat} (h : i < n) : (rowB n f)[i]? = some (.bool (f i)) := by unfold rowB; rw [List.getElem?_map, List.getElem?_range h]; rfl
theorem rowB_set {n : Nat} {f : Nat → Bool} {i : Nat} (b : Bool) : (rowB n f).set i (.bool b) = rowB n (upd f i b) := by
  apply List.ext_getElem?
  intro j
  rw [List.getElem?_set]
  by_cases hj : j < n
  · rw [rowB_get hj, rowB_get hj]
    unfold upd
    by_cases e : i = j
    · rw [if_pos e, if_pos e.symm]
      subst e
      rw [if_pos (by unfold rowB; simpa using hj)]
    · rw [if_neg e, if_neg (fun h => e h.symm)]
  · have z : ∀ f, (rowB n f)[j]? = none := fun f => List.getElem?_eq_none (by unfold rowB; simp; omega)
    rw [z, z]
    split
    · rename_i h
      subst h
      rw [if_neg (by unfold rowB; simp; omega)]
    · rfl
/-- Block b is the n truth values of f. -/
def BR (W : World) (b n : Nat) (f : Nat → Bool) : Prop := Blk W b 4 (rowB n f)
theorem BR.cell {W : World} {b n : Nat} {f : Nat → Bool} (h : BR W b n f) {i : Nat} (hi : i < n) : W.cell? ⟨b, i, none⟩ = some (.bool (f i)) := by rw [Blk.cell h, rowB_get hi]
theorem BR.frozen {W : World} {b n : Nat} {f : Nat → Bool} (h : BR W b n f) (i : Nat) : W.frozen? ⟨b, i, none⟩ = false := Blk.frozen h i
theorem BR.kept {D : Nat → Prop} {W W' : World} {b n : Nat} {f : Nat → Bool} (h : BR W b n f) (k : Kept D W W') (hd : ¬ D b) : BR W' b n f := Blk.kept h k hd
theorem BR.put {W : World} {b n : Nat} {f : Nat → Bool} (h : BR W b n f) (i : Nat) (v : Bool) : BR (W.setCell ⟨b, i, none⟩ (.bool v)) b n (upd f i v) := by
  have := Blk.put h i (.bool v)
  rw [rowB_set] at this
  exact this
theorem Try.boolInfo : (Try.prog.info? 4).map (fun i => (i.zero, i.size, i.bytes)) = some (some (.bool false), 1, 1) := by kernel_rfl
theorem rowB_zeros (n : Nat) : madeCells #[.bool false] n = (rowB n (fun _ => false)).toArray := by
  apply Array.ext'
  unfold madeCells rowB
  apply List.ext_getElem?
  intro i
  by_cases c : i < n
  · simp [c, Nat.mod_one]
  · simp [c]
theorem make_bools (w : World) (n : Nat) (hn : n ≤ 3000) : ∃ w', (Instr.makeSlice 45 (.int .i64 (n : Int)) (.int .i64 (n : Int))).run Try.prog w = .ok (.slice (some ⟨w.heap.size, 0, none⟩) n n) w' ∧ BR w' w.heap.size n (fun _ => false) ∧ Kept Old w w' ∧ w.heap.size < w'.heap.size := by
  obtain ⟨i0, hi, hz0, hz1, hz2⟩ := info_parts Try.boolInfo
  have hr := run_make (P := Try.prog) w 45 4 i0 _ Try.underlying45 hi hz0 .i64 .i64 n n (by omega) (Int.le_refl _) (by rw [hz2]; omega) (by omega)
  simp only [Int.toNat_natCast, hz1, Nat.mul_one] at hr
  have e : (Value.bool false).cells = #[.bool false] := rfl
  rw [e, rowB_zeros] at hr
  exact ⟨_, hr, Blk.new _ _ _, (Kept.refl _ _).alloc _, by simp⟩
/-- A pool beside two rows of truth values. -/
structure On (w W : World) (p a g c : Nat) (L : List Q) (bo ba : Nat) (out add : Nat → Bool) (all n : Nat) : Prop where
  st : StP w W p a g 32 c L (fun b => b = bo ∨ b = ba)
  o : BR W bo 2048 out
  d : BR W ba 4 add
  inv : OnceInv c L out add all n
  lo : w.heap.size ≤ bo
  la : w.heap.size ≤ ba
  ne : bo ≠ ba
theorem On.turn {w W W' : World} {p a g c : Nat} {L : List Q} {bo ba : Nat} {out add : Nat → Bool} {all n : Nat} (h : On w W p a g c L bo ba out add all n) (k : Kept (Fr fun b => b = bo ∨ b = ba) W W') : BR W' bo 2048 out ∧ BR W' ba 4 add :=
  ⟨h.o.kept k (fun z => z (.inl rfl)), h.d.kept k (fun z => z (.inr rfl))⟩
theorem On.len {w W : World} {p a g c : Nat} {L : List Q} {bo ba : Nat} {out add : Nat → Bool} {all n : Nat} (h : On w W p a g c L bo ba out add all n) : n ≤ all ∧ all ≤ 64 := by
  have h1 := h.inv.sum
  have h2 := h.inv.whole
  have h3 := h.st.good.len
  have h4 := per_pos h.st.good.cls
  have : L.length * perN c ≤ 4 * 16 := Nat.mul_le_mul (by omega) (by omega)
  omega
theorem On.old {w W W' : World} {p a g c : Nat} {L : List Q} {bo ba : Nat} {out add : Nat → Bool} {all n : Nat} (h : On w W p a g c L bo ba out add all n) (k : Kept Old W W') : On w W' p a g c L bo ba out add all n := ⟨h.st.old k, h.o.kept k (fun x => x), h.d.kept k (fun x => x), h.inv, h.lo, h.la, h.ne⟩
/-- A value is written into a row of F. -/
theorem StP.row {w W : World} {p a g P c : Nat} {L : List Q} {F : Nat → Prop} (h : StP w W p a g P c L F) {b : Nat} (hb : F b) (hl : w.heap.size ≤ b) (i : Nat) (u : Value) : StP w (W.setCell ⟨b, i, none⟩ u) p a g P c L F :=
  h.only (only_setCell W b i u) (fun x e => by rw [show x = b from e]; exact ⟨hb, hl⟩) (fun x e => .inl e)
end Go.Proofs.Ytmkkkifigeaalaa.Prt
