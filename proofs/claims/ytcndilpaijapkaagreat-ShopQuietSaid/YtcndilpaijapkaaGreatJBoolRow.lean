/-
  A row of truth values in a block. Own work; no program is walked here.
-/
import Derived.Test.YtcndilpaijapkaaGreatRows
import Derived.WalkKit
import Derived.ProofKit
import Derived.OpenShut
import Derived.Lib.AppendZerosOnto
import Derived.Lib.Hide
import Derived.Lib.SmallJoins
import Derived.Test.YtcndilpaijapkaaGreatJBase
namespace Go.Proofs.YtcndilpaijapkaaGreat.Br
open Go.ChangeShapes Go.WideShapes Go.ChangeAt Go.RowKit

def updB (f : Nat → Bool) (i : Nat) (b : Bool) : Nat → Bool := fun j => if j = i then b else f j
theorem updB_self (f : Nat → Bool) (i : Nat) (b : Bool) : updB f i b i = b := if_pos rfl
theorem updB_ne (f : Nat → Bool) {i j : Nat} (b : Bool) (h : j ≠ i) : updB f i b j = f j := if_neg h
def rowB (n : Nat) (f : Nat → Bool) : List Value := (List.range n).map fun i => .bool (f i)
theorem rowB_get {n : Nat} {f : Nat → Bool} {i : Nat} (h : i < n) : (rowB n f)[i]? = some (.bool (f i)) := by unfold rowB; rw [List.getElem?_map, List.getElem?_range h]; rfl
theorem rowB_set {n : Nat} {f : Nat → Bool} {i : Nat} (b : Bool) : (rowB n f).set i (.bool b) = rowB n (updB f i b) := by
  apply List.ext_getElem?
  intro j
  rw [List.getElem?_set]
  by_cases hj : j < n
  · rw [rowB_get hj, rowB_get hj]
    unfold updB
    by_cases e : i = j
    · rw [if_pos e, if_pos e.symm]
      subst e
      rw [if_pos (by unfold rowB; simpa using hj)]
    · rw [if_neg e, if_neg (fun h => e h.symm)]
  · have z : ∀ f, (rowB n f)[j]? = none := fun f => List.getElem?_eq_none (by unfold rowB; simp; omega)
    rw [z, z]
    split
    · rename_i h
      subst h
      rw [if_neg (by unfold rowB; simp; omega)]
    · rfl
/-- Block b is the n truth values of f. -/
def BR (W : World) (b n : Nat) (f : Nat → Bool) : Prop := Blk W b 4 (rowB n f)
theorem BR.cell {W : World} {b n : Nat} {f : Nat → Bool} (h : BR W b n f) {i : Nat} (hi : i < n) : W.cell? ⟨b, i, none⟩ = some (.bool (f i)) := by rw [Blk.cell h, rowB_get hi]
theorem BR.frozen {W : World} {b n : Nat} {f : Nat → Bool} (h : BR W b n f) (i : Nat) : W.frozen? ⟨b, i, none⟩ = false := Blk.frozen h i
theorem BR.kept {D : Nat → Prop} {W W' : World} {b n : Nat} {f : Nat → Bool} (h : BR W b n f) (k : Kept D W W') (hd : ¬ D b) : BR W' b n f := Blk.kept h k hd
theorem BR.put {W : World} {b n : Nat} {f : Nat → Bool} (h : BR W b n f) (i : Nat) (v : Bool) : BR (W.setCell ⟨b, i, none⟩ (.bool v)) b n (updB f i v) := by
  have := Blk.put h i (.bool v)
  rw [rowB_set] at this
  exact this
theorem Tryz.boolInfo : (Tryz.prog.info? 4).map (fun i => (i.zero, i.size, i.bytes)) = some (some (.bool false), 1, 1) := by kernel_rfl
theorem rowB_zeros (n : Nat) : madeCells #[.bool false] n = (rowB n (fun _ => false)).toArray := by
  apply Array.ext'
  unfold madeCells rowB
  apply List.ext_getElem?
  intro i
  by_cases c : i < n
  · simp [c, Nat.mod_one]
  · simp [c]
theorem make_bools (w : World) (n : Nat) (hn : n ≤ 20000) : ∃ w', (Instr.makeSlice 131 (.int .i64 (n : Int)) (.int .i64 (n : Int))).run Tryz.prog w = .ok (.slice (some ⟨w.heap.size, 0, none⟩) n n) w' ∧ BR w' w.heap.size n (fun _ => false) ∧ Kept Old w w' ∧ w.heap.size < w'.heap.size := by
  obtain ⟨i0, hi, hz0, hz1, hz2⟩ := info_parts Tryz.boolInfo
  have hr := run_make (P := Tryz.prog) w 131 4 i0 _ Tryz.underlying131 hi hz0 .i64 .i64 n n (by omega) (Int.le_refl _) (by rw [hz2]; omega) (by omega)
  simp only [Int.toNat_natCast, hz1, Nat.mul_one] at hr
  have e : (Value.bool false).cells = #[.bool false] := rfl
  rw [e, rowB_zeros] at hr
  exact ⟨_, hr, Blk.new _ _ _, (Kept.refl _ _).alloc _, by simp⟩
theorem only_cell {w w' : World} {p : Addr} {v : Value} {b : Nat} (k : Kept (Only b) w w') (c : w.cell? p = some v) (h : p.block ≠ b) : w'.cell? p = some v := (k.cell (block_lt_of_cell c) h).trans c
end Go.Proofs.YtcndilpaijapkaaGreat.Br
