/-
  Words for memory: a row of words known whole (Row), and a frame (Kept): which blocks may have turned. Own work; no program is walked here.
-/
import Derived.Test.YtcaongcpfepcjaaRows
import Derived.Test.YtcaongcpfepcjaaKept
import Derived.Below
import Derived.Laws.OwnMore
import Derived.Laws.Rows
import Derived.Laws.CopyOwn
import Derived.Deep.Draws
import Derived.Deep.OwnRows
import Derived.Deep.AppendLies
import Derived.Lib.Hide
namespace Go.Proofs.Ytcaongcpfepcjaa
open Go.RowKit

/-! ### Rows of words -/
/-- Words as cells. -/
def U (ws : List Nat) : List Value := ws.map fun (x : Nat) => Value.int .u64 (x : Int)
theorem U_length (ws : List Nat) : (U ws).length = ws.length := by unfold U; simp
theorem U_get (ws : List Nat) (i : Nat) : (U ws)[i]? = (ws[i]?).map fun (x : Nat) => Value.int .u64 (x : Int) := by unfold U; simp
theorem U_set (ws : List Nat) (i : Nat) (x : Nat) : (U ws).set i (.int .u64 (x : Int)) = U (ws.set i x) := by unfold U; rw [List.map_set]
theorem U_append (a b : List Nat) : U (a ++ b) = U a ++ U b := by unfold U; simp
theorem U_take (a : List Nat) (n : Nat) : U (a.take n) = (U a).take n := by unfold U; simp
theorem U_drop (a : List Nat) (n : Nat) : U (a.drop n) = (U a).drop n := by unfold U; simp
theorem U_one (ws : List Nat) : ∀ v ∈ U ws, v.oneCell' = true := by
  intro v hv
  unfold U at hv
  obtain ⟨x, _, rfl⟩ := List.mem_map.1 hv
  rfl
theorem U_zeros (n : Nat) : madeCells #[.int .u64 0] n = (U (List.replicate n 0)).toArray := by
  apply Array.ext'
  unfold madeCells U
  simp only [List.map_replicate]
  apply List.ext_getElem?
  intro i
  by_cases c : i < n
  · simp [c, Nat.mod_one]
  · simp [c]
/-- Block g is the words ws, each below 2 ^ 64. -/
structure Row (w : World) (g : Nat) (ws : List Nat) : Prop where
  blk : Blk w g 85 (U ws)
  fit : ∀ x ∈ ws, x < 18446744073709551616
theorem Row.cell {w : World} {g : Nat} {ws : List Nat} (h : Row w g ws) {i : Nat} (hi : i < ws.length) : w.cell? ⟨g, i, none⟩ = some (.int .u64 ((ws[i]'hi : Nat) : Int)) := by
  rw [h.blk.cell, U_get, List.getElem?_eq_getElem hi]; rfl
theorem Row.has {w : World} {g : Nat} {ws : List Nat} (h : Row w g ws) {i : Nat} (hi : i < ws.length) : ∃ x : Nat, x < 18446744073709551616 ∧ w.cell? ⟨g, i, none⟩ = some (.int .u64 (x : Int)) := ⟨ws[i], h.fit _ (List.getElem_mem hi), h.cell hi⟩
theorem Row.get_lt {w : World} {g : Nat} {ws : List Nat} (h : Row w g ws) {i : Nat} (hi : i < ws.length) : ws[i] < 18446744073709551616 := h.fit _ (List.getElem_mem hi)
theorem Row.frozen {w : World} {g : Nat} {ws : List Nat} (h : Row w g ws) (i : Nat) : w.frozen? ⟨g, i, none⟩ = false := h.blk.frozen i
theorem Row.lt {w : World} {g : Nat} {ws : List Nat} (h : Row w g ws) : g < w.heap.size := h.blk.lt
theorem Row.kept {D : Nat → Prop} {w w' : World} {g : Nat} {ws : List Nat} (h : Row w g ws) (k : Kept D w w') (hd : ¬ D g) : Row w' g ws := ⟨h.blk.kept k hd, h.fit⟩
theorem Row.below {B : Nat} {w w' : World} {g : Nat} {ws : List Nat} (h : Row w g ws) (k : Below B w w') (hd : g < B) : Row w' g ws := ⟨h.blk.below k hd, h.fit⟩
theorem Row.alloc {w : World} {g : Nat} {ws : List Nat} (h : Row w g ws) (o : Obj) : Row (w.alloc o) g ws := ⟨h.blk.alloc o, h.fit⟩
theorem Row.drew {w : World} {g : Nat} {ws : List Nat} (h : Row w g ws) : Row w.drew g ws := ⟨h.blk, h.fit⟩
theorem Row.drewN {w : World} {g : Nat} {ws : List Nat} (h : Row w g ws) (n : Nat) : Row (w.drewN n) g ws := ⟨h.blk, h.fit⟩
theorem Row.put {w : World} {g : Nat} {ws : List Nat} (h : Row w g ws) (i : Nat) {x : Nat} (hx : x < 18446744073709551616) : Row (w.setCell ⟨g, i, none⟩ (.int .u64 (x : Int))) g (ws.set i x) :=
  ⟨by have := h.blk.put i (.int .u64 (x : Int)); rwa [U_set] at this, fun y hy => by
    rcases List.mem_or_eq_of_mem_set hy with c | c
    · exact h.fit y c
    · omega⟩
theorem Row.far {w : World} {g : Nat} {ws : List Nat} (h : Row w g ws) {p : Addr} (hp : g ≠ p.block) (u : Value) : Row (w.setCell p u) g ws := ⟨h.blk.far hp u, h.fit⟩
theorem Row.zeros (w : World) (n : Nat) : Row (w.alloc (.cells (madeCells #[.int .u64 0] n) 85)) w.heap.size (List.replicate n 0) :=
  ⟨by rw [U_zeros]; exact Blk.new _ _ _, fun x hx => by rw [List.eq_of_mem_replicate hx]; decide⟩

/-! ### The lists behind a copy, a fill -/
def copyL (ws : List Nat) (to : Nat) (cs : List Nat) : List Nat := ws.take to ++ (cs ++ ws.drop (to + cs.length))
theorem copyL_length (ws : List Nat) (to : Nat) (cs : List Nat) (h : to + cs.length ≤ ws.length) : (copyL ws to cs).length = ws.length := by unfold copyL; simp; omega
theorem copyL_U (ws : List Nat) (to : Nat) (cs : List Nat) : splice (U ws) to (U cs) = U (copyL ws to cs) := by
  unfold splice copyL; rw [U_append, U_append, U_take, U_drop, U_length]
theorem copyL_fit (ws : List Nat) (to : Nat) (cs : List Nat) (h : ∀ x ∈ ws, x < 18446744073709551616) (hc : ∀ x ∈ cs, x < 18446744073709551616) : ∀ x ∈ copyL ws to cs, x < 18446744073709551616 := by
  intro x hx
  unfold copyL at hx
  rcases List.mem_append.1 hx with c | c
  · exact h x (List.mem_of_mem_take c)
  · rcases List.mem_append.1 c with c | c
    · exact hc x c
    · exact h x (List.mem_of_mem_drop c)
theorem copyL_nil (ws : List Nat) (to : Nat) : copyL ws to [] = ws := by unfold copyL; simp
theorem copyL_get (ws : List Nat) (to : Nat) (cs : List Nat) (h : to + cs.length ≤ ws.length) (i : Nat) :
    (copyL ws to cs)[i]? = if i < to then ws[i]? else if i < to + cs.length then cs[i - to]? else ws[i]? := by
  unfold copyL
  by_cases a : i < to
  · rw [if_pos a, List.getElem?_append_left (by simp; omega), List.getElem?_take, if_pos a]
  · rw [if_neg a, List.getElem?_append_right (by simp; omega)]
    have l : (ws.take to).length = to := by simp; omega
    rw [l]
    by_cases b : i < to + cs.length
    · rw [if_pos b, List.getElem?_append_left (by omega)]
    · rw [if_neg b, List.getElem?_append_right (by omega), List.getElem?_drop]
      congr 1
      omega
/-- The words from a place on. -/
def cutL (ws : List Nat) (at_ n : Nat) : List Nat := (ws.drop at_).take n
theorem cutL_length (ws : List Nat) (a n : Nat) (h : a + n ≤ ws.length) : (cutL ws a n).length = n := by unfold cutL; simp; omega
theorem cutL_fit (ws : List Nat) (a n : Nat) (h : ∀ x ∈ ws, x < 18446744073709551616) : ∀ x ∈ cutL ws a n, x < 18446744073709551616 := fun x hx => h x (List.mem_of_mem_drop (List.mem_of_mem_take hx))
theorem cutL_get (ws : List Nat) (a n i : Nat) : (cutL ws a n)[i]? = if i < n then ws[a + i]? else none := by
  unfold cutL; rw [List.getElem?_take, List.getElem?_drop]
theorem cutL_all (ws : List Nat) : cutL ws 0 ws.length = ws := by unfold cutL; simp
/-- What a copy within one row leaves. -/
abbrev movedL (ws : List Nat) (to from_ n : Nat) : List Nat := copyL ws to (cutL ws from_ n)
abbrev filledL (ws : List Nat) (at_ n x : Nat) : List Nat := copyL ws at_ (List.replicate n x)
theorem filled_zero (ws : List Nat) (a x : Nat) : filledL ws a 0 x = ws := copyL_nil ws a
theorem filled_step (ws : List Nat) (a n x : Nat) (h : a + n < ws.length) : (filledL ws a n x).set (a + n) x = filledL ws a (n + 1) x := by
  apply List.ext_getElem?
  intro i
  have l : (filledL ws a n x).length = ws.length := copyL_length _ _ _ (by simp; omega)
  rw [List.getElem?_set, l, copyL_get _ _ _ (by simp; omega), copyL_get _ _ _ (by simp; omega)]
  simp only [List.length_replicate, List.getElem?_replicate]
  by_cases c : a + n = i
  · subst c
    rw [if_pos rfl, if_pos h, if_neg (by omega), if_pos (by omega), if_pos (by omega)]
  · rw [if_neg c]
    by_cases d : i < a
    · rw [if_pos d, if_pos d]
    · rw [if_neg d, if_neg d]
      by_cases f : i < a + n
      · rw [if_pos f, if_pos (by omega), if_pos (by omega), if_pos (by omega)]
      · rw [if_neg f, if_neg (by omega)]
theorem filled_length (ws : List Nat) (a n x : Nat) (h : a + n ≤ ws.length) : (filledL ws a n x).length = ws.length := copyL_length _ _ _ (by simp; omega)
theorem moved_length (ws : List Nat) (t f n : Nat) (h : t + n ≤ ws.length) (h' : f + n ≤ ws.length) : (movedL ws t f n).length = ws.length := copyL_length _ _ _ (by rw [cutL_length _ _ _ h']; exact h)
theorem set_copy (ws : List Nat) (a x : Nat) (h : a < ws.length) : ws.set a x = filledL ws a 1 x := by
  have := filled_step ws a 0 x (by omega)
  rw [filled_zero] at this
  exact this
theorem Row.copy {w w' : World} {g to : Nat} {ws cs : List Nat} (h : Row w g ws) (hc : ∀ x ∈ cs, x < 18446744073709551616) (e : w'.heap[g]? = some (.cells (splice (U ws) to (U cs)).toArray 85 (0, 0))) : Row w' g (copyL ws to cs) :=
  ⟨by unfold Blk; rw [← copyL_U]; exact e, copyL_fit _ _ _ h.fit hc⟩
end Go.Proofs.Ytcaongcpfepcjaa
