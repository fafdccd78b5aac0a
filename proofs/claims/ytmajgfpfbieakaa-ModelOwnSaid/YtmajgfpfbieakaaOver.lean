/-
  Cells laid over those of a block. Own work; no program is walked here.
-/
import Derived.Test.YtmajgfpfbieakaaRows
import Derived.Test.YtmajgfpfbieakaaKept
import Derived.WalkKit
import Derived.OwnWalk
namespace Go.Proofs.Ytmajgfpfbieakaa
open Go.RowKit

/-- Cells cs laid over those from o on. -/
def over (cur : List Value) (o : Nat) (cs : List Value) : List Value := cur.take o ++ cs ++ cur.drop (o + cs.length)
theorem over_length {cur cs : List Value} {o : Nat} (h : o + cs.length ≤ cur.length) : (over cur o cs).length = cur.length := by
  simp [over]; omega
theorem Blk.cells {g : Nat} {t : TypeId} : ∀ (cs cur : List Value) (o : Nat) (w : World), Blk w g t cur → o + cs.length ≤ cur.length → Blk (w.setCells g o cs) g t (over cur o cs)
  | [], cur, o, w, h, _ => by simpa [over, World.setCells] using h
  | v :: r, cur, o, w, h, k => by
    have hl : o + (r.length + 1) ≤ cur.length := by simpa using k
    have h1 := h.put o v
    have := Blk.cells r (cur.set o v) (o + 1) _ h1 (by simp; omega)
    have e : over (cur.set o v) (o + 1) r = over cur o (v :: r) := by
      unfold over
      rw [List.take_set, List.drop_set_of_lt (by omega), List.take_succ_eq_append_getElem (by omega), List.set_append_right _ _ (by simp; omega)]
      have : o - (List.take o cur).length = 0 := by simp; omega
      rw [this]
      simp [show o + 1 + r.length = o + (r.length + 1) by omega]
    rw [e] at this
    exact this
theorem kept_cells (g : Nat) : ∀ (cs : List Value) (o : Nat) (w : World), Kept (Only g) w (w.setCells g o cs)
  | [], _, w => Kept.refl _ w
  | v :: r, o, w => (only_setCell w g o v).trans (kept_cells g r (o + 1) _)
theorem Blk.mem {w : World} {g : Nat} {t : TypeId} {cur : List Value} (h : Blk w g t cur) {i : Nat} (k : i < cur.length) : (w.cell? ⟨g, i, none⟩).isSome = true := by
  rw [h.cell, List.getElem?_eq_getElem k]; rfl
theorem over_at (a : Nat) (A M D r : List Value) (hA : A.length = a) : over (A ++ M ++ r) a D = A ++ D ++ (M ++ r).drop D.length := by
  subst hA
  simp [over, List.drop_append]
end Go.Proofs.Ytmajgfpfbieakaa
