/-
  What a law's arguments are, as a walk wants them: slices of one-cell elements or of structs of them, by their cells (Sl). Own work; no program is walked here.
-/
import Derived.Test.YtmajgfpfbieakaaKept
import Derived.Laws.Rows
import Derived.OpenShut
import Derived.ChangeOld
import Derived.Deep.Grids
import Derived.Lib.SmallJoins
namespace Go.Proofs.Ytmajgfpfbieakaa
open Go.ChangeShapes Go.WideShapes Go.ChangeAt Go.RowKit Go.Deep

/-- The slice at A has n elements of k cells each: V i j is cell j of element i. -/
structure Sl (w : World) (A : Option Addr) (k n : Nat) (V : Nat → Nat → Value) : Prop where
  lies : 0 < n → ∃ g o, A = some ⟨g, o, none⟩ ∧ g < w.heap.size ∧ ∀ i j, i < n → j < k → w.cell? ⟨g, o + (i * k + j), none⟩ = some (V i j)
theorem Sl.kept {D : Nat → Prop} {w w' : World} {A : Option Addr} {k n : Nat} {V : Nat → Nat → Value} (h : Sl w A k n V) (q : Kept D w w') (hd : ∀ ad, A = some ad → ¬ D ad.block) : Sl w' A k n V :=
  ⟨fun hn => by
    obtain ⟨g, o, rfl, hg, c⟩ := h.lies hn
    have hd' : ¬ D g := hd _ rfl
    exact ⟨g, o, rfl, Nat.lt_of_lt_of_le hg q.size, fun i j hi hj => (q.cell (p := ⟨g, o + (i * k + j), none⟩) hg hd').trans (c i j hi hj)⟩⟩
theorem Sl.old {w w' : World} {A : Option Addr} {k n : Nat} {V : Nat → Nat → Value} (h : Sl w A k n V) (q : Kept Old w w') : Sl w' A k n V := h.kept q fun _ _ x => x

/-- A slice of bools that came in. -/
theorem bools_in {H : Type} {enc : TypeId × Value → H} {P : Program} {w : World} {t e : TypeId} {a : Option Addr} {len cap : Nat} {d : DataW H} {p : List MemPlace} (ht : P.underlying t = some (.slice e)) (he : P.underlying e = some .bool) (hc : P.cellsOf e = 1)
    (h : DataW.Trod enc P w 0 (fun _ => true) true t (.slice a len cap) d p) : ∃ z : Nat → Bool, len ≤ cap ∧ cap ≤ maxLen ∧ Sl w a 1 len fun i _ => .bool (z i) := by
  obtain ⟨fuel, hf⟩ := h
  rcases open_bools ht he hc hf with ⟨hcs, _⟩ | ⟨x, l, c, B, hcs, _, hl, hm, _, hcell⟩
  · simp [Value.cells] at hcs
    obtain ⟨rfl, rfl, rfl⟩ := hcs
    exact ⟨fun _ => false, Nat.le_refl _, Nat.zero_le _, ⟨fun h => absurd h (Nat.lt_irrefl 0)⟩⟩
  · simp [Value.cells] at hcs
    obtain ⟨rfl, rfl, rfl⟩ := hcs
    refine ⟨B, hl, hm, ⟨fun hn => ?_⟩⟩
    obtain ⟨b, o, s⟩ := x
    have c0 := hcell 0 (by omega)
    have hs : s = none := by simpa [Addr.add] using World.cell?_spot c0
    subst hs
    refine ⟨b, o, rfl, ?_, fun i j hi hj => ?_⟩
    · have := block_lt_of_cell c0
      rw [addr_add] at this
      exact this
    · obtain rfl : j = 0 := by omega
      have c := hcell i (by omega)
      rw [addr_add] at c
      simpa using c
end Go.Proofs.Ytmajgfpfbieakaa
