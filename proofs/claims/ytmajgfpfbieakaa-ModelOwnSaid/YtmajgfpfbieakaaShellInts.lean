/-
  A slice of integers that came in as a law's argument, by its cells. Own work; no program is walked here.
-/
import Derived.Test.YtmajgfpfbieakaaShell
import Derived.Deep.Slices
namespace Go.Proofs.Ytmajgfpfbieakaa
open Go.ChangeShapes Go.WideShapes Go.ChangeAt Go.RowKit Go.Deep
/-- A slice of integers that came in. -/
theorem ints_in {H : Type} {enc : TypeId × Value → H} {P : Program} {w : World} {t e : TypeId} {kd : IntKind} {a : Option Addr} {len cap : Nat} {d : DataW H} {p : List MemPlace} (ht : P.underlying t = some (.slice e)) (he : P.underlying e = some (.int kd)) (hc : P.cellsOf e = 1)
    (h : DataW.Trod enc P w 0 (fun _ => true) true t (.slice a len cap) d p) : ∃ z : Nat → Int, len ≤ cap ∧ cap ≤ maxLen ∧ (∀ i, i < len → (Lit.int kd (z i)).wf = true) ∧ Sl w a 1 len fun i _ => .int kd (z i) := by
  obtain ⟨fuel, hf⟩ := h
  rcases Deep.open_slice1 ht hc hf with ⟨hcs, _⟩ | ⟨x, l, c, m, n, V, D, Pl, hcs, _, hl, hm, hmm, _, hcell⟩
  · simp [Value.cells] at hcs
    obtain ⟨rfl, rfl, rfl⟩ := hcs
    exact ⟨fun _ => 0, Nat.le_refl _, Nat.zero_le _, fun i hi => absurd hi (Nat.not_lt_zero _), ⟨fun h => absurd h (Nat.lt_irrefl 0)⟩⟩
  · simp [Value.cells] at hcs
    obtain ⟨rfl, rfl, rfl⟩ := hcs
    simp only [if_true] at hmm
    subst hmm
    have each : ∀ i, i < len → ∃ z : Int, (Lit.int kd z).wf = true ∧ w.cell? (x.add i) = some (.int kd z) := by
      intro i hi
      obtain ⟨c0, t0⟩ := hcell i (by omega)
      obtain ⟨z, e0, _, f0⟩ := DataW.trod_int he t0
      rw [List.head_eq_of_cons_eq e0] at c0
      exact ⟨z, f0, c0⟩
    obtain ⟨q, hq⟩ := Deep.choose_lt each
    refine ⟨q, hl, hm, fun i hi => (hq i hi).1, ⟨fun hn => ?_⟩⟩
    obtain ⟨b, o, s⟩ := x
    have c0 := (hq 0 (by omega)).2
    have hs : s = none := by simpa [Addr.add] using World.cell?_spot c0
    subst hs
    refine ⟨b, o, rfl, ?_, fun i j hi hj => ?_⟩
    · have := block_lt_of_cell c0
      rw [addr_add] at this
      exact this
    · obtain rfl : j = 0 := by omega
      have c := (hq i (by omega)).2
      rw [addr_add] at c
      simpa using c
end Go.Proofs.Ytmajgfpfbieakaa
