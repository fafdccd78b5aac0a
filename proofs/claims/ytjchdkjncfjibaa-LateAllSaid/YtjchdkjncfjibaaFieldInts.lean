/-
  A slice of integers that came in as a field of a law's argument. Own work; no program is walked here.
-/
import Derived.Test.YtjchdkjncfjibaaShell
import Derived.Test.YtjchdkjncfjibaaIntMem
import Derived.Deep.Slices
namespace Go.Proofs.Ytjchdkjncfjibaa
open Go.ChangeShapes Go.WideShapes Go.ChangeAt Go.RowKit Go.Deep
/-- A slice of integers that came in as a field of a struct. -/
theorem ints_field {H : Type} {enc : TypeId × Value → H} {P : Program} {w : World} {t e : TypeId} {v : Value} {f : Nat} {d : DataW H} {p : List MemPlace} (ht : P.underlying t = some (.slice e)) (he : P.underlying e = some (.int .i64)) (hc : P.cellsOf e = 1)
    (h : DataW.trod enc P w 0 (fun _ => true) true f t [v] = some (d, p)) : ∃ a len cap l, v = .slice a len cap ∧ len ≤ cap ∧ cap ≤ maxLen ∧ (a = none → cap = 0) ∧ RsI w a len l := by
  rcases Deep.open_slice1 ht hc h with ⟨hcs, _⟩ | ⟨x, l, c, m, n, V, D, Pl, hcs, _, hl, hm, hmm, _, hcell⟩
  · obtain rfl := List.head_eq_of_cons_eq hcs
    exact ⟨none, 0, 0, [], rfl, Nat.le_refl _, Nat.zero_le _, fun _ => rfl, RsI.nil _ _⟩
  · obtain rfl := List.head_eq_of_cons_eq hcs
    simp only [if_true] at hmm
    subst hmm
    have each : ∀ i, i < l → ∃ z : Int, (Lit.int .i64 z).wf = true ∧ w.cell? (x.add i) = some (.int .i64 z) := by
      intro i hi
      obtain ⟨c0, t0⟩ := hcell i (by omega)
      obtain ⟨z, e0, _, f0⟩ := DataW.trod_int he t0
      rw [List.head_eq_of_cons_eq e0] at c0
      exact ⟨z, f0, c0⟩
    obtain ⟨q, hq⟩ := Deep.choose_lt each
    refine ⟨some x, l, _, (List.range l).map q, rfl, hl, hm, fun h => by (cases h), ⟨by simp, fun y hy => ?_, fun hn => ?_⟩⟩
    · obtain ⟨i, hi, rfl⟩ := List.mem_map.1 hy
      have := bounds_i64 (hq i (List.mem_range.1 hi)).1
      exact ⟨by omega, by omega⟩
    · obtain ⟨b, o, s⟩ := x
      have c0 := (hq 0 (by omega)).2
      have hs : s = none := by simpa [Addr.add] using World.cell?_spot c0
      subst hs
      refine ⟨b, o, rfl, ?_, fun i y hy => ?_⟩
      · have := block_lt_of_cell c0
        rw [addr_add] at this
        exact this
      · have hi : i < l := by have := (List.getElem?_eq_some_iff.1 hy).1; simpa using this
        have c := (hq i hi).2
        rw [addr_add] at c
        rw [List.getElem?_map, List.getElem?_range hi] at hy
        injection hy with hy
        rw [← hy]
        exact c
end Go.Proofs.Ytjchdkjncfjibaa
