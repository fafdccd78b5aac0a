/-
  How many bytes a slice takes that came in as a law's argument. Own work; no program is walked here.
-/
import Derived.Test.YtmajgfpfbieakaaShell
import Derived.Deep.Slices
import Derived.SizedLaws
namespace Go.Proofs.Ytmajgfpfbieakaa
open Go.ChangeShapes Go.WideShapes Go.ChangeAt Go.RowKit Go.Deep
/-- A slice that came in is nil, or its datum has as many elements as it has room. -/
theorem slice_size {H : Type} {enc : TypeId × Value → H} {P : Program} {w : World} {t e : TypeId} {a : Option Addr} {len cap : Nat} {d : DataW H} {p : List MemPlace} (ht : P.underlying t = some (.slice e))
    (h : DataW.Trod enc P w 0 (fun _ => true) true t (.slice a len cap) d p) : (len = 0 ∧ cap = 0) ∨ (a ≠ none ∧ ∃ elems spare, d = .slice elems spare ∧ elems.length + spare.length = cap) := by
  obtain ⟨fuel, hf⟩ := h
  rcases Deep.open_slice ht hf with ⟨hcs, _⟩ | ⟨x, l, c, m, n, D, Pl, hcs, _, hl, hm, hmm, hd, hx⟩
  · simp [Value.cells] at hcs
    obtain ⟨rfl, rfl, rfl⟩ := hcs
    exact .inl ⟨rfl, rfl⟩
  · simp [Value.cells] at hcs
    obtain ⟨rfl, rfl, rfl⟩ := hcs
    simp only [if_true] at hmm
    subst hmm
    injection hd with hd _
    exact .inr ⟨(fun h => by cases h), _, _, hd, by simp; omega⟩
/-- What that pays: its bytes, and that a nil one is empty. -/
theorem slice_reach {H : Type} {enc : TypeId × Value → H} {P : Program} {w : World} {t e : TypeId} {a : Option Addr} {len cap by_ : Nat} {d : DataW H} {p : List MemPlace} {ts : List TypeId} {ds : List (DataW H)} {j : Nat} (ht : P.underlying t = some (.slice e)) (hb : P.bytesOf e = by_)
    (h : DataW.Trod enc P w 0 (fun _ => true) true t (.slice a len cap) d p) (hsz : (DataW.weightsEach P ts ds).all (· ≤ reachBytes) = true) (hj : ts[j]? = some t) (hd : ds[j]? = some d) :
    cap * by_ ≤ 140737488351232 ∧ (a = none → len = 0 ∧ cap = 0) := by
  rcases slice_size ht h with ⟨e1, e2⟩ | ⟨na, es, sp, rfl, e1⟩
  · subst e1
    subst e2
    exact ⟨by simp, fun _ => ⟨rfl, rfl⟩⟩
  · have := sized_slice hsz hj hd ht
    rw [e1, hb] at this
    exact ⟨this, fun h => absurd h na⟩
end Go.Proofs.Ytmajgfpfbieakaa
