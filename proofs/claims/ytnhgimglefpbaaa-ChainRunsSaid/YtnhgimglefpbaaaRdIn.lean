/-
  A slice of words that came in as a law's argument reads as words (Rd). Own work; no program is walked here.
-/
import Derived.Test.YtnhgimglefpbaaaArenaRef
import Derived.Test.YtnhgimglefpbaaaShellInts
namespace Go.Proofs.Ytnhgimglefpbaaa
open Go.ChangeShapes Go.WideShapes Go.ChangeAt Go.RowKit
theorem rd_sl {w : World} {A : Option Addr} {n : Nat} {z : Nat → Int} (hz : ∀ i, i < n → (Lit.int .u64 (z i)).wf = true) (hs : Sl w A 1 n fun i _ => .int .u64 (z i)) : ∃ xs, Rd w A n xs := by
  refine ⟨(List.range n).map fun i => (z i).toNat, by simp, fun x hx => ?_, fun hn => ?_⟩
  · obtain ⟨i, hi, rfl⟩ := List.mem_map.1 hx
    have := bounds_u64 (hz i (List.mem_range.1 hi))
    omega
  · obtain ⟨g, o, rfl, hg, hc⟩ := hs.lies hn
    refine ⟨g, o, rfl, hg, fun i x hx => ?_⟩
    have hi : i < n := by have := get_lt hx; simpa using this
    rw [List.getElem?_map, List.getElem?_range hi] at hx
    simp only [Option.map_some, Option.some.injEq] at hx
    subst hx
    have c := hc i 0 hi (by omega)
    simp only [Nat.mul_one, Nat.add_zero] at c
    rw [c]
    have := bounds_u64 (hz i hi)
    congr 2
    omega
end Go.Proofs.Ytnhgimglefpbaaa
