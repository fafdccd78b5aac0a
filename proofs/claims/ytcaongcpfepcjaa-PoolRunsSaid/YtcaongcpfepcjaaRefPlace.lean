/-
  Where the document's Add puts a span, as it looks for it (Pl), and whether two spans have a page in common (over8). Own work.
-/
import Derived.Test.YtcaongcpfepcjaaRows
import Derived.Test.YtcaongcpfepcjaaPoolMath
import Derived.Test.YtcaongcpfepcjaaKept
import Derived.WalkKit
import Derived.ProofKit
import Derived.OpenShut
namespace Go.Proofs.Ytcaongcpfepcjaa.Prt
open Go.ChangeShapes Go.WideShapes Go.ChangeAt Go.RowKit

/-- Of the first k spans, those ahead of the j-th lie ahead of p, the others behind. -/
structure Pl (p : Nat) (L : List Q) (j k : Nat) : Prop where
  le : j ≤ k
  lo : ∀ x ∈ L.take j, x.page + 8 ≤ p
  hi : ∀ (i : Nat) (x : Q), j ≤ i → i < k → L[i]? = some x → p + 8 ≤ x.page
theorem Pl.start (p : Nat) (L : List Q) : Pl p L 0 0 := ⟨Nat.le_refl _, fun x h => by simp at h, fun i x _ h => by omega⟩
theorem Pl.eq {P c p j k : Nat} {L : List Q} (h : Pl p L j k) (g : GoodP P c L) {x : Q} (hx : L[k]? = some x) (hp : x.page < p + 8) : j = k := by
  rcases Nat.lt_or_ge j k with d | d
  · obtain ⟨y, hy⟩ : ∃ y, L[j]? = some y := ⟨_, List.getElem?_eq_getElem (by have := (List.getElem?_eq_some_iff.1 hx).1; omega)⟩
    have h1 := h.hi j y (Nat.le_refl _) d hy
    have h2 := g.two hy hx d
    omega
  · have := h.le; omega
theorem Pl.low {P c p j k : Nat} {L : List Q} (h : Pl p L j k) (g : GoodP P c L) {x : Q} (hx : L[k]? = some x) (hp : x.page + 8 ≤ p) : Pl p L (k + 1) (k + 1) := by
  obtain rfl := h.eq g hx (by omega)
  refine ⟨Nat.le_refl _, fun y hy => ?_, fun i x h1 h2 => by omega⟩
  rw [take_at hx] at hy
  rcases List.mem_append.1 hy with hy | hy
  · exact h.lo y hy
  · obtain rfl := List.mem_singleton.1 hy; exact hp
theorem Pl.high {p j k : Nat} {L : List Q} (h : Pl p L j k) {x : Q} (hx : L[k]? = some x) (hp : p + 8 ≤ x.page) : Pl p L j (k + 1) :=
  ⟨Nat.le_succ_of_le h.le, h.lo, fun i y h1 h2 hy => by
    by_cases e : i = k
    · subst e; rw [hx] at hy; obtain rfl := Option.some.inj hy; exact hp
    · exact h.hi i y h1 (by omega) hy⟩
theorem Pl.hit {P c p j k : Nat} {L : List Q} (h : Pl p L j k) (g : GoodP P c L) {x : Q} (hx : L[k]? = some x) (h1 : ¬ p + 8 ≤ x.page) (h2 : p < x.page + 8) : placeQ p L = none := by
  obtain rfl := h.eq g hx (by omega)
  exact placeQ_hit hx h.lo h1 h2
theorem Pl.end {p j : Nat} {L : List Q} (h : Pl p L j L.length) : placeQ p L = some j := by
  rcases Nat.lt_or_ge j L.length with d | d
  · have hx : L[j]? = some L[j] := List.getElem?_eq_getElem d
    exact placeQ_here hx h.lo (h.hi j _ (Nat.le_refl _) d hx)
  · obtain rfl : j = L.length := by have := h.le; omega
    exact placeQ_end h.lo
theorem over8_no (a b : Nat) (w : World) (ha : a ≤ 256) (hb : b ≤ 256) (c : a + 8 ≤ b ∨ b + 8 ≤ a) :
    Calls Try.prog 29 #[.int .i64 (a : Int), .int .i64 8, .int .i64 (b : Int), .int .i64 8] w fun e w' => e = .returned (.bool false) ∧ w = w' := by
  by_cases d : a < b + 8
  · have d1 : (a : Int) < (b : Int) + 8 := by omega
    have d2 : ¬ (b : Int) < (a : Int) + 8 := by omega
    clear c d
    go_enter Try.func29, Try.ntmps29
    go_wp2
    go_ret
    exact ⟨rfl, rfl⟩
  · have d1 : ¬ (a : Int) < (b : Int) + 8 := by omega
    clear c d
    go_enter Try.func29, Try.ntmps29
    go_wp2
    go_ret
    exact ⟨rfl, rfl⟩
theorem over8_yes (a b : Nat) (w : World) (ha : a ≤ 256) (hb : b ≤ 256) (c : a < b + 8) (d : b < a + 8) :
    Calls Try.prog 29 #[.int .i64 (a : Int), .int .i64 8, .int .i64 (b : Int), .int .i64 8] w fun e w' => e = .returned (.bool true) ∧ w = w' := by
  have d1 : (a : Int) < (b : Int) + 8 := by omega
  have d2 : (b : Int) < (a : Int) + 8 := by omega
  clear c d
  go_enter Try.func29, Try.ntmps29
  go_wp2
  go_ret
  exact ⟨rfl, rfl⟩
end Go.Proofs.Ytcaongcpfepcjaa.Prt
