/-
  What lists of pieces cover, word by word; no program is walked here. Own work.
-/
import Derived.Test.YtcndilpaijapkaaGreatRows
import Derived.WalkKit
import Derived.ProofKit
import Derived.Test.YtcndilpaijapkaaGreatJBoolRow
import Derived.Test.YtcndilpaijapkaaGreatJShpF
namespace Go.Proofs.YtcndilpaijapkaaGreat.Shp
open Sto
open Go.ChangeShapes Go.WideShapes Go.ChangeAt Go.RowKit
set_option maxRecDepth 100000

/-- The lists ahead of the n-th. -/
def upTo (L : Nat → List Pc) : Nat → List Pc
  | 0 => []
  | n + 1 => upTo L n ++ L n
def hasF (D : List Pc) (q : Nat) : Bool := D.any fun x => decide (x.1 ≤ (q : Int) ∧ (q : Int) < x.1 + x.2)
def hasJ (D : List Pc) (a j : Nat) (q : Nat) : Bool := hasF D q || decide (a ≤ q ∧ q < j)
theorem hasJ_start (D : List Pc) (a : Nat) : hasJ D a a = hasF D := by
  funext q
  unfold hasJ
  rw [decide_eq_false (by omega), Bool.or_false]
theorem hasJ_step (D : List Pc) (a j : Nat) (h : a ≤ j) : Br.updB (hasJ D a j) j true = hasJ D a (j + 1) := by
  funext q
  unfold Br.updB hasJ
  by_cases e : q = j
  · subst e
    rw [if_pos rfl, decide_eq_true (show a ≤ q ∧ q < q + 1 by omega), Bool.or_true]
  · rw [if_neg e]
    by_cases c : a ≤ q ∧ q < j
    · rw [decide_eq_true c, decide_eq_true (show a ≤ q ∧ q < j + 1 by omega)]
    · rw [decide_eq_false c, decide_eq_false (show ¬ (a ≤ q ∧ q < j + 1) by omega)]
theorem hasJ_done (D : List Pc) (x : Pc) (a n : Nat) (e1 : x.1 = (a : Int)) (e2 : x.2 = (n : Int)) : hasJ D a (a + n) = hasF (D ++ [x]) := by
  funext q
  unfold hasJ hasF
  rw [List.any_append]
  simp only [List.any_cons, List.any_nil, Bool.or_false]
  congr 1
  by_cases c : a ≤ q ∧ q < a + n
  · rw [decide_eq_true c, decide_eq_true (by omega)]
  · rw [decide_eq_false c, decide_eq_false (by omega)]
/-- None of the words of a piece is one of those apart from it. -/
theorem hasF_free {D : List Pc} {x : Pc} (h : ∀ y ∈ D, Dis y x) {q : Nat} (h1 : x.1 ≤ (q : Int)) (h2 : (q : Int) < x.1 + x.2) : hasF D q = false := by
  unfold hasF
  rw [List.any_eq_false]
  intro y hy
  have : y.1 + y.2 ≤ x.1 ∨ x.1 + x.2 ≤ y.1 := h y hy
  simp only [decide_eq_true_eq]
  omega
structure CovL (N : Nat) (L : Nat → List Pc) : Prop where
  pw : (upTo L 7).Pairwise Dis
  fit : ∀ x ∈ upTo L 7, 0 ≤ x.1 ∧ 1 ≤ x.2 ∧ x.1 + x.2 ≤ (N : Int)
  sum : sumP (upTo L 7) = (N : Int)
  asc : ∀ i, i < 7 → (L i).Pairwise (fun x y => x.1 < y.1)
theorem upTo_pre (L : Nat → List Pc) : ∀ (n : Nat) (i : Nat), i ≤ n → ∃ t, upTo L n = upTo L i ++ t
  | 0, i, h => ⟨[], by obtain rfl : i = 0 := by omega
                       simp⟩
  | n + 1, i, h => by
    by_cases e : i = n + 1
    · exact ⟨[], by rw [e]; simp⟩
    · obtain ⟨t, ht⟩ := upTo_pre L n i (by omega)
      exact ⟨t ++ L n, by show upTo L n ++ L n = _; rw [ht, List.append_assoc]⟩
/-- The piece at place k of list i: what is so of it. -/
theorem CovL.at_ {N : Nat} {L : Nat → List Pc} (h : CovL N L) {i k : Nat} (hi : i < 7) {x : Pc} (hx : (L i)[k]? = some x) :
    (0 ≤ x.1 ∧ 1 ≤ x.2 ∧ x.1 + x.2 ≤ (N : Int)) ∧ (∀ y ∈ upTo L i ++ (L i).take k, Dis y x) ∧ 0 ≤ sumP (upTo L i ++ (L i).take k) ∧ sumP (upTo L i ++ (L i).take (k + 1)) ≤ (N : Int) := by
  obtain ⟨t, ht⟩ := upTo_pre L 7 (i + 1) (by omega)
  have e : upTo L 7 = (upTo L i ++ (L i).take k) ++ (x :: ((L i).drop (k + 1) ++ t)) := by
    rw [ht]
    show (upTo L i ++ L i) ++ t = _
    have s : L i = (L i).take k ++ x :: (L i).drop (k + 1) := split_at hx
    conv => lhs; rw [s]
    simp [List.append_assoc]
  have pos : ∀ l : List Pc, (∀ y ∈ l, 1 ≤ y.2) → 0 ≤ sumP l := by
    intro l
    induction l with
    | nil => intro _; exact Int.le_refl _
    | cons y t ih =>
      intro hy
      have := ih (fun z hz => hy z (List.mem_cons_of_mem _ hz))
      have := hy y List.mem_cons_self
      show 0 ≤ y.2 + sumP t
      omega
  have pw := h.pw
  have fit := h.fit
  have sum := h.sum
  rw [e] at pw fit sum
  obtain ⟨_, _, p3⟩ := List.pairwise_append.1 pw
  rw [sumP_append] at sum
  have hx2 : sumP (x :: ((L i).drop (k + 1) ++ t)) = x.2 + sumP ((L i).drop (k + 1) ++ t) := rfl
  have r1 := pos ((L i).drop (k + 1) ++ t) (fun y hy => (fit y (List.mem_append_right _ (List.mem_cons_of_mem _ hy))).2.1)
  have r2 := pos (upTo L i ++ (L i).take k) (fun y hy => (fit y (List.mem_append_left _ hy)).2.1)
  have tk : (L i).take (k + 1) = (L i).take k ++ [x] := Prt.take_at hx
  refine ⟨fit x (List.mem_append_right _ List.mem_cons_self), fun y hy => p3 y hy x List.mem_cons_self, r2, ?_⟩
  rw [tk, ← List.append_assoc, sumP_append]
  show _ + (x.2 + 0) ≤ _
  omega
theorem len_sum : ∀ {l : List Pc}, (∀ x ∈ l, 1 ≤ x.2) → (l.length : Int) ≤ sumP l
  | [], _ => Int.le_refl _
  | x :: t, h => by
    have a := len_sum (l := t) (fun y hy => h y (List.mem_cons_of_mem _ hy))
    have b := h x List.mem_cons_self
    show ((t.length + 1 : Nat) : Int) ≤ x.2 + sumP t
    omega
theorem CovL.len {N : Nat} {L : Nat → List Pc} (h : CovL N L) {i : Nat} (hi : i < 7) : (L i).length ≤ N := by
  obtain ⟨t, ht⟩ := upTo_pre L 7 (i + 1) (by omega)
  have a := len_sum (l := upTo L 7) (fun x hx => (h.fit x hx).2.1)
  rw [h.sum, ht] at a
  have e : ((upTo L (i + 1)) ++ t).length = (upTo L i).length + (L i).length + t.length := by
    show ((upTo L i ++ L i) ++ t).length = _
    simp only [List.length_append]
  rw [e] at a
  omega
theorem seven {α : Type} {V : Nat → α} {i : Nat} (h : i < 7) : ([V 0, V 1, V 2, V 3, V 4, V 5, V 6] : List α)[i]? = some (V i) := by
  rcases (show i = 0 ∨ i = 1 ∨ i = 2 ∨ i = 3 ∨ i = 4 ∨ i = 5 ∨ i = 6 by omega) with rfl | rfl | rfl | rfl | rfl | rfl | rfl <;> rfl
theorem upTo_take (L : Nat → List Pc) (i : Nat) : upTo L i ++ (L i).take (L i).length = upTo L (i + 1) := by rw [List.take_length]; rfl
end Go.Proofs.YtcndilpaijapkaaGreat.Shp
