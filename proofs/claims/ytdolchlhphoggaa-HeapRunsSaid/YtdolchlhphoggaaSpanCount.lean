/-
  How many pages spans have, and how many pages below one they contain. Own work; no program is walked here.
-/
import Derived.Test.YtdolchlhphoggaaSpanSt
namespace Go.Proofs.Ytdolchlhphoggaa

def sumN : List S → Int
  | [] => 0
  | y :: t => y.n + sumN t
theorem sum_snoc {l : List S} {k : Nat} {x : S} (h : l[k]? = some x) : sumN (l.take (k + 1)) = sumN (l.take k) + x.n := by
  induction l generalizing k with
  | nil => cases h
  | cons y t ih =>
    cases k with
    | zero => simp only [List.getElem?_cons_zero, Option.some.injEq] at h; subst h; simp [sumN]
    | succ k =>
      have := ih (k := k) (by simpa using h)
      simp only [List.take_succ_cons, sumN] at this ⊢
      omega
theorem sum_from {P : Int} : ∀ (l : List S) (lo : Int), (∀ x ∈ l, Ok P x) → l.Pairwise Ahead → (∀ x ∈ l, lo ≤ x.a) → lo ≤ P → 0 ≤ sumN l ∧ sumN l ≤ P - lo
  | [], lo, _, _, _, h => by simp [sumN]; omega
  | x :: t, lo, h1, h2, h3, h4 => by
    obtain ⟨h5, h6⟩ := List.pairwise_cons.1 h2
    have o := h1 x (List.mem_cons_self ..)
    have b := h3 x (List.mem_cons_self ..)
    have := sum_from t (x.a + x.n) (fun y hy => h1 y (List.mem_cons_of_mem _ hy)) h6 h5 o.up
    have := o.n1
    simp only [sumN]
    omega
theorem Good.sum {P : Int} {l : List S} (h : Good P l) (hP : 0 ≤ P) : 0 ≤ sumN l ∧ sumN l ≤ P := by
  have := sum_from l 0 h.each h.row (fun x hx => (h.each x hx).a0) hP
  omega
/-- Pages below q of one span. -/
def cov1 (y : S) (q : Int) : Int := if q ≤ y.a then 0 else if q ≤ y.a + y.n then q - y.a else y.n
def covL : List S → Int → Int
  | [], _ => 0
  | y :: t, q => cov1 y q + covL t q
theorem cov1_step (y : S) (q : Int) (h : 1 ≤ y.n) : cov1 y (q + 1) = cov1 y q + (if y.a ≤ q ∧ q < y.a + y.n then 1 else 0) := by
  unfold cov1
  by_cases c : y.a ≤ q
  · by_cases d : q < y.a + y.n
    · rw [if_pos (show y.a ≤ q ∧ q < y.a + y.n from ⟨c, d⟩), if_neg (by omega), if_pos (by omega)]
      by_cases e : q ≤ y.a
      · rw [if_pos e]; omega
      · rw [if_neg e, if_pos (by omega)]; omega
    · rw [if_neg (show ¬ (y.a ≤ q ∧ q < y.a + y.n) from fun h => d h.2), if_neg (by omega), if_neg (by omega), if_neg (by omega)]
      by_cases e : q ≤ y.a + y.n
      · rw [if_pos e]; omega
      · rw [if_neg e]; omega
  · rw [if_neg (show ¬ (y.a ≤ q ∧ q < y.a + y.n) from fun h => c h.1), if_pos (by omega), if_pos (by omega)]
    omega
theorem cov1_bounds (y : S) (q : Int) (h : 1 ≤ y.n) : 0 ≤ cov1 y q ∧ cov1 y q ≤ y.n := by
  unfold cov1
  split
  · omega
  · split <;> omega
theorem cov_none (l : List S) (q : Int) (h1 : ∀ y ∈ l, 1 ≤ y.n) (h : ∀ y ∈ l, ¬ (y.a ≤ q ∧ q < y.a + y.n)) : covL l (q + 1) = covL l q := by
  induction l with
  | nil => rfl
  | cons y t ih =>
    have a := cov1_step y q (h1 y (List.mem_cons_self ..))
    rw [if_neg (h y (List.mem_cons_self ..))] at a
    have b := ih (fun z hz => h1 z (List.mem_cons_of_mem _ hz)) (fun z hz => h z (List.mem_cons_of_mem _ hz))
    simp only [covL]
    omega
theorem cov_some (l : List S) (q : Int) (h1 : ∀ y ∈ l, 1 ≤ y.n) (hp : l.Pairwise Ahead) (y : S) (hy : y ∈ l) (h : y.a ≤ q ∧ q < y.a + y.n) : covL l (q + 1) = covL l q + 1 := by
  induction l with
  | nil => cases hy
  | cons x t ih =>
    obtain ⟨h5, h6⟩ := List.pairwise_cons.1 hp
    have a := cov1_step x q (h1 x (List.mem_cons_self ..))
    simp only [covL]
    rcases List.mem_cons.1 hy with e | hy
    · subst e
      rw [if_pos h] at a
      have b := cov_none t q (fun z hz => h1 z (List.mem_cons_of_mem _ hz)) (fun z hz c => by have : y.a + y.n ≤ z.a := h5 z hz; omega)
      omega
    · have e : x.a + x.n ≤ y.a := h5 y hy
      rw [if_neg (fun c => by omega)] at a
      have b := ih (fun z hz => h1 z (List.mem_cons_of_mem _ hz)) h6 hy
      omega
theorem cov_step {P : Int} {l : List S} (g : Good P l) (q : Int) : covL l (q + 1) = covL l q + (if ofB l q = true then 1 else 0) := by
  have h1 : ∀ y ∈ l, 1 ≤ y.n := fun y hy => (g.each y hy).n1
  unfold ofB
  cases c : ofL l q with
  | none =>
    rw [cov_none l q h1 (fun y hy h => by
      obtain ⟨i, hi⟩ := List.mem_iff_getElem?.1 hy
      exact of_none g c i y hi h)]
    simp
  | some y =>
    obtain ⟨hy, hb⟩ := of_some c
    rw [cov_some l q h1 g.row y (List.mem_of_getElem? hy) hb]
    simp
theorem cov_zero {P : Int} {l : List S} (h : ∀ y ∈ l, Ok P y) : covL l 0 = 0 := by
  induction l with
  | nil => rfl
  | cons y t ih =>
    have := (h y (List.mem_cons_self ..)).a0
    simp only [covL, cov1]
    rw [if_pos this, ih (fun z hz => h z (List.mem_cons_of_mem _ hz))]
    rfl
theorem cov_all {P : Int} {l : List S} (h : ∀ y ∈ l, Ok P y) : covL l P = sumN l := by
  induction l with
  | nil => rfl
  | cons y t ih =>
    have o := h y (List.mem_cons_self ..)
    have := o.up
    have := o.n1
    simp only [covL, cov1, sumN]
    rw [if_neg (by omega), ih (fun z hz => h z (List.mem_cons_of_mem _ hz))]
    split <;> omega
theorem cov_bounds {P : Int} {l : List S} (h : ∀ y ∈ l, Ok P y) (q : Int) : 0 ≤ covL l q ∧ covL l q ≤ sumN l := by
  induction l with
  | nil => exact ⟨Int.le_refl _, Int.le_refl _⟩
  | cons y t ih =>
    have a := cov1_bounds y q (h y (List.mem_cons_self ..)).n1
    have b := ih (fun z hz => h z (List.mem_cons_of_mem _ hz))
    simp only [covL, sumN]
    omega
end Go.Proofs.Ytdolchlhphoggaa
