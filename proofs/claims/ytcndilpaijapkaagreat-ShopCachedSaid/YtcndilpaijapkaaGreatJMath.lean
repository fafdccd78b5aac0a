/-
  Joined texts of Math; own work.
-/
import Derived.Lib.Hide
import Derived.Test.YtcndilpaijapkaaGreatRows
import Derived.Test.YtcndilpaijapkaaGreatJSize
/- Lists of runs as lists of pairs of numbers: which are right, what is taken, what is put, which pages are there. Own work; no program is walked here. -/
namespace Go.Proofs.YtcndilpaijapkaaGreat

abbrev R := Int × Int

/-! ### Right -/
/-- Each run from f on, one page between. -/
def rightB (p : Int) : Int → List R → Bool
  | _, [] => true
  | f, x :: t => decide (0 ≤ x.1 ∧ 1 ≤ x.2 ∧ x.1 + x.2 ≤ p ∧ f ≤ x.1) && rightB p (x.1 + x.2 + 1) t
def rightL (p : Int) (l : List R) : Bool := decide (0 ≤ p ∧ p ≤ 256) && rightB p 0 l
def Right (p : Int) : Int → List R → Prop
  | _, [] => True
  | f, x :: t => 0 ≤ x.1 ∧ 1 ≤ x.2 ∧ x.1 + x.2 ≤ p ∧ f ≤ x.1 ∧ Right p (x.1 + x.2 + 1) t
theorem right_iff (p f : Int) (l : List R) : rightB p f l = true ↔ Right p f l := by
  induction l generalizing f with
  | nil => simp [rightB, Right]
  | cons x t ih =>
    simp only [rightB, Right, Bool.and_eq_true, decide_eq_true_eq, ih]
    constructor
    · rintro ⟨⟨a, b, c, d⟩, e⟩; exact ⟨a, b, c, d, e⟩
    · rintro ⟨a, b, c, d, e⟩; exact ⟨⟨a, b, c, d⟩, e⟩
/-- Where the next run may begin behind the first k. -/
def nextAt (l : List R) : Nat → Int
  | 0 => 0
  | k + 1 => match l[k]? with
    | some x => x.1 + x.2 + 1
    | none => 0
theorem nextAt_succ (l : List R) (k : Nat) (x : R) (h : l[k]? = some x) : nextAt l (k + 1) = x.1 + x.2 + 1 := by simp [nextAt, h]
theorem drop_cons {α : Type} {l : List α} {k : Nat} {x : α} (h : l[k]? = some x) : l.drop k = x :: l.drop (k + 1) := by
  obtain ⟨hk, rfl⟩ := List.getElem?_eq_some_iff.1 h
  exact List.drop_eq_getElem_cons hk
theorem take_snoc {α : Type} {l : List α} {k : Nat} {x : α} (h : l[k]? = some x) : l.take (k + 1) = l.take k ++ [x] := by
  obtain ⟨hk, rfl⟩ := List.getElem?_eq_some_iff.1 h
  exact List.take_succ_eq_append_getElem hk
theorem split_at {α : Type} {l : List α} {k : Nat} {x : α} (h : l[k]? = some x) : l = l.take k ++ x :: l.drop (k + 1) := by
  rw [← drop_cons h, List.take_append_drop]
theorem rightB_step (p f : Int) (l : List R) (k : Nat) (x : R) (h : l[k]? = some x) :
    rightB p f (l.drop k) = (decide (0 ≤ x.1 ∧ 1 ≤ x.2 ∧ x.1 + x.2 ≤ p ∧ f ≤ x.1) && rightB p (x.1 + x.2 + 1) (l.drop (k + 1))) := by
  rw [drop_cons h, rightB]
theorem right_yes {p : Int} {l : List R} {k : Nat} {x : R} (h : rightB p 0 l = rightB p (nextAt l k) (l.drop k)) (hx : l[k]? = some x) (c : 0 ≤ x.1 ∧ 1 ≤ x.2 ∧ x.1 + x.2 ≤ p ∧ nextAt l k ≤ x.1) :
    rightB p 0 l = rightB p (nextAt l (k + 1)) (l.drop (k + 1)) := by
  rw [h, rightB_step _ _ _ _ _ hx, nextAt_succ _ _ _ hx, decide_eq_true c, Bool.true_and]
theorem right_no {p : Int} {l : List R} {k : Nat} {x : R} (h : rightB p 0 l = rightB p (nextAt l k) (l.drop k)) (hx : l[k]? = some x) (c : ¬ (0 ≤ x.1 ∧ 1 ≤ x.2 ∧ x.1 + x.2 ≤ p ∧ nextAt l k ≤ x.1)) : rightB p 0 l = false := by
  rw [h, rightB_step _ _ _ _ _ hx, decide_eq_false c, Bool.false_and]
theorem right_end {p : Int} {l : List R} {k : Nat} (h : rightB p 0 l = rightB p (nextAt l k) (l.drop k)) (hk : l.length ≤ k) : rightB p 0 l = true := by
  rw [h, List.drop_eq_nil_of_le hk]; rfl
theorem Right.mono {p f f' : Int} {l : List R} (h : Right p f l) (c : f' ≤ f) : Right p f' l := by
  cases l with
  | nil => trivial
  | cons x t =>
    obtain ⟨a, b, d, e, g⟩ := h
    exact ⟨a, b, d, by omega, g⟩
theorem Right.wide {p p' f : Int} {l : List R} (h : Right p f l) (c : p ≤ p') : Right p' f l := by
  induction l generalizing f with
  | nil => trivial
  | cons x t ih =>
    obtain ⟨a, b, d, e, g⟩ := h
    exact ⟨a, b, by omega, e, ih g⟩
/-- Where the next run may begin behind all of l. -/
def lastF (f : Int) : List R → Int
  | [] => f
  | x :: t => lastF (x.1 + x.2 + 1) t
theorem right_append {p f : Int} {xs ys : List R} : Right p f (xs ++ ys) ↔ Right p f xs ∧ Right p (lastF f xs) ys := by
  induction xs generalizing f with
  | nil => simp [Right, lastF]
  | cons x t ih =>
    simp only [List.cons_append, Right, ih, lastF]
    constructor
    · rintro ⟨a, b, c, d, e, g⟩; exact ⟨⟨a, b, c, d, e⟩, g⟩
    · rintro ⟨⟨a, b, c, d, e⟩, g⟩; exact ⟨a, b, c, d, e, g⟩
theorem lastF_ge {p f : Int} {xs : List R} (h : Right p f xs) : f ≤ lastF f xs := by
  induction xs generalizing f with
  | nil => exact Int.le_refl _
  | cons x t ih =>
    obtain ⟨a, b, c, d, e⟩ := h
    have := ih e
    simp only [lastF]
    omega
theorem lastF_le {p f : Int} {xs : List R} (h : Right p f xs) (c : f ≤ p + 1) : lastF f xs ≤ p + 1 := by
  induction xs generalizing f with
  | nil => exact c
  | cons x t ih =>
    obtain ⟨a, b, c, d, e⟩ := h
    exact ih e (by omega)
theorem lastF_mem {p f : Int} {xs : List R} (h : Right p f xs) : ∀ x ∈ xs, f ≤ x.1 ∧ 0 ≤ x.1 ∧ 1 ≤ x.2 ∧ x.1 + x.2 ≤ p ∧ x.1 + x.2 + 1 ≤ lastF f xs := by
  induction xs generalizing f with
  | nil => intro x hx; cases hx
  | cons y t ih =>
    obtain ⟨a, b, c, d, e⟩ := h
    intro x hx
    have g := lastF_ge e
    simp only [lastF]
    rcases List.mem_cons.1 hx with rfl | hx
    · exact ⟨d, a, b, c, g⟩
    · obtain ⟨h1, h2, h3, h4, h5⟩ := ih e x hx
      exact ⟨by omega, h2, h3, h4, h5⟩
theorem Right.mem {p f : Int} {xs : List R} (h : Right p f xs) {x : R} (hx : x ∈ xs) : f ≤ x.1 ∧ 0 ≤ x.1 ∧ 1 ≤ x.2 ∧ x.1 + x.2 ≤ p := by
  obtain ⟨a, b, c, d, _⟩ := lastF_mem h x hx
  exact ⟨a, b, c, d⟩
theorem Right.len {p f : Int} {xs : List R} (h : Right p f xs) (c : f ≤ p + 1) : (xs.length : Int) + f ≤ p + 1 := by
  induction xs generalizing f with
  | nil => simpa using c
  | cons x t ih =>
    obtain ⟨a, b, d, e, g⟩ := h
    have := ih g (by omega)
    simp only [List.length_cons]
    omega
theorem Right.at {p : Int} {l : List R} (h : Right p 0 l) {k : Nat} {x : R} (hx : l[k]? = some x) : 0 ≤ x.1 ∧ 1 ≤ x.2 ∧ x.1 + x.2 ≤ p := (h.mem (List.mem_of_getElem? hx)).2
/-- Of two of them the lower lies wholly below. -/
theorem Right.apart {p : Int} {l : List R} (h : Right p 0 l) {i j : Nat} {x y : R} (hx : l[i]? = some x) (hy : l[j]? = some y) (c : i < j) : x.1 + x.2 + 1 ≤ y.1 := by
  rw [split_at hx] at h
  have h2 := (right_append.1 h).2.2.2.2.2
  obtain ⟨m, rfl⟩ : ∃ m, j = i + 1 + m := ⟨j - (i + 1), by omega⟩
  have : y ∈ l.drop (i + 1) := List.mem_of_getElem? (i := m) (by rw [List.getElem?_drop]; exact hy)
  exact (h2.mem this).1

/-! ### Fit and Take -/
/-- Run i is the first of at least n pages. -/
structure Fits (l : List R) (n : Int) (i : Nat) (x : R) : Prop where
  at_ : l[i]? = some x
  big : n ≤ x.2
  below : ∀ y ∈ l.take i, y.2 < n
def fitB (l : List R) (n : Int) : Bool := l.any fun x => decide (n ≤ x.2)
theorem fits_of {l : List R} {n : Int} (h : fitB l n = true) : ∃ i x, Fits l n i x := by
  induction l with
  | nil => cases h
  | cons y t ih =>
    by_cases c : n ≤ y.2
    · exact ⟨0, y, rfl, c, by intro z hz; simp at hz⟩
    · simp only [fitB, List.any_cons, decide_eq_false c, Bool.false_or] at h
      obtain ⟨i, x, a, b, d⟩ := ih h
      refine ⟨i + 1, x, by simpa using a, b, ?_⟩
      intro z hz
      rw [List.take_succ_cons] at hz
      rcases List.mem_cons.1 hz with rfl | hz
      · omega
      · exact d z hz
theorem fit_none {l : List R} {n : Int} (h : fitB l n = false) : ∀ x ∈ l, x.2 < n := by
  intro x hx
  simp only [fitB, List.any_eq_false, decide_eq_true_eq] at h
  have := h x hx
  omega
theorem Fits.yes {l : List R} {n : Int} {i : Nat} {x : R} (h : Fits l n i x) : fitB l n = true := by
  simp only [fitB, List.any_eq_true, decide_eq_true_eq]
  exact ⟨x, List.mem_of_getElem? h.at_, h.big⟩
theorem Fits.lt {l : List R} {n : Int} {i : Nat} {x : R} (h : Fits l n i x) : i < l.length := (List.getElem?_eq_some_iff.1 h.at_).1
/-- What is left of run x behind a take of n. -/
def rest (x : R) (n : Int) : List R := if x.2 - n = 0 then [] else [(x.1 + n, x.2 - n)]
def takeL (l : List R) (n : Int) (i : Nat) (x : R) : List R := l.take i ++ (rest x n ++ l.drop (i + 1))
theorem right_take {p : Int} {l : List R} {n : Int} {i : Nat} {x : R} (h : Right p 0 l) (f : Fits l n i x) (hn : 1 ≤ n) : Right p 0 (takeL l n i x) := by
  have b := f.big
  rw [split_at f.at_] at h
  obtain ⟨h1, a0, a1, a2, a3, h2⟩ := right_append.1 h
  unfold takeL rest
  refine right_append.2 ⟨h1, ?_⟩
  by_cases c : x.2 - n = 0
  · rw [if_pos c, List.nil_append]
    exact h2.mono (by omega)
  · rw [if_neg c, List.singleton_append]
    exact ⟨by show 0 ≤ x.1 + n; omega, by show 1 ≤ x.2 - n; omega, by show x.1 + n + (x.2 - n) ≤ p; omega, by show _ ≤ x.1 + n; omega, h2.mono (by show x.1 + n + (x.2 - n) + 1 ≤ _; omega)⟩
/-- Which pages are there. -/
def inR (x : R) (g : Int) : Bool := decide (x.1 ≤ g ∧ g < x.1 + x.2)
def hasB (l : List R) (g : Int) : Bool := l.any fun x => inR x g
theorem has_append (xs ys : List R) (g : Int) : hasB (xs ++ ys) g = (hasB xs g || hasB ys g) := by simp [hasB]
theorem has_cons (x : R) (ys : List R) (g : Int) : hasB (x :: ys) g = (inR x g || hasB ys g) := by simp [hasB]
theorem has_below {p f : Int} {l : List R} (h : Right p f l) {g : Int} (c : g < f) : hasB l g = false := by
  simp only [hasB, List.any_eq_false, inR, decide_eq_true_eq]
  intro x hx
  have := h.mem hx
  omega
theorem has_above {p f : Int} {l : List R} (h : Right p f l) {g : Int} (c : lastF f l - 1 ≤ g) : hasB l g = false := by
  simp only [hasB, List.any_eq_false, inR, decide_eq_true_eq]
  intro x hx
  have := lastF_mem h x hx
  omega
theorem has_take {p : Int} {l : List R} {n : Int} {i : Nat} {x : R} (h : Right p 0 l) (f : Fits l n i x) (hn : 1 ≤ n) (g : Int) :
    hasB (takeL l n i x) g = (hasB l g && !decide (x.1 ≤ g ∧ g < x.1 + n)) := by
  have b := f.big
  have hl : hasB l g = (hasB (l.take i) g || (inR x g || hasB (l.drop (i + 1)) g)) := by
    conv => lhs; rw [split_at f.at_]
    rw [has_append, has_cons]
  rw [split_at f.at_] at h
  obtain ⟨h1, a0, a1, a2, a3, h2⟩ := right_append.1 h
  rw [hl]
  unfold takeL
  rw [has_append, has_append]
  have hr : hasB (rest x n) g = (inR x g && !decide (x.1 ≤ g ∧ g < x.1 + n)) := by
    unfold rest
    by_cases c : x.2 - n = 0
    · rw [if_pos c]
      simp only [hasB, List.any_nil, inR]
      by_cases d : x.1 ≤ g ∧ g < x.1 + n
      · simp [d]
      · rw [decide_eq_false (p := x.1 ≤ g ∧ g < x.1 + x.2) (by omega), Bool.false_and]
    · rw [if_neg c]
      simp only [hasB, List.any_cons, List.any_nil, inR, Bool.or_false]
      by_cases d : x.1 ≤ g ∧ g < x.1 + n
      · rw [decide_eq_true d, decide_eq_false (by omega)]; simp
      · rw [decide_eq_false d]
        by_cases e : x.1 ≤ g ∧ g < x.1 + x.2
        · rw [decide_eq_true e, decide_eq_true (by omega)]; rfl
        · rw [decide_eq_false e, decide_eq_false (by omega)]; rfl
  rw [hr]
  by_cases d : x.1 ≤ g ∧ g < x.1 + n
  · rw [has_above h1 (by omega), has_below h2 (by omega), decide_eq_true d]; simp
  · rw [decide_eq_false d]; simp
theorem has_taken {l : List R} {n : Int} {i : Nat} {x : R} (f : Fits l n i x) {g : Int} (c : x.1 ≤ g ∧ g < x.1 + n) : hasB l g = true := by
  simp only [hasB, List.any_eq_true, inR, decide_eq_true_eq]
  have := f.big
  exact ⟨x, List.mem_of_getElem? f.at_, by omega⟩
theorem has_snoc {l : List R} {k : Nat} {x : R} (g : Int) (h : l[k]? = some x) (a : hasB (l.take k) g = false) (b : ¬ (x.1 ≤ g ∧ g < x.1 + x.2)) : hasB (l.take (k + 1)) g = false := by
  rw [take_snoc h, has_append, a, has_cons]; simp [hasB, inR, b]
theorem has_hit {l : List R} {k : Nat} {x : R} {g : Int} (h : l[k]? = some x) (b : x.1 ≤ g ∧ g < x.1 + x.2) : hasB l g = true := by
  simp only [hasB, List.any_eq_true, inR, decide_eq_true_eq]
  exact ⟨x, List.mem_of_getElem? h, b⟩
def totalL (l : List R) : Int := (l.map (·.2)).sum
theorem total_append (xs ys : List R) : totalL (xs ++ ys) = totalL xs + totalL ys := by simp [totalL]
theorem total_take {l : List R} {n : Int} {i : Nat} {x : R} (f : Fits l n i x) : totalL (takeL l n i x) = totalL l - n := by
  conv => rhs; rw [split_at f.at_]
  unfold takeL rest
  rw [total_append, total_append, total_append]
  by_cases c : x.2 - n = 0
  · rw [if_pos c]; simp only [totalL, List.map_nil, List.map_cons, List.sum_nil, List.sum_cons]; omega
  · rw [if_neg c]; simp only [totalL, List.map_nil, List.map_cons, List.sum_nil, List.sum_cons]; omega
theorem total_le {p f : Int} {l : List R} (h : Right p f l) (c : f ≤ p + 1) : 0 ≤ totalL l ∧ totalL l + f ≤ p + 1 := by
  induction l generalizing f with
  | nil => simp [totalL]; omega
  | cons x t ih =>
    obtain ⟨a, b, d, e, g⟩ := h
    have := ih g (by omega)
    simp only [totalL, List.map_cons, List.sum_cons] at this ⊢
    omega
theorem total_snoc {l : List R} {k : Nat} {x : R} (h : l[k]? = some x) : totalL (l.take (k + 1)) = totalL (l.take k) + x.2 := by
  rw [take_snoc h, total_append]; simp [totalL]
theorem Right.take {p f : Int} {l : List R} (h : Right p f l) (k : Nat) : Right p f (l.take k) := by
  rw [← List.take_append_drop k l] at h
  exact (right_append.1 h).1
def mostL (l : List R) : Int := l.foldl (fun m x => max m x.2) 0
theorem most_snoc {l : List R} {k : Nat} {x : R} (h : l[k]? = some x) : mostL (l.take (k + 1)) = max (mostL (l.take k)) x.2 := by
  rw [take_snoc h]; simp [mostL]
theorem most_lt {l : List R} {n : Int} (h : ∀ x ∈ l, x.2 < n) (hn : 1 ≤ n) : mostL l < n := by
  have : ∀ (l : List R) (m : Int), m < n → (∀ x ∈ l, x.2 < n) → l.foldl (fun m x => max m x.2) m < n := by
    intro l
    induction l with
    | nil => intro m hm _; exact hm
    | cons y t ih =>
      intro m hm h
      have := h y (List.mem_cons_self ..)
      exact ih _ (by show max m y.2 < n; omega) (fun x hx => h x (List.mem_cons_of_mem _ hx))
  exact this l 0 (by omega) h
/-- The document's way: each run, the one that is cut cut, those that have pages. -/
def cutAt (l : List R) (n : Int) (i : Nat) (x : R) : List R := l.set i (x.1 + n, x.2 - n)
def keepL (l : List R) : List R := l.filter fun x => decide (0 < x.2)
theorem keep_all {p f : Int} {l : List R} (h : Right p f l) : keepL l = l := by
  unfold keepL
  rw [List.filter_eq_self]
  intro x hx
  have := h.mem hx
  exact decide_eq_true (by omega)
theorem cut_keep {p : Int} {l : List R} {n : Int} {i : Nat} {x : R} (h : Right p 0 l) (f : Fits l n i x) : keepL (cutAt l n i x) = takeL l n i x := by
  have hi := f.lt
  have b := f.big
  have e : cutAt l n i x = l.take i ++ (x.1 + n, x.2 - n) :: l.drop (i + 1) := by
    unfold cutAt
    rw [List.set_eq_take_append_cons_drop, if_pos hi]
  rw [e]
  rw [split_at f.at_] at h
  obtain ⟨h1, a0, a1, a2, a3, h2⟩ := right_append.1 h
  have k1 := keep_all h1
  have k2 := keep_all h2
  unfold keepL takeL rest at *
  rw [List.filter_append, List.filter_cons, k1, k2]
  by_cases c : x.2 - n = 0
  · rw [if_pos c, if_neg (by simp; omega), List.nil_append]
  · rw [if_neg c, if_pos (by simp; omega), List.singleton_append]
theorem keep_yes {l : List R} {k : Nat} {x : R} (h : l[k]? = some x) (c : 0 < x.2) : keepL (l.take (k + 1)) = keepL (l.take k) ++ [x] := by
  rw [take_snoc h]; unfold keepL; rw [List.filter_append]; simp [c]
theorem keep_no {l : List R} {k : Nat} {x : R} (h : l[k]? = some x) (c : ¬ 0 < x.2) : keepL (l.take (k + 1)) = keepL (l.take k) := by
  rw [take_snoc h]; unfold keepL; rw [List.filter_append]; simp [c]
theorem keep_len (l : List R) (k : Nat) : (keepL (l.take k)).length ≤ k := by
  have := List.length_filter_le (fun x : R => decide (0 < x.2)) (l.take k)
  have h2 : (l.take k).length ≤ k := List.length_take_le k l
  unfold keepL
  omega
theorem cut_get_at {l : List R} {n : Int} {i : Nat} {x : R} (h : l[i]? = some x) : (cutAt l n i x)[i]? = some (x.1 + n, x.2 - n) := by
  unfold cutAt; rw [List.getElem?_set_self (List.getElem?_eq_some_iff.1 h).1]
theorem cut_get_far {l : List R} {n : Int} {i k : Nat} {x : R} (h : k ≠ i) : (cutAt l n i x)[k]? = l[k]? := by
  unfold cutAt; rw [List.getElem?_set_ne (by omega)]
theorem cut_len (l : List R) (n : Int) (i : Nat) (x : R) : (cutAt l n i x).length = l.length := by unfold cutAt; simp

/-! ### Put -/
def front (a n : Int) : List R → List R
  | [] => [(a, n)]
  | y :: t => if a + n = y.1 then (a, n + y.2) :: t else (a, n) :: y :: t
theorem front_cons (a n : Int) (y : R) (t : List R) : front a n (y :: t) = if a + n = y.1 then (a, n + y.2) :: t else (a, n) :: y :: t := rfl
def putL : List R → Int → Int → List R
  | [], a, n => [(a, n)]
  | x :: t, a, n => if x.1 + x.2 < a then x :: putL t a n else if x.1 + x.2 = a then front x.1 (x.2 + n) t else front a n (x :: t)
def freeB (l : List R) (a n : Int) : Bool := l.all fun x => decide (x.1 + x.2 ≤ a ∨ a + n ≤ x.1)
theorem free_mem {l : List R} {a n : Int} (h : freeB l a n = true) : ∀ x ∈ l, x.1 + x.2 ≤ a ∨ a + n ≤ x.1 := by
  intro x hx
  simp only [freeB, List.all_eq_true, decide_eq_true_eq] at h
  exact h x hx
theorem free_of {l : List R} {a n : Int} (h : ∀ x ∈ l, x.1 + x.2 ≤ a ∨ a + n ≤ x.1) : freeB l a n = true := by
  simp only [freeB, List.all_eq_true, decide_eq_true_eq]; exact h
theorem not_free {l : List R} {a n : Int} {x : R} (hx : x ∈ l) (c : a < x.1 + x.2) (d : x.1 < a + n) : freeB l a n = false := by
  cases h : freeB l a n with
  | false => rfl
  | true => have := free_mem h x hx; omega
theorem put_below {xs ys : List R} {a n : Int} (h : ∀ x ∈ xs, x.1 + x.2 < a) : putL (xs ++ ys) a n = xs ++ putL ys a n := by
  induction xs with
  | nil => rfl
  | cons x t ih =>
    rw [List.cons_append, putL, if_pos (h x (List.mem_cons_self ..)), ih (fun y hy => h y (List.mem_cons_of_mem _ hy)), List.cons_append]
theorem put_above {ys : List R} {a n : Int} (h : ∀ y ∈ ys, a + n ≤ y.1 ∧ 1 ≤ y.2) (hn : 1 ≤ n) : putL ys a n = front a n ys := by
  cases ys with
  | nil => rfl
  | cons y t =>
    have := h y (List.mem_cons_self ..)
    rw [putL, if_neg (by omega), if_neg (by omega)]
/-- What the program does: the runs ahead of place i, the last of them joined or not. -/
theorem put_join {l : List R} {a n : Int} {i : Nat} {x : R} (h : Right 256 0 l) (hx : l[i]? = some x) (c : x.1 + x.2 = a) : putL l a n = l.take i ++ front x.1 (x.2 + n) (l.drop (i + 1)) := by
  conv => lhs; rw [split_at hx]
  have h' := h
  rw [split_at hx] at h'
  obtain ⟨h1, a0, a1, a2, a3, h2⟩ := right_append.1 h'
  rw [put_below (fun y hy => by have := lastF_mem h1 y hy; omega), putL, if_neg (by omega), if_pos c]
theorem put_place {l : List R} {a n : Int} {i : Nat} (h : Right 256 0 l) (h1 : ∀ x ∈ l.take i, x.1 + x.2 < a) (h2 : ∀ y ∈ l.drop i, a + n ≤ y.1) (hn : 1 ≤ n) : putL l a n = l.take i ++ front a n (l.drop i) := by
  conv => lhs; rw [← List.take_append_drop i l]
  rw [put_below h1, put_above (fun y hy => ⟨h2 y hy, (h.mem (List.mem_of_mem_drop hy)).2.2.1⟩) hn]
theorem right_front {p f g a n : Int} {t : List R} (h : Right p g t) (h0 : 0 ≤ a) (hf : f ≤ a) (hn : 1 ≤ n) (hp : a + n ≤ p) (c : ∀ y ∈ t, a + n ≤ y.1) : Right p f (front a n t) := by
  cases t with
  | nil => exact ⟨h0, hn, hp, hf, trivial⟩
  | cons y t =>
    obtain ⟨b0, b1, b2, b3, h2⟩ := h
    have cy := c y (List.mem_cons_self ..)
    rw [front_cons]
    by_cases d : a + n = y.1
    · rw [if_pos d]
      exact ⟨h0, by show 1 ≤ n + y.2; omega, by show a + (n + y.2) ≤ p; omega, hf, h2.mono (by show a + (n + y.2) + 1 ≤ _; omega)⟩
    · rw [if_neg d]
      exact ⟨h0, hn, hp, hf, b0, b1, b2, by show a + n + 1 ≤ y.1; omega, h2⟩
theorem right_put {p f a n : Int} {l : List R} (h : Right p f l) (h0 : 0 ≤ a) (hf : f ≤ a) (hn : 1 ≤ n) (hp : a + n ≤ p) (c : ∀ x ∈ l, x.1 + x.2 ≤ a ∨ a + n ≤ x.1) : Right p f (putL l a n) := by
  induction l generalizing f with
  | nil => exact ⟨h0, hn, hp, hf, trivial⟩
  | cons x t ih =>
    obtain ⟨b0, b1, b2, b3, h2⟩ := h
    have cx := c x (List.mem_cons_self ..)
    have ct : ∀ y ∈ t, y.1 + y.2 ≤ a ∨ a + n ≤ y.1 := fun y hy => c y (List.mem_cons_of_mem _ hy)
    unfold putL
    by_cases d : x.1 + x.2 < a
    · rw [if_pos d]
      exact ⟨b0, b1, b2, b3, ih h2 (by omega) ct⟩
    · rw [if_neg d]
      by_cases e : x.1 + x.2 = a
      · rw [if_pos e]
        exact right_front h2 b0 b3 (by omega) (by omega) (fun y hy => by have := ct y hy; have := h2.mem hy; omega)
      · rw [if_neg e]
        refine right_front (g := f) (t := x :: t) ⟨b0, b1, b2, b3, h2⟩ h0 hf hn hp (fun y hy => ?_)
        rcases List.mem_cons.1 hy with rfl | hy
        · omega
        · have := h2.mem hy; omega
theorem has_front {a n g : Int} {t : List R} (hn : 1 ≤ n) (c : ∀ y ∈ t, 1 ≤ y.2) : hasB (front a n t) g = (decide (a ≤ g ∧ g < a + n) || hasB t g) := by
  cases t with
  | nil => simp [front, hasB, inR]
  | cons y t =>
    have cy := c y (List.mem_cons_self ..)
    rw [front_cons]
    by_cases d : a + n = y.1
    · rw [if_pos d, has_cons, has_cons, ← Bool.or_assoc]
      congr 1
      simp only [inR]
      by_cases e : a ≤ g ∧ g < a + n
      · rw [decide_eq_true e, decide_eq_true (by omega)]; rfl
      · rw [decide_eq_false e, Bool.false_or]
        by_cases k : y.1 ≤ g ∧ g < y.1 + y.2
        · rw [decide_eq_true k, decide_eq_true (by omega)]
        · rw [decide_eq_false k, decide_eq_false (by omega)]
    · rw [if_neg d, has_cons]; rfl
theorem has_put {p f a n g : Int} {l : List R} (h : Right p f l) (hn : 1 ≤ n) : hasB (putL l a n) g = (hasB l g || decide (a ≤ g ∧ g < a + n)) := by
  induction l generalizing f with
  | nil => simp [putL, hasB, inR]
  | cons x t ih =>
    obtain ⟨b0, b1, b2, b3, h2⟩ := h
    have c : ∀ y ∈ t, 1 ≤ y.2 := fun y hy => (h2.mem hy).2.2.1
    unfold putL
    by_cases d : x.1 + x.2 < a
    · rw [if_pos d, has_cons, has_cons, ih h2, Bool.or_assoc]
    · rw [if_neg d]
      by_cases e : x.1 + x.2 = a
      · rw [if_pos e, has_front (by omega) c, has_cons]
        simp only [inR]
        by_cases k : a ≤ g ∧ g < a + n
        · rw [decide_eq_true k, decide_eq_true (by omega)]; simp
        · rw [decide_eq_false k, Bool.or_false]
          congr 1
          by_cases m : x.1 ≤ g ∧ g < x.1 + x.2
          · rw [decide_eq_true m, decide_eq_true (by omega)]
          · rw [decide_eq_false m, decide_eq_false (by omega)]
      · rw [if_neg e, has_front hn (fun y hy => by rcases List.mem_cons.1 hy with rfl | hy; exact b1; exact c y hy), Bool.or_comm]
theorem put_len (l : List R) (a n : Int) : (putL l a n).length ≤ l.length + 1 := by
  have fr : ∀ (a n : Int) (t : List R), (front a n t).length ≤ t.length + 1 := by
    intro a n t
    cases t with
    | nil => simp [front]
    | cons y t => rw [front_cons]; split <;> simp
  induction l with
  | nil => simp [putL]
  | cons x t ih =>
    unfold putL
    split
    · simp only [List.length_cons]; omega
    · split
      · have := fr x.1 (x.2 + n) t; simp only [List.length_cons]; omega
      · exact fr a n (x :: t)
/-- What is taken, and put back. -/
theorem put_take {l : List R} {n : Int} {i : Nat} {x : R} (h : Right 256 0 l) (f : Fits l n i x) (hn : 1 ≤ n) : putL (takeL l n i x) x.1 n = l := by
  have b := f.big
  have h' := h
  rw [split_at f.at_] at h'
  obtain ⟨h1, a0, a1, a2, a3, h2⟩ := right_append.1 h'
  unfold takeL
  rw [put_below (fun y hy => by have := lastF_mem h1 y hy; omega)]
  conv => rhs; rw [split_at f.at_]
  congr 1
  unfold rest
  by_cases c : x.2 - n = 0
  · rw [if_pos c, List.nil_append, put_above (fun y hy => by have := h2.mem hy; omega) hn]
    have e : n = x.2 := by omega
    cases hd : l.drop (i + 1) with
    | nil => simp [front, e]
    | cons y t =>
      have := h2.mem (x := y) (by rw [hd]; exact List.mem_cons_self ..)
      rw [front_cons, if_neg (by omega), e]
  · rw [if_neg c, List.singleton_append, putL, if_neg (by show ¬ x.1 + n + (x.2 - n) < x.1; omega), if_neg (by show ¬ x.1 + n + (x.2 - n) = x.1; omega)]
    rw [front_cons, if_pos rfl]
    congr 1
    show (x.1, n + (x.2 - n)) = x
    rw [show n + (x.2 - n) = x.2 by omega]
theorem free_take {l : List R} {n : Int} {i : Nat} {x : R} (h : Right 256 0 l) (f : Fits l n i x) : freeB (takeL l n i x) x.1 n = true := by
  have b := f.big
  rw [split_at f.at_] at h
  obtain ⟨h1, a0, a1, a2, a3, h2⟩ := right_append.1 h
  refine free_of fun y hy => ?_
  unfold takeL rest at hy
  rcases List.mem_append.1 hy with hy | hy
  · have := lastF_mem h1 y hy; omega
  · rcases List.mem_append.1 hy with hy | hy
    · by_cases c : x.2 - n = 0
      · rw [if_pos c] at hy; cases hy
      · rw [if_neg c] at hy
        obtain rfl := List.mem_singleton.1 hy
        right; exact Int.le_refl _
    · have := h2.mem hy; omega

/-! ### The document's way of putting -/
structure St where
  a : Int
  n : Int
  ah : List R
  be : List R
def putStep (s : St) (x : R) : St :=
  if x.1 + x.2 = s.a then ⟨x.1, x.2 + s.n, s.ah, s.be⟩ else if x.1 = s.a + s.n then ⟨s.a, s.n + x.2, s.ah, s.be⟩ else if x.1 < s.a then ⟨s.a, s.n, s.ah ++ [x], s.be⟩ else ⟨s.a, s.n, s.ah, s.be ++ [x]⟩
def putFold (l : List R) (a n : Int) : St := l.foldl putStep ⟨a, n, [], []⟩
theorem fold_snoc {l : List R} {k : Nat} {x : R} (a n : Int) (h : l[k]? = some x) : putFold (l.take (k + 1)) a n = putStep (putFold (l.take k) a n) x := by
  unfold putFold; rw [take_snoc h, List.foldl_append]; rfl
theorem fold_behind {p f : Int} (l : List R) (h : Right p f l) (a n : Int) (ah be : List R) (hn : 1 ≤ n) (c : a + n < f) : l.foldl putStep ⟨a, n, ah, be⟩ = ⟨a, n, ah, be ++ l⟩ := by
  induction l generalizing f be with
  | nil => simp
  | cons x t ih =>
    obtain ⟨b0, b1, b2, b3, h2⟩ := h
    rw [List.foldl_cons]
    have e : putStep ⟨a, n, ah, be⟩ x = ⟨a, n, ah, be ++ [x]⟩ := by
      unfold putStep
      rw [if_neg (by show ¬ x.1 + x.2 = a; omega), if_neg (by show ¬ x.1 = a + n; omega), if_neg (by show ¬ x.1 < a; omega)]
    rw [e, ih h2 _ (by omega)]
    simp
def St.all (s : St) : List R := s.ah ++ (s.a, s.n) :: s.be
theorem fold_front {p f : Int} (l : List R) (h : Right p f l) (a n : Int) (ah : List R) (hn : 1 ≤ n) (c : ∀ y ∈ l, a + n ≤ y.1) : (l.foldl putStep ⟨a, n, ah, []⟩).all = ah ++ front a n l := by
  cases l with
  | nil => rfl
  | cons x t =>
    obtain ⟨b0, b1, b2, b3, h2⟩ := h
    have cx := c x (List.mem_cons_self ..)
    rw [List.foldl_cons]
    rw [front_cons]
    by_cases d : a + n = x.1
    · have e : putStep ⟨a, n, ah, []⟩ x = ⟨a, n + x.2, ah, []⟩ := by
        unfold putStep
        rw [if_neg (by show ¬ x.1 + x.2 = a; omega), if_pos (by show x.1 = a + n; omega)]
      rw [e, if_pos d, fold_behind t h2 a (n + x.2) ah [] (by omega) (by omega)]
      rfl
    · have e : putStep ⟨a, n, ah, []⟩ x = ⟨a, n, ah, [x]⟩ := by
        unfold putStep
        rw [if_neg (by show ¬ x.1 + x.2 = a; omega), if_neg (by show ¬ x.1 = a + n; omega), if_neg (by show ¬ x.1 < a; omega)]
        rfl
      rw [e, if_neg d, fold_behind t h2 a n ah [x] hn (by omega)]
      rfl
theorem fold_put {p f : Int} (l : List R) (h : Right p f l) (a n : Int) (ah : List R) (hn : 1 ≤ n) (c : ∀ x ∈ l, x.1 + x.2 ≤ a ∨ a + n ≤ x.1) : (l.foldl putStep ⟨a, n, ah, []⟩).all = ah ++ putL l a n := by
  induction l generalizing f ah with
  | nil => rfl
  | cons x t ih =>
    have hh := h
    obtain ⟨b0, b1, b2, b3, h2⟩ := h
    have cx := c x (List.mem_cons_self ..)
    have ct : ∀ y ∈ t, y.1 + y.2 ≤ a ∨ a + n ≤ y.1 := fun y hy => c y (List.mem_cons_of_mem _ hy)
    unfold putL
    by_cases d : x.1 + x.2 < a
    · rw [if_pos d, List.foldl_cons]
      have e : putStep ⟨a, n, ah, []⟩ x = ⟨a, n, ah ++ [x], []⟩ := by
        unfold putStep
        rw [if_neg (by show ¬ x.1 + x.2 = a; omega), if_neg (by show ¬ x.1 = a + n; omega), if_pos (by show x.1 < a; omega)]
      rw [e, ih h2 _ ct]
      simp
    · rw [if_neg d]
      by_cases e : x.1 + x.2 = a
      · rw [if_pos e, List.foldl_cons]
        have e' : putStep ⟨a, n, ah, []⟩ x = ⟨x.1, x.2 + n, ah, []⟩ := by
          unfold putStep
          rw [if_pos (by show x.1 + x.2 = a; omega)]
        rw [e']
        exact fold_front t h2 _ _ ah (by omega) (fun y hy => by have := ct y hy; have := h2.mem hy; omega)
      · rw [if_neg e]
        refine fold_front (x :: t) hh a n ah hn (fun y hy => ?_)
        rcases List.mem_cons.1 hy with rfl | hy
        · omega
        · have := h2.mem hy; omega
theorem putFold_all {l : List R} {a n : Int} (h : Right 256 0 l) (hn : 1 ≤ n) (c : freeB l a n = true) : (putFold l a n).all = putL l a n := by
  have := fold_put l h a n [] hn (free_mem c)
  simpa [putFold] using this
/-- The numbers stay small, the lists short. -/
theorem fold_small {l : List R} {a n : Int} (h : Right 256 0 l) (ha : 0 ≤ a ∧ a ≤ 256) (hn : 1 ≤ n ∧ n ≤ 256) (k : Nat) :
    0 ≤ (putFold (l.take k) a n).a ∧ (putFold (l.take k) a n).a ≤ 256 ∧ 1 ≤ (putFold (l.take k) a n).n ∧ (putFold (l.take k) a n).n ≤ 256 * (k + 1) ∧ (putFold (l.take k) a n).ah.length + (putFold (l.take k) a n).be.length ≤ k := by
  induction k with
  | zero => simp [putFold]; omega
  | succ k ih =>
    by_cases c : k < l.length
    · have hx : l[k]? = some l[k] := List.getElem?_eq_getElem c
      have hm := h.at hx
      rw [fold_snoc a n hx]
      obtain ⟨i1, i2, i3, i4, i5⟩ := ih
      generalize putFold (l.take k) a n = s at *
      generalize l[k] = x at *
      unfold putStep
      split
      · simp only; omega
      · split
        · simp only; omega
        · split
          · simp only [List.length_append, List.length_singleton]; omega
          · simp only [List.length_append, List.length_singleton]; omega
    · rw [List.take_of_length_le (by omega)] at ih ⊢
      omega
end Go.Proofs.YtcndilpaijapkaaGreat
/- Lists of spans as plain data: what a table of spans answers. Own work; no program is walked here. -/
namespace Go.Proofs.YtcndilpaijapkaaGreat

/-- A span: first page, pages, class. -/
@[ext] structure S where
  a : Int
  n : Int
  c : Int
deriving DecidableEq, Inhabited

/-- A span that may lie in a table of P pages. -/
structure Ok (P : Int) (x : S) : Prop where
  a0 : 0 ≤ x.a
  n1 : 1 ≤ x.n
  up : x.a + x.n ≤ P
  c0 : 0 ≤ x.c
  c7 : x.c < 8
abbrev Ahead (x y : S) : Prop := x.a + x.n ≤ y.a
/-- Spans in their order, none over another. -/
structure Good (P : Int) (l : List S) : Prop where
  each : ∀ x ∈ l, Ok P x
  row : l.Pairwise Ahead
theorem Good.nil (P : Int) : Good P [] := ⟨fun _ h => by (cases h), .nil⟩
theorem Ok.mono {P Q : Int} {x : S} (h : Ok P x) (k : P ≤ Q) : Ok Q x := ⟨h.a0, h.n1, Int.le_trans h.up k, h.c0, h.c7⟩
theorem Good.mono {P Q : Int} {l : List S} (h : Good P l) (k : P ≤ Q) : Good Q l := ⟨fun x hx => (h.each x hx).mono k, h.row⟩
theorem Good.at {P : Int} {l : List S} (h : Good P l) {i : Nat} {x : S} (hx : l[i]? = some x) : Ok P x := h.each x (List.mem_of_getElem? hx)
theorem Good.two {P : Int} {l : List S} (h : Good P l) {i j : Nat} {x y : S} (hx : l[i]? = some x) (hy : l[j]? = some y) (k : i < j) : x.a + x.n ≤ y.a := by
  obtain ⟨hi, rfl⟩ := List.getElem?_eq_some_iff.1 hx
  obtain ⟨hj, rfl⟩ := List.getElem?_eq_some_iff.1 hy
  exact List.pairwise_iff_getElem.1 h.row i j hi hj k
theorem Good.sub {P : Int} {l m : List S} (h : Good P l) (k : m.Sublist l) : Good P m := ⟨fun x hx => h.each x (k.subset hx), h.row.sublist k⟩
theorem len_from {P : Int} : ∀ (l : List S) (lo : Int), (∀ x ∈ l, Ok P x) → l.Pairwise Ahead → (∀ x ∈ l, lo ≤ x.a) → lo ≤ P → (l.length : Int) ≤ P - lo
  | [], lo, _, _, _, h => by simp; omega
  | x :: t, lo, h1, h2, h3, h4 => by
    obtain ⟨h5, h6⟩ := List.pairwise_cons.1 h2
    have o := h1 x (List.mem_cons_self ..)
    have b := h3 x (List.mem_cons_self ..)
    have := len_from t (x.a + x.n) (fun y hy => h1 y (List.mem_cons_of_mem _ hy)) h6 h5 o.up
    have := o.n1
    simp only [List.length_cons]
    omega
theorem Good.len {P : Int} {l : List S} (h : Good P l) (hP : 0 ≤ P) : (l.length : Int) ≤ P := by
  have := len_from l 0 h.each h.row (fun x hx => (h.each x hx).a0) hP
  omega

/-- How many spans end at a page or before it. -/
def placeL : List S → Int → Nat
  | [], _ => 0
  | y :: t, p => if y.a + y.n ≤ p then placeL t p + 1 else 0
theorem place_le (l : List S) (p : Int) : placeL l p ≤ l.length := by
  induction l with
  | nil => exact Nat.le_refl _
  | cons y t ih => unfold placeL; split <;> simp <;> omega
theorem place_lo (l : List S) (p : Int) {i : Nat} {y : S} (h : l[i]? = some y) (k : i < placeL l p) : y.a + y.n ≤ p := by
  induction l generalizing i with
  | nil => cases h
  | cons z t ih =>
    unfold placeL at k
    split at k
    · cases i with
      | zero => simp only [List.getElem?_cons_zero, Option.some.injEq] at h; subst h; assumption
      | succ i => exact ih (by simpa using h) (by omega)
    · omega
theorem place_hi (l : List S) (p : Int) {y : S} (h : l[placeL l p]? = some y) : p < y.a + y.n := by
  induction l with
  | nil => cases h
  | cons z t ih =>
    unfold placeL at h
    split at h
    · exact ih (by simpa using h)
    · simp only [List.getElem?_cons_zero, Option.some.injEq] at h; subst h; omega
/-- It is told by what stands there. -/
theorem place_eq {l : List S} {p : Int} {i : Nat} (h0 : i ≤ l.length) (h1 : ∀ j y, l[j]? = some y → j < i → y.a + y.n ≤ p) (h2 : ∀ y, l[i]? = some y → p < y.a + y.n) : placeL l p = i := by
  rcases Nat.lt_trichotomy (placeL l p) i with c | c | c
  · have hl : placeL l p < l.length := by omega
    have e : l[placeL l p]? = some l[placeL l p] := List.getElem?_eq_getElem hl
    have := place_hi l p e
    have := h1 _ _ e c
    omega
  · exact c
  · have hl : i < l.length := by have := place_le l p; omega
    have e : l[i]? = some l[i] := List.getElem?_eq_getElem hl
    have := place_lo l p e c
    have := h2 _ e
    omega
theorem place_in {P : Int} {l : List S} (h : Good P l) {p : Int} {i : Nat} {y : S} (hy : l[i]? = some y) (h1 : y.a ≤ p) (h2 : p < y.a + y.n) : placeL l p = i :=
  place_eq (by have := (List.getElem?_eq_some_iff.1 hy).1; omega) (fun j z hz hj => by have := h.two hz hy hj; omega) (fun z hz => by rw [hy] at hz; obtain rfl := Option.some.inj hz; exact h2)

/-- The span that contains a page. -/
def ofL (l : List S) (p : Int) : Option S := match l[placeL l p]? with
  | some y => if y.a ≤ p then some y else none
  | none => none
theorem of_some {l : List S} {p : Int} {y : S} (h : ofL l p = some y) : l[placeL l p]? = some y ∧ y.a ≤ p ∧ p < y.a + y.n := by
  unfold ofL at h
  split at h
  · rename_i z hz
    split at h
    · obtain rfl := Option.some.inj h
      exact ⟨hz, by assumption, place_hi l p hz⟩
    · cases h
  · cases h
theorem of_at {P : Int} {l : List S} (h : Good P l) {p : Int} {i : Nat} {y : S} (hy : l[i]? = some y) (h1 : y.a ≤ p) (h2 : p < y.a + y.n) : ofL l p = some y := by
  have e := place_in h hy h1 h2
  unfold ofL
  rw [e, hy]
  simp [h1]
theorem of_none {P : Int} {l : List S} (h : Good P l) {p : Int} (k : ofL l p = none) : ∀ (i : Nat) (y : S), l[i]? = some y → ¬ (y.a ≤ p ∧ p < y.a + y.n) := by
  intro i y hy ⟨h1, h2⟩
  rw [of_at h hy h1 h2] at k
  cases k
theorem of_none_at {l : List S} {p : Int} (k : ofL l p = none) {y : S} (h : l[placeL l p]? = some y) : p < y.a := by
  unfold ofL at k
  rw [h] at k
  simp only at k
  split at k
  · cases k
  · omega

/-- Is there a page of x in a span of l? -/
def hitB (l : List S) (x : S) : Bool := match l[placeL l x.a]? with
  | some y => decide (y.a < x.a + x.n)
  | none => false
theorem hit_some {l : List S} {x : S} (h : hitB l x = true) : ∃ y, l[placeL l x.a]? = some y ∧ y.a < x.a + x.n ∧ x.a < y.a + y.n := by
  unfold hitB at h
  split at h
  · rename_i y hy
    exact ⟨y, hy, of_decide_eq_true h, place_hi l _ hy⟩
  · cases h
theorem hit_none {l : List S} {x : S} (h : hitB l x = false) {y : S} (hy : l[placeL l x.a]? = some y) : x.a + x.n ≤ y.a := by
  unfold hitB at h
  rw [hy] at h
  have := of_decide_eq_false h
  omega
theorem miss_all {P : Int} {l : List S} (g : Good P l) {x : S} (h : hitB l x = false) {i : Nat} {y : S} (hy : l[i]? = some y) (k : placeL l x.a ≤ i) : x.a + x.n ≤ y.a := by
  have hl : placeL l x.a < l.length := by have := (List.getElem?_eq_some_iff.1 hy).1; omega
  have e : l[placeL l x.a]? = some l[placeL l x.a] := List.getElem?_eq_getElem hl
  have b := hit_none h e
  rcases Nat.lt_or_ge (placeL l x.a) i with c | c
  · have := g.two e hy c
    have := (g.at e).n1
    omega
  · obtain rfl : i = placeL l x.a := by omega
    rw [e] at hy
    obtain rfl := Option.some.inj hy
    exact b
/-- The list behind an Add. -/
def insL (l : List S) (x : S) : List S := l.take (placeL l x.a) ++ x :: l.drop (placeL l x.a)
theorem ins_len (l : List S) (x : S) : (insL l x).length = l.length + 1 := by
  have := place_le l x.a
  simp [insL]
  omega
theorem mem_take_at {l : List S} {i : Nat} {y : S} (h : y ∈ l.take i) : ∃ j, j < i ∧ l[j]? = some y := by
  obtain ⟨j, hj⟩ := List.mem_iff_getElem?.1 h
  have hl := (List.getElem?_eq_some_iff.1 hj).1
  rw [List.length_take] at hl
  rw [List.getElem?_take, if_pos (by omega)] at hj
  exact ⟨j, by omega, hj⟩
theorem mem_drop_at {l : List S} {i : Nat} {y : S} (h : y ∈ l.drop i) : ∃ j, i ≤ j ∧ l[j]? = some y := by
  obtain ⟨j, hj⟩ := List.mem_iff_getElem?.1 h
  rw [List.getElem?_drop] at hj
  exact ⟨i + j, by omega, hj⟩
theorem Good.ins {P : Int} {l : List S} (g : Good P l) {x : S} (ok : Ok P x) (h : hitB l x = false) : Good P (insL l x) := by
  refine ⟨fun y hy => ?_, ?_⟩
  · simp only [insL, List.mem_append, List.mem_cons] at hy
    rcases hy with hy | rfl | hy
    · exact g.each y (List.mem_of_mem_take hy)
    · exact ok
    · exact g.each y (List.mem_of_mem_drop hy)
  · unfold insL
    refine List.pairwise_append.2 ⟨g.row.sublist (List.take_sublist ..), List.pairwise_cons.2 ⟨fun y hy => ?_, g.row.sublist (List.drop_sublist ..)⟩, fun y hy z hz => ?_⟩
    · obtain ⟨j, hj, e⟩ := mem_drop_at hy
      exact miss_all g h e hj
    · obtain ⟨j, hj, e⟩ := mem_take_at hy
      have b := place_lo l x.a e hj
      rcases List.mem_cons.1 hz with rfl | hz
      · exact b
      · obtain ⟨k, hk, f⟩ := mem_drop_at hz
        exact g.two e f (by omega)
/-- The list behind a Remove. -/
def delL (l : List S) (p : Int) : List S := l.take (placeL l p) ++ l.drop (placeL l p + 1)
theorem Good.del {P : Int} {l : List S} (g : Good P l) (p : Int) : Good P (delL l p) := by
  refine ⟨fun y hy => ?_, ?_⟩
  · rcases List.mem_append.1 hy with hy | hy
    · exact g.each y (List.mem_of_mem_take hy)
    · exact g.each y (List.mem_of_mem_drop hy)
  · refine List.pairwise_append.2 ⟨g.row.sublist (List.take_sublist ..), g.row.sublist (List.drop_sublist ..), fun y hy z hz => ?_⟩
    obtain ⟨j, hj, e⟩ := mem_take_at hy
    obtain ⟨k, hk, f⟩ := mem_drop_at hz
    exact g.two e f (by omega)
/-- The span that begins at a page. -/
def begL (l : List S) (p : Int) : Option S := match ofL l p with
  | some y => if y.a = p then some y else none
  | none => none
theorem beg_some {l : List S} {p : Int} {y : S} (h : begL l p = some y) : ofL l p = some y ∧ y.a = p := by
  unfold begL at h
  split at h
  · rename_i z hz
    split at h
    · obtain rfl := Option.some.inj h
      exact ⟨hz, by assumption⟩
    · cases h
  · cases h
theorem beg_none {l : List S} {p : Int} (h : begL l p = none) : ofL l p = none ∨ ∃ y, ofL l p = some y ∧ y.a ≠ p := by
  unfold begL at h
  split at h
  · rename_i z hz
    split at h
    · cases h
    · exact .inr ⟨z, hz, by assumption⟩
  · exact .inl (by assumption)
theorem beg_at {P : Int} {l : List S} (g : Good P l) {p : Int} {i : Nat} {y : S} (hy : l[i]? = some y) (h : y.a = p) : begL l p = some y := by
  have := (g.at hy).n1
  unfold begL
  rw [of_at g hy (by omega) (by omega)]
  simp [h]
theorem beg_none_all {P : Int} {l : List S} (g : Good P l) {p : Int} (h : begL l p = none) : ∀ (i : Nat) (y : S), l[i]? = some y → y.a ≠ p := by
  intro i y hy e
  rw [beg_at g hy e] at h
  cases h
theorem del_len {l : List S} {p : Int} {y : S} (h : ofL l p = some y) : (delL l p).length + 1 = l.length := by
  have := (List.getElem?_eq_some_iff.1 (of_some h).1).1
  simp [delL]
  omega
end Go.Proofs.YtcndilpaijapkaaGreat
/- Chains in a list of words: what a walk tells (walkL), a chain with an end (Ch). Own work; no program is walked here. -/
namespace Go.Proofs.YtcndilpaijapkaaGreat

/-- The addresses from a head on, m at most; none: there are more, or a word is too great. -/
def walkL (ws : List Nat) : Nat → Nat → Option (List Nat)
  | 0, h => if h = 0 then some [] else none
  | m + 1, h => if h = 0 then some [] else
    match ws[h - 1]? with
    | some x => if x ≤ ws.length then (walkL ws m x).map ((h - 1) :: ·) else none
    | none => none
theorem walkL_zero (ws : List Nat) (m : Nat) : walkL ws m 0 = some [] := by cases m <;> rfl
theorem walkL_no (ws : List Nat) (h : Nat) : walkL ws 0 (h + 1) = none := rfl
theorem walkL_succ (ws : List Nat) (m h x : Nat) (hx : ws[h]? = some x) : walkL ws (m + 1) (h + 1) = if x ≤ ws.length then (walkL ws m x).map (h :: ·) else none := by
  show (if h + 1 = 0 then some [] else match ws[h + 1 - 1]? with | some x => if x ≤ ws.length then (walkL ws m x).map ((h + 1 - 1) :: ·) else none | none => none) = _
  rw [if_neg (by omega), Nat.add_sub_cancel, hx]
/-- A head of which a walk tells something. -/
theorem walkL_parts {ws : List Nat} {m h : Nat} {l : List Nat} (e : walkL ws m h = some l) : (h = 0 ∧ l = []) ∨ ∃ a x t m', h = a + 1 ∧ m = m' + 1 ∧ ws[a]? = some x ∧ x ≤ ws.length ∧ walkL ws m' x = some t ∧ l = a :: t := by
  cases h with
  | zero => rw [walkL_zero] at e; exact .inl ⟨rfl, (Option.some.inj e).symm⟩
  | succ a =>
    cases m with
    | zero => rw [walkL_no] at e; cases e
    | succ m =>
      cases hx : ws[a]? with
      | none =>
        have : walkL ws (m + 1) (a + 1) = none := by
          show (if a + 1 = 0 then some [] else match ws[a + 1 - 1]? with | some x => if x ≤ ws.length then (walkL ws m x).map ((a + 1 - 1) :: ·) else none | none => none) = _
          rw [if_neg (by omega), Nat.add_sub_cancel, hx]
        rw [this] at e
        cases e
      | some x =>
        rw [walkL_succ ws m a x hx] at e
        by_cases c : x ≤ ws.length
        · rw [if_pos c] at e
          obtain ⟨t, ht, rfl⟩ := Option.map_eq_some_iff.1 e
          exact .inr ⟨a, x, t, m, rfl, rfl, hx, c, ht, rfl⟩
        · rw [if_neg c] at e
          cases e
theorem walkL_mk {ws : List Nat} {m a x : Nat} {t : List Nat} (hx : ws[a]? = some x) (hl : x ≤ ws.length) (e : walkL ws m x = some t) : walkL ws (m + 1) (a + 1) = some (a :: t) := by
  rw [walkL_succ ws m a x hx, if_pos hl, e]; rfl
theorem walkL_mono {ws : List Nat} : ∀ {l : List Nat} {m m' h : Nat}, walkL ws m h = some l → l.length ≤ m' → walkL ws m' h = some l := by
  intro l
  induction l with
  | nil =>
    intro m m' h e _
    rcases walkL_parts e with ⟨rfl, _⟩ | ⟨a, x, t, m1, _, _, _, _, _, h6⟩
    · exact walkL_zero _ _
    · cases h6
  | cons b l ih =>
    intro m m' h e hm
    rcases walkL_parts e with ⟨_, h2⟩ | ⟨a, x, t, m1, rfl, rfl, hx, hl, ht, h6⟩
    · cases h2
    · obtain ⟨rfl, rfl⟩ := List.cons.inj h6
      cases m' with
      | zero => simp at hm
      | succ m' => exact walkL_mk hx hl (ih ht (by simpa using hm))
theorem walkL_len {ws : List Nat} : ∀ {l : List Nat} {m h : Nat}, walkL ws m h = some l → l.length ≤ m := by
  intro l
  induction l with
  | nil => intros; simp
  | cons b l ih =>
    intro m h e
    rcases walkL_parts e with ⟨_, h2⟩ | ⟨a, x, t, m1, rfl, rfl, hx, hl, ht, h6⟩
    · cases h2
    · obtain ⟨rfl, rfl⟩ := List.cons.inj h6
      have := ih ht
      simp; omega
theorem walkL_one {ws : List Nat} {l l' : List Nat} {m m' h : Nat} (e : walkL ws m h = some l) (e' : walkL ws m' h = some l') : l = l' := by
  have a := walkL_mono (m' := max l.length l'.length) e (by omega)
  have b := walkL_mono (m' := max l.length l'.length) e' (by omega)
  rw [a] at b
  exact Option.some.inj b
theorem walkL_lt {ws : List Nat} : ∀ {l : List Nat} {m h : Nat}, walkL ws m h = some l → ∀ a ∈ l, a < ws.length := by
  intro l
  induction l with
  | nil => intro _ _ _ a h; cases h
  | cons b l ih =>
    intro m h e a ha
    rcases walkL_parts e with ⟨_, h2⟩ | ⟨a', x, t, m1, rfl, rfl, hx, hl, ht, h6⟩
    · cases h2
    · obtain ⟨rfl, rfl⟩ := List.cons.inj h6
      rcases List.mem_cons.1 ha with rfl | ha
      · exact (List.getElem?_eq_some_iff.1 hx).1
      · exact ih ht a ha
theorem walkL_behind {ws : List Nat} : ∀ {p : List Nat} {a : Nat} {t : List Nat} {m h : Nat}, walkL ws m h = some (p ++ a :: t) → ∃ m', walkL ws m' (a + 1) = some (a :: t) := by
  intro p
  induction p with
  | nil =>
    intro a t m h e
    rcases walkL_parts e with ⟨_, h2⟩ | ⟨a', x, t', m1, rfl, rfl, hx, hl, ht, h6⟩
    · cases h2
    · obtain ⟨rfl, rfl⟩ := List.cons.inj h6
      exact ⟨_, e⟩
  | cons b p ih =>
    intro a t m h e
    rcases walkL_parts e with ⟨_, h2⟩ | ⟨a', x, t', m1, rfl, rfl, hx, hl, ht, h6⟩
    · cases h2
    · obtain ⟨rfl, rfl⟩ := List.cons.inj h6
      exact ih ht
theorem walkL_nodup {ws : List Nat} : ∀ {l : List Nat} {m h : Nat}, walkL ws m h = some l → l.Nodup := by
  intro l
  induction l with
  | nil => intros; exact List.nodup_nil
  | cons b l ih =>
    intro m h e
    have e0 := e
    rcases walkL_parts e with ⟨_, h2⟩ | ⟨a, x, t, m1, rfl, rfl, hx, hl, ht, h6⟩
    · cases h2
    · obtain ⟨rfl, rfl⟩ := List.cons.inj h6
      refine List.nodup_cons.2 ⟨fun hm => ?_, ih ht⟩
      obtain ⟨p, q, hpq⟩ := List.append_of_mem hm
      rw [hpq] at ht
      obtain ⟨m', e'⟩ := walkL_behind ht
      have := walkL_one e0 e'
      rw [hpq] at this
      have := congrArg List.length this
      simp at this
      omega
theorem nodup_length : ∀ (n : Nat) (l : List Nat), l.Nodup → (∀ a ∈ l, a < n) → l.length ≤ n := by
  intro n
  induction n with
  | zero => intro l _ h; cases l with | nil => simp | cons a t => have := h a (by simp); omega
  | succ n ih =>
    intro l hd h
    have hd' := hd.erase n
    have := ih (l.erase n) hd' (fun a ha => by
      have ne := (hd.mem_erase_iff).1 ha
      have := h a ne.2
      omega)
    rw [List.length_erase] at this
    split at this <;> omega
/-- A walk as far as there are words is as far as any. -/
theorem walkL_cap (ws : List Nat) (m h : Nat) : walkL ws (min m ws.length) h = walkL ws m h := by
  cases e : walkL ws m h with
  | some l => exact walkL_mono e (by have := walkL_len e; have := nodup_length ws.length l (walkL_nodup e) (walkL_lt e); omega)
  | none =>
    cases f : walkL ws (min m ws.length) h with
    | none => rfl
    | some l => rw [walkL_mono (m' := m) f (by have := walkL_len f; omega)] at e; cases e

/-! ### A chain with an end -/
def Ch (ws : List Nat) : Nat → List Nat → Prop
  | h, [] => h = 0
  | h, a :: t => h = a + 1 ∧ ∃ x, ws[a]? = some x ∧ x ≤ ws.length ∧ Ch ws x t
theorem Ch.nil (ws : List Nat) : Ch ws 0 [] := rfl
theorem Ch.le {ws : List Nat} {h : Nat} {l : List Nat} (c : Ch ws h l) : h ≤ ws.length := by
  cases l with
  | nil => have : h = 0 := c; omega
  | cons a t => obtain ⟨rfl, x, hx, _⟩ := c; exact (List.getElem?_eq_some_iff.1 hx).1
theorem Ch.walk {ws : List Nat} : ∀ {l : List Nat} {h : Nat}, Ch ws h l → ∀ m, walkL ws m h = if l.length ≤ m then some l else none := by
  intro l
  induction l with
  | nil => intro h c m; obtain rfl : h = 0 := c; rw [walkL_zero, if_pos (by simp)]
  | cons a t ih =>
    intro h c m
    obtain ⟨rfl, x, hx, hl, ct⟩ := c
    cases m with
    | zero => rw [walkL_no, if_neg (by simp)]
    | succ m =>
      rw [walkL_succ ws m a x hx, if_pos hl, ih ct m]
      by_cases d : t.length ≤ m
      · rw [if_pos d, if_pos (by simpa using d)]; rfl
      · rw [if_neg d, if_neg (by simpa using d)]; rfl
/-- A word elsewhere does not matter. -/
theorem Ch.far {ws : List Nat} {k y : Nat} : ∀ {l : List Nat} {h : Nat}, Ch ws h l → k ∉ l → Ch (ws.set k y) h l := by
  intro l
  induction l with
  | nil => intro h c _; exact c
  | cons a t ih =>
    intro h c hk
    obtain ⟨rfl, x, hx, hl, ct⟩ := c
    refine ⟨rfl, x, ?_, by rw [List.length_set]; exact hl, ih ct (fun m => hk (List.mem_cons_of_mem _ m))⟩
    rw [List.getElem?_set_ne (fun e => hk (by rw [e]; exact List.mem_cons_self))]
    exact hx
theorem Ch.push {ws : List Nat} {k h : Nat} {l : List Nat} (c : Ch ws h l) (hk : k < ws.length) (hl : k ∉ l) : Ch (ws.set k h) (k + 1) (k :: l) :=
  ⟨rfl, h, by rw [List.getElem?_set_self hk], by rw [List.length_set]; exact c.le, c.far hl⟩
theorem Ch.pop {ws : List Nat} {h a : Nat} {t : List Nat} (c : Ch ws h (a :: t)) : h = a + 1 ∧ ∃ x, ws[a]? = some x ∧ x ≤ ws.length ∧ Ch ws x t := c
/-- A word at the end that is too great is met. -/
theorem Ch.broken {ws : List Nat} {a y : Nat} (hy : ws.length < y) : ∀ {p : List Nat} {h : Nat}, Ch ws h (p ++ [a]) → a ∉ p → ∀ m, walkL (ws.set a y) m h = none := by
  intro p
  induction p with
  | nil =>
    intro h c _ m
    obtain ⟨rfl, x, hx, _⟩ := c
    cases m with
    | zero => rfl
    | succ m => rw [walkL_succ (ws.set a y) m a y (by rw [List.getElem?_set_self (List.getElem?_eq_some_iff.1 hx).1]), if_neg (by rw [List.length_set]; omega)]
  | cons b p ih =>
    intro h c hp m
    obtain ⟨rfl, x, hx, hl, ct⟩ := c
    cases m with
    | zero => rfl
    | succ m =>
      rw [walkL_succ (ws.set a y) m b x (by rw [List.getElem?_set_ne (fun e => hp (by rw [e]; exact List.mem_cons_self))]; exact hx), if_pos (by rw [List.length_set]; exact hl), ih ct (fun q => hp (List.mem_cons_of_mem _ q)) m]
      rfl
end Go.Proofs.YtcndilpaijapkaaGreat
/- A pool as a list of spans with their free stacks, with no program in sight: what is added, taken, put; which list may be (GoodP); the chains of a list in words (Chs). Own work; nothing is assumed. -/
namespace Go.Proofs.YtcndilpaijapkaaGreat.Prt

/-- A span: its first page, its free stacks, the chain's first one first. -/
structure Q where
  page : Nat
  free : List Nat
def wN (c : Nat) : Nat := if c = 0 then 32 else if c = 1 then 64 else if c = 2 then 128 else 256
def perN (c : Nat) : Nat := if c = 0 then 16 else if c = 1 then 8 else if c = 2 then 4 else 2
theorem c_ways {c : Nat} (h : c < 4) : (c = 0 ∧ wN c = 32 ∧ perN c = 16) ∨ (c = 1 ∧ wN c = 64 ∧ perN c = 8) ∨ (c = 2 ∧ wN c = 128 ∧ perN c = 4) ∨ (c = 3 ∧ wN c = 256 ∧ perN c = 2) := by
  rcases (show c = 0 ∨ c = 1 ∨ c = 2 ∨ c = 3 by omega) with rfl | rfl | rfl | rfl
  · exact .inl ⟨rfl, rfl, rfl⟩
  · exact .inr (.inl ⟨rfl, rfl, rfl⟩)
  · exact .inr (.inr (.inl ⟨rfl, rfl, rfl⟩))
  · exact .inr (.inr (.inr ⟨rfl, rfl, rfl⟩))
theorem wordsI_c {c : Nat} (h : c < 4) : wordsI (c : Int) = ((wN c : Nat) : Int) := by
  rcases (show c = 0 ∨ c = 1 ∨ c = 2 ∨ c = 3 by omega) with rfl | rfl | rfl | rfl <;> decide
theorem perI_c {c : Nat} (h : c < 4) : perI (c : Int) = ((perN c : Nat) : Int) := by
  rcases (show c = 0 ∨ c = 1 ∨ c = 2 ∨ c = 3 by omega) with rfl | rfl | rfl | rfl <;> decide
theorem w_pos {c : Nat} (h : c < 4) : 0 < wN c := by rcases c_ways h with ⟨_, e, _⟩ | ⟨_, e, _⟩ | ⟨_, e, _⟩ | ⟨_, e, _⟩ <;> omega
theorem w_le {c : Nat} (h : c < 4) : wN c ≤ 256 := by rcases c_ways h with ⟨_, e, _⟩ | ⟨_, e, _⟩ | ⟨_, e, _⟩ | ⟨_, e, _⟩ <;> omega
theorem per_pos {c : Nat} (h : c < 4) : 0 < perN c ∧ perN c ≤ 16 := by rcases c_ways h with ⟨_, _, e⟩ | ⟨_, _, e⟩ | ⟨_, _, e⟩ | ⟨_, _, e⟩ <;> omega
theorem w_per {c : Nat} (h : c < 4) : perN c * wN c = 512 := by
  rcases (show c = 0 ∨ c = 1 ∨ c = 2 ∨ c = 3 by omega) with rfl | rfl | rfl | rfl <;> decide

/-! ### Where stacks begin -/
/-- Does a stack of the span at page begin at a? -/
def atB (c page : Nat) (a : Int) : Bool := decide (((page * 64 : Nat) : Int) ≤ a ∧ a < ((page * 64 + 512 : Nat) : Int) ∧ (a - ((page * 64 : Nat) : Int)) % ((wN c : Nat) : Int) = 0)
def stk (c page i : Nat) : Nat := page * 64 + i * wN c
theorem mul_lt_of {i n w : Nat} (h : i < n) : i * w + w ≤ n * w := by
  have : (i + 1) * w ≤ n * w := Nat.mul_le_mul_right w h
  rw [Nat.add_mul, Nat.one_mul] at this
  exact this
theorem stk_lt {c page i : Nat} (h : c < 4) (hi : i < perN c) : stk c page i + wN c ≤ page * 64 + 512 := by
  have := mul_lt_of (w := wN c) hi
  have := w_per h
  unfold stk
  omega
theorem at_stk {c page i : Nat} (h : c < 4) (hi : i < perN c) : atB c page ((stk c page i : Nat) : Int) = true := by
  have h1 := stk_lt (page := page) h hi
  have h2 := w_pos h
  refine decide_eq_true ⟨?_, ?_, ?_⟩
  · unfold stk; omega
  · omega
  · unfold stk
    rw [show ((page * 64 + i * wN c : Nat) : Int) - ((page * 64 : Nat) : Int) = ((i * wN c : Nat) : Int) by omega]
    rw [← Int.natCast_emod, Nat.mul_mod_left]
    rfl
theorem of_at {c page : Nat} {a : Int} (h : c < 4) (e : atB c page a = true) : ∃ i, i < perN c ∧ a = ((stk c page i : Nat) : Int) := by
  obtain ⟨h1, h2, h3⟩ := of_decide_eq_true e
  obtain ⟨d, hd⟩ : ∃ d : Nat, a - ((page * 64 : Nat) : Int) = (d : Int) := ⟨(a - ((page * 64 : Nat) : Int)).toNat, by omega⟩
  rw [hd, ← Int.natCast_emod] at h3
  have h4 : d % wN c = 0 := by omega
  have h5 := Nat.div_add_mod d (wN c)
  rw [h4, Nat.add_zero, Nat.mul_comm] at h5
  refine ⟨d / wN c, ?_, by unfold stk; omega⟩
  have := w_per h
  rw [Nat.div_lt_iff_lt_mul (w_pos h)]
  omega
theorem at_range {c page : Nat} {a : Int} (e : atB c page a = true) : ((page * 64 : Nat) : Int) ≤ a ∧ a < ((page * 64 + 512 : Nat) : Int) := by
  obtain ⟨h1, h2, h3⟩ := of_decide_eq_true e
  exact ⟨h1, h2⟩
theorem at_no {c page page' : Nat} {a : Int} (e : atB c page a = true) (h : page + 8 ≤ page' ∨ page' + 8 ≤ page) : atB c page' a = false := by
  have h1 := at_range e
  refine decide_eq_false fun h2 => ?_
  omega
/-- All stacks of a span. -/
def allQ (c page : Nat) : List Nat := (List.range (perN c)).map (stk c page)
theorem allQ_length (c page : Nat) : (allQ c page).length = perN c := by unfold allQ; simp
theorem allQ_at {c page : Nat} (h : c < 4) : ∀ a ∈ allQ c page, atB c page (a : Int) = true := by
  intro a ha
  unfold allQ at ha
  obtain ⟨i, hi, rfl⟩ := List.mem_map.1 ha
  exact at_stk h (List.mem_range.1 hi)
theorem stk_inj {c page i j : Nat} (h : c < 4) (e : stk c page i = stk c page j) : i = j := by
  unfold stk at e
  exact Nat.eq_of_mul_eq_mul_right (w_pos h) (by omega)
theorem nodup_map_on {α β : Type} {f : α → β} : ∀ {l : List α}, l.Nodup → (∀ a ∈ l, ∀ b ∈ l, f a = f b → a = b) → (l.map f).Nodup := by
  intro l
  induction l with
  | nil => intros; exact List.nodup_nil
  | cons x t ih =>
    intro hd hf
    rw [List.map_cons, List.nodup_cons]
    rw [List.nodup_cons] at hd
    refine ⟨fun hm => ?_, ih hd.2 (fun a ha b hb => hf a (List.mem_cons_of_mem _ ha) b (List.mem_cons_of_mem _ hb))⟩
    obtain ⟨y, hy, e⟩ := List.mem_map.1 hm
    have := hf y (List.mem_cons_of_mem _ hy) x List.mem_cons_self e
    subst this
    exact hd.1 hy
theorem allQ_nodup {c page : Nat} (h : c < 4) : (allQ c page).Nodup := nodup_map_on List.nodup_range (fun _ _ _ _ e => stk_inj h e)
/-- As many free ones as there are stacks at most. -/
theorem free_len {c page : Nat} {l : List Nat} (h : c < 4) (hd : l.Nodup) (ha : ∀ a ∈ l, atB c page (a : Int) = true) : l.length ≤ perN c := by
  have hk : ∀ a ∈ l, ∃ i, i < perN c ∧ a = stk c page i := fun a m => by
    obtain ⟨i, hi, e⟩ := of_at h (ha a m)
    exact ⟨i, hi, by exact_mod_cast e⟩
  have e : ∀ i, (stk c page i - page * 64) / wN c = i := fun i => by
    unfold stk
    rw [Nat.add_sub_cancel_left, Nat.mul_div_cancel _ (w_pos h)]
  have := nodup_length (perN c) (l.map fun a => (a - page * 64) / wN c) (nodup_map_on hd fun a m b n f => by
    obtain ⟨i, _, rfl⟩ := hk a m
    obtain ⟨j, _, rfl⟩ := hk b n
    simp only [e] at f
    rw [f]) (fun a m => by
    obtain ⟨b, hb, rfl⟩ := List.mem_map.1 m
    obtain ⟨i, hi, rfl⟩ := hk b hb
    simp only [e]
    exact hi)
  simpa using this

/-! ### Lists that may be -/
structure GoodP (P c : Nat) (L : List Q) : Prop where
  cls : c < 4
  inP : ∀ x ∈ L, x.page + 8 ≤ P
  asc : L.Pairwise (fun x y => x.page + 8 ≤ y.page)
  stks : ∀ x ∈ L, ∀ a ∈ x.free, atB c x.page (a : Int) = true
  nod : ∀ x ∈ L, x.free.Nodup
theorem GoodP.nil {P c : Nat} (h : c < 4) : GoodP P c [] := ⟨h, fun _ h => (by cases h), List.Pairwise.nil, fun _ h => (by cases h), fun _ h => (by cases h)⟩
theorem GoodP.few {P c : Nat} {L : List Q} (g : GoodP P c L) {x : Q} (hx : x ∈ L) : x.free.length ≤ perN c := free_len g.cls (g.nod x hx) (g.stks x hx)
theorem pages_len {P : Nat} : ∀ (L : List Q) (lo : Nat), lo ≤ P → (∀ x ∈ L, lo ≤ x.page ∧ x.page + 8 ≤ P) → L.Pairwise (fun x y => x.page + 8 ≤ y.page) → lo + L.length * 8 ≤ P := by
  intro L
  induction L with
  | nil => intro lo h _ _; simpa using h
  | cons x t ih =>
    intro lo h hx hp
    rw [List.pairwise_cons] at hp
    have h0 := hx x List.mem_cons_self
    have := ih (x.page + 8) h0.2 (fun y hy => ⟨hp.1 y hy, (hx y (List.mem_cons_of_mem _ hy)).2⟩) hp.2
    simp only [List.length_cons]
    omega
theorem GoodP.len {P c : Nat} {L : List Q} (g : GoodP P c L) : L.length * 8 ≤ P := by
  have := pages_len L 0 (Nat.zero_le _) (fun x hx => ⟨Nat.zero_le _, g.inP x hx⟩) g.asc
  omega
theorem GoodP.lt {P c : Nat} {L : List Q} (g : GoodP P c L) {x : Q} (hx : x ∈ L) {a : Nat} (ha : a ∈ x.free) : a < P * 64 := by
  have h1 := at_range (g.stks x hx a ha)
  have h2 := g.inP x hx
  omega
/-- Two spans at unlike places. -/
theorem GoodP.two {P c : Nat} {L : List Q} (g : GoodP P c L) {i j : Nat} {x y : Q} (hx : L[i]? = some x) (hy : L[j]? = some y) (ne : i < j) : x.page + 8 ≤ y.page := by
  obtain ⟨hi, rfl⟩ := List.getElem?_eq_some_iff.1 hx
  obtain ⟨hj, rfl⟩ := List.getElem?_eq_some_iff.1 hy
  exact List.pairwise_iff_getElem.1 g.asc i j hi hj ne
theorem GoodP.apart {P c : Nat} {L : List Q} (g : GoodP P c L) {i j : Nat} {x y : Q} (hx : L[i]? = some x) (hy : L[j]? = some y) (ne : i ≠ j) : x.page + 8 ≤ y.page ∨ y.page + 8 ≤ x.page := by
  rcases Nat.lt_or_ge i j with h | h
  · exact .inl (g.two hx hy h)
  · exact .inr (g.two hy hx (by omega))
theorem mem_set {α : Type} {l : List α} {i : Nat} {v x : α} (h : x ∈ l.set i v) : (x = v ∧ i < l.length) ∨ ∃ j, j ≠ i ∧ l[j]? = some x := by
  obtain ⟨j, hj⟩ := List.getElem?_of_mem h
  rw [List.getElem?_set] at hj
  by_cases e : i = j
  · rw [if_pos e] at hj
    by_cases d : i < l.length
    · rw [if_pos d] at hj
      exact .inl ⟨(Option.some.inj hj).symm, d⟩
    · rw [if_neg d] at hj; cases hj
  · rw [if_neg e] at hj
    exact .inr ⟨j, fun f => e f.symm, hj⟩
/-- Another free list at one place. -/
theorem GoodP.turn {P c : Nat} {L : List Q} (g : GoodP P c L) {i : Nat} {x : Q} (hx : L[i]? = some x) (f : List Nat) (h1 : ∀ a ∈ f, atB c x.page (a : Int) = true) (h2 : f.Nodup) : GoodP P c (L.set i ⟨x.page, f⟩) := by
  have hm := List.mem_of_getElem? hx
  refine ⟨g.cls, fun y hy => ?_, ?_, fun y hy => ?_, fun y hy => ?_⟩
  · rcases mem_set hy with ⟨rfl, _⟩ | ⟨j, _, hj⟩
    · exact g.inP x hm
    · exact g.inP y (List.mem_of_getElem? hj)
  · rw [List.pairwise_iff_getElem]
    intro a b ha hb hab
    have e : ∀ k (hk : k < (L.set i ⟨x.page, f⟩).length), ((L.set i ⟨x.page, f⟩)[k]).page = (L[k]'(by simpa using hk)).page := by
      intro k hk
      rw [List.getElem_set]
      by_cases d : i = k
      · rw [if_pos d]
        subst d
        have : L[i]? = some (L[i]'(by simpa using hk)) := List.getElem?_eq_getElem _
        rw [hx] at this
        rw [← Option.some.inj this]
      · rw [if_neg d]
    rw [e a ha, e b hb]
    exact List.pairwise_iff_getElem.1 g.asc a b (by simpa using ha) (by simpa using hb) hab
  · rcases mem_set hy with ⟨rfl, _⟩ | ⟨j, _, hj⟩
    · exact h1
    · exact g.stks y (List.mem_of_getElem? hj)
  · rcases mem_set hy with ⟨rfl, _⟩ | ⟨j, _, hj⟩
    · exact h2
    · exact g.nod y (List.mem_of_getElem? hj)
theorem GoodP.sub {P c : Nat} {L M : List Q} (g : GoodP P c L) (h : M.Sublist L) : GoodP P c M :=
  ⟨g.cls, fun x hx => g.inP x (h.subset hx), g.asc.sublist h, fun x hx => g.stks x (h.subset hx), fun x hx => g.nod x (h.subset hx)⟩

/-! ### Add -/
/-- Where the span from p on belongs; none: it has a page in common with one. -/
def placeQ (p : Nat) : List Q → Option Nat
  | [] => some 0
  | x :: t => if p + 8 ≤ x.page then some 0 else if p < x.page + 8 then none else (placeQ p t).map (· + 1)
theorem placeQ_some {p : Nat} : ∀ {L : List Q} {i : Nat}, placeQ p L = some i → L.Pairwise (fun x y => x.page + 8 ≤ y.page) → i ≤ L.length ∧ (∀ x ∈ L.take i, x.page + 8 ≤ p) ∧ ∀ x ∈ L.drop i, p + 8 ≤ x.page := by
  intro L
  induction L with
  | nil => intro i h _; obtain rfl := Option.some.inj h; exact ⟨Nat.le_refl _, fun x hx => (by cases hx), fun x hx => (by cases hx)⟩
  | cons x t ih =>
    intro i h hp
    rw [List.pairwise_cons] at hp
    unfold placeQ at h
    split at h
    · rename_i hle
      obtain rfl := Option.some.inj h
      refine ⟨Nat.zero_le _, fun y hy => (by cases hy), fun y hy => ?_⟩
      rcases List.mem_cons.1 hy with rfl | hy
      · exact hle
      · have := hp.1 y hy; omega
    · split at h
      · cases h
      · obtain ⟨j, hj, rfl⟩ := Option.map_eq_some_iff.1 h
        obtain ⟨h1, h2, h3⟩ := ih hj hp.2
        refine ⟨by simp; omega, fun y hy => ?_, fun y hy => h3 y hy⟩
        rw [List.take_succ_cons] at hy
        rcases List.mem_cons.1 hy with rfl | hy
        · omega
        · exact h2 y hy
/-- How far the search has come. -/
theorem placeQ_go {p : Nat} : ∀ {L : List Q} {k : Nat}, k ≤ L.length → (∀ x ∈ L.take k, x.page + 8 ≤ p) → placeQ p L = (placeQ p (L.drop k)).map (· + k) := by
  intro L
  induction L with
  | nil => intro k hk _; simp at hk; subst hk; simp [placeQ]
  | cons x t ih =>
    intro k hk h
    cases k with
    | zero => simp
    | succ k =>
      rw [List.take_succ_cons] at h
      have h0 := h x List.mem_cons_self
      show (if p + 8 ≤ x.page then some 0 else if p < x.page + 8 then none else (placeQ p t).map (· + 1)) = _
      rw [if_neg (by omega), if_neg (by omega), ih (by simpa using hk) (fun y hy => h y (List.mem_cons_of_mem _ hy)), List.drop_succ_cons, Option.map_map]
      congr 1
theorem drop_at {α : Type} {L : List α} {k : Nat} {x : α} (h : L[k]? = some x) : L.drop k = x :: L.drop (k + 1) := by
  obtain ⟨hk, rfl⟩ := List.getElem?_eq_some_iff.1 h
  exact List.drop_eq_getElem_cons hk
theorem take_at {α : Type} {L : List α} {k : Nat} {x : α} (h : L[k]? = some x) : L.take (k + 1) = L.take k ++ [x] := by
  rw [List.take_add_one, h]; rfl
theorem placeQ_here {p k : Nat} {L : List Q} {x : Q} (hx : L[k]? = some x) (h : ∀ y ∈ L.take k, y.page + 8 ≤ p) (hp : p + 8 ≤ x.page) : placeQ p L = some k := by
  rw [placeQ_go (by have := (List.getElem?_eq_some_iff.1 hx).1; omega) h, drop_at hx]
  show Option.map (· + k) (if p + 8 ≤ x.page then some 0 else _) = _
  rw [if_pos hp]
  simp
theorem placeQ_hit {p k : Nat} {L : List Q} {x : Q} (hx : L[k]? = some x) (h : ∀ y ∈ L.take k, y.page + 8 ≤ p) (hp : ¬ p + 8 ≤ x.page) (hq : p < x.page + 8) : placeQ p L = none := by
  rw [placeQ_go (by have := (List.getElem?_eq_some_iff.1 hx).1; omega) h, drop_at hx]
  show Option.map (· + k) (if p + 8 ≤ x.page then some 0 else if p < x.page + 8 then none else _) = _
  rw [if_neg hp, if_pos hq]
  rfl
theorem placeQ_end {p : Nat} {L : List Q} (h : ∀ y ∈ L.take L.length, y.page + 8 ≤ p) : placeQ p L = some L.length := by
  rw [placeQ_go (Nat.le_refl _) h, List.drop_length]
  simp [placeQ]
def insQ (c : Nat) (L : List Q) (i p : Nat) : List Q := L.take i ++ ⟨p, allQ c p⟩ :: L.drop i
theorem GoodP.ins {P c : Nat} {L : List Q} (g : GoodP P c L) {p i : Nat} (hi : placeQ p L = some i) (hp : p + 8 ≤ P) : GoodP P c (insQ c L i p) := by
  obtain ⟨h1, h2, h3⟩ := placeQ_some hi g.asc
  have hm : ∀ x ∈ insQ c L i p, x = ⟨p, allQ c p⟩ ∨ x ∈ L := fun x hx => by
    rcases List.mem_append.1 hx with hx | hx
    · exact .inr (List.mem_of_mem_take hx)
    · rcases List.mem_cons.1 hx with hx | hx
      · exact .inl hx
      · exact .inr (List.mem_of_mem_drop hx)
  refine ⟨g.cls, fun x hx => ?_, ?_, fun x hx => ?_, fun x hx => ?_⟩
  · rcases hm x hx with rfl | hx
    · exact hp
    · exact g.inP x hx
  · refine List.pairwise_append.2 ⟨g.asc.sublist (List.take_sublist _ _), List.pairwise_cons.2 ⟨fun y hy => h3 y hy, g.asc.sublist (List.drop_sublist _ _)⟩, fun x hx y hy => ?_⟩
    rcases List.mem_cons.1 hy with rfl | hy
    · exact h2 x hx
    · have := h2 x hx; have := h3 y hy; omega
  · rcases hm x hx with rfl | hx
    · exact allQ_at g.cls
    · exact g.stks x hx
  · rcases hm x hx with rfl | hx
    · exact allQ_nodup g.cls
    · exact g.nod x hx
/-- Add's code, and the list behind it. -/
def addC (P : Nat) (L : List Q) (p : Int) : Int := if p < 0 ∨ (P : Int) - 8 < p then 1 else match placeQ p.toNat L with | none => 4 | some _ => 0
def addL (P c : Nat) (L : List Q) (p : Int) : List Q := if p < 0 ∨ (P : Int) - 8 < p then L else match placeQ p.toNat L with | none => L | some i => insQ c L i p.toNat
theorem GoodP.add {P c : Nat} {L : List Q} (g : GoodP P c L) (p : Int) : GoodP P c (addL P c L p) := by
  unfold addL
  split
  · exact g
  · rename_i h
    split
    · exact g
    · rename_i i hi
      exact g.ins hi (by omega)

/-! ### Take -/
def takeQ : List Q → Option (Nat × List Q)
  | [] => none
  | x :: t => match x.free with
    | [] => (takeQ t).map fun r => (r.1, x :: r.2)
    | a :: r => some (a, ⟨x.page, r⟩ :: t)
theorem takeQ_none : ∀ {L : List Q}, (∀ x ∈ L, x.free = []) → takeQ L = none := by
  intro L
  induction L with
  | nil => intro _; rfl
  | cons x t ih =>
    intro h
    unfold takeQ
    rw [h x List.mem_cons_self]
    simp only []
    rw [ih (fun y hy => h y (List.mem_cons_of_mem _ hy))]
    rfl
theorem takeQ_at : ∀ {L : List Q} {k p a : Nat} {r : List Nat}, (∀ x ∈ L.take k, x.free = []) → L[k]? = some ⟨p, a :: r⟩ → takeQ L = some (a, L.set k ⟨p, r⟩) := by
  intro L
  induction L with
  | nil => intro k p a r _ h; cases h
  | cons x t ih =>
    intro k p a r h hk
    cases k with
    | zero =>
      simp only [List.getElem?_cons_zero, Option.some.injEq] at hk
      subst hk
      rfl
    | succ k =>
      rw [List.take_succ_cons] at h
      unfold takeQ
      rw [h x List.mem_cons_self]
      simp only []
      rw [ih (fun y hy => h y (List.mem_cons_of_mem _ hy)) (by simpa using hk)]
      rfl
/-- Take's ways. -/
theorem takeQ_ways : ∀ (L : List Q), (takeQ L = none ∧ ∀ x ∈ L, x.free = []) ∨ ∃ k p a r, (∀ x ∈ L.take k, x.free = []) ∧ L[k]? = some ⟨p, a :: r⟩ ∧ takeQ L = some (a, L.set k ⟨p, r⟩) := by
  intro L
  by_cases h : ∀ x ∈ L, x.free = []
  · exact .inl ⟨takeQ_none h, h⟩
  · refine .inr ?_
    have : ∃ k p a r, (∀ x ∈ L.take k, x.free = []) ∧ L[k]? = some (⟨p, a :: r⟩ : Q) := by
      induction L with
      | nil => exact absurd (fun _ h => (by cases h)) h
      | cons x t ih =>
        obtain ⟨p, f⟩ := x
        cases f with
        | cons a r => exact ⟨0, p, a, r, fun _ h => (by cases h), rfl⟩
        | nil =>
          obtain ⟨k, q, a, r, h1, h2⟩ := ih (fun hh => h fun y hy => by
            rcases List.mem_cons.1 hy with rfl | hy
            · rfl
            · exact hh y hy)
          refine ⟨k + 1, q, a, r, fun y hy => ?_, by simpa using h2⟩
          rw [List.take_succ_cons] at hy
          rcases List.mem_cons.1 hy with rfl | hy
          · rfl
          · exact h1 y hy
    obtain ⟨k, p, a, r, h1, h2⟩ := this
    exact ⟨k, p, a, r, h1, h2, takeQ_at h1 h2⟩
def takeA (L : List Q) : Int := match takeQ L with | none => 0 | some r => (r.1 : Nat)
def takeC (L : List Q) : Int := match takeQ L with | none => 2 | some _ => 0
def takeL (L : List Q) : List Q := match takeQ L with | none => L | some r => r.2
theorem GoodP.take {P c : Nat} {L : List Q} (g : GoodP P c L) : GoodP P c (takeL L) := by
  unfold takeL
  rcases takeQ_ways L with ⟨e, _⟩ | ⟨k, p, a, r, _, hk, e⟩
  · rw [e]; exact g
  · rw [e]
    have hm := List.mem_of_getElem? hk
    exact g.turn hk r (fun b hb => g.stks _ hm b (List.mem_cons_of_mem _ hb)) (List.nodup_cons.1 (g.nod _ hm)).2

/-! ### Put -/
def findQ (c : Nat) (a : Int) : List Q → Option Nat
  | [] => none
  | x :: t => if atB c x.page a = true then some 0 else (findQ c a t).map (· + 1)
theorem findQ_none {c : Nat} {a : Int} : ∀ {L : List Q}, (∀ x ∈ L, atB c x.page a = false) → findQ c a L = none := by
  intro L
  induction L with
  | nil => intro _; rfl
  | cons x t ih =>
    intro h
    unfold findQ
    rw [h x List.mem_cons_self, if_neg (by decide), ih (fun y hy => h y (List.mem_cons_of_mem _ hy))]
    rfl
theorem findQ_at {c : Nat} {a : Int} : ∀ {L : List Q} {k : Nat} {x : Q}, (∀ y ∈ L.take k, atB c y.page a = false) → L[k]? = some x → atB c x.page a = true → findQ c a L = some k := by
  intro L
  induction L with
  | nil => intro k x _ h _; cases h
  | cons y t ih =>
    intro k x h hk hx
    cases k with
    | zero =>
      simp only [List.getElem?_cons_zero, Option.some.injEq] at hk
      subst hk
      unfold findQ
      rw [if_pos hx]
    | succ k =>
      rw [List.take_succ_cons] at h
      unfold findQ
      rw [h y List.mem_cons_self, if_neg (by decide), ih (fun z hz => h z (List.mem_cons_of_mem _ hz)) (by simpa using hk) hx]
      rfl
theorem findQ_ways {c : Nat} {a : Int} : ∀ (L : List Q), (findQ c a L = none ∧ ∀ x ∈ L, atB c x.page a = false) ∨ ∃ k x, (∀ y ∈ L.take k, atB c y.page a = false) ∧ L[k]? = some x ∧ atB c x.page a = true ∧ findQ c a L = some k := by
  intro L
  induction L with
  | nil => exact .inl ⟨rfl, fun _ h => (by cases h)⟩
  | cons y t ih =>
    cases h : atB c y.page a with
    | true => exact .inr ⟨0, y, fun _ h => (by cases h), rfl, h, by unfold findQ; rw [if_pos h]⟩
    | false =>
      have e : findQ c a (y :: t) = (findQ c a t).map (· + 1) := by
        show (if atB c y.page a = true then some 0 else (findQ c a t).map (· + 1)) = _
        rw [h]; rfl
      rcases ih with ⟨i1, i2⟩ | ⟨k, x, i1, i2, i3, i4⟩
      · refine .inl ⟨by rw [e, i1]; rfl, fun x hx => ?_⟩
        rcases List.mem_cons.1 hx with rfl | hx
        · exact h
        · exact i2 x hx
      · refine .inr ⟨k + 1, x, fun z hz => ?_, by simpa using i2, i3, by rw [e, i4]; rfl⟩
        rw [List.take_succ_cons] at hz
        rcases List.mem_cons.1 hz with rfl | hz
        · exact h
        · exact i1 z hz
/-- Put's answer: page, gone, code, the list behind it. -/
def putR (c : Nat) (L : List Q) (a : Int) : (Int × Bool × Int) × List Q :=
  match findQ c a L with
  | none => ((0, false, 1), L)
  | some k => match L[k]? with
    | none => ((0, false, 1), L)
    | some x => if a.toNat ∈ x.free then ((0, false, 4), L) else
      if x.free.length + 1 = perN c then ((((x.page : Nat) : Int), true, 0), L.take k ++ L.drop (k + 1)) else ((((x.page : Nat) : Int), false, 0), L.set k ⟨x.page, a.toNat :: x.free⟩)
abbrev putP (c : Nat) (L : List Q) (a : Int) : Int := (putR c L a).1.1
abbrev putG (c : Nat) (L : List Q) (a : Int) : Bool := (putR c L a).1.2.1
abbrev putC (c : Nat) (L : List Q) (a : Int) : Int := (putR c L a).1.2.2
abbrev putL (c : Nat) (L : List Q) (a : Int) : List Q := (putR c L a).2
theorem putR_none {c : Nat} {L : List Q} {a : Int} (h : ∀ x ∈ L, atB c x.page a = false) : putR c L a = ((0, false, 1), L) := by
  unfold putR; rw [findQ_none h]
theorem putR_at {c : Nat} {L : List Q} {a : Int} {k : Nat} {x : Q} (h : ∀ y ∈ L.take k, atB c y.page a = false) (hk : L[k]? = some x) (hx : atB c x.page a = true) :
    putR c L a = if a.toNat ∈ x.free then ((0, false, 4), L) else
      if x.free.length + 1 = perN c then ((((x.page : Nat) : Int), true, 0), L.take k ++ L.drop (k + 1)) else ((((x.page : Nat) : Int), false, 0), L.set k ⟨x.page, a.toNat :: x.free⟩) := by
  unfold putR; rw [findQ_at h hk hx]; simp only [hk]
theorem GoodP.put {P c : Nat} {L : List Q} (g : GoodP P c L) (a : Int) : GoodP P c (putL c L a) := by
  rcases findQ_ways (c := c) (a := a) L with ⟨_, h⟩ | ⟨k, x, h1, h2, h3, _⟩
  · unfold putL; rw [putR_none h]; exact g
  · unfold putL
    rw [putR_at h1 h2 h3]
    split
    · exact g
    · rename_i hn
      split
      · rw [← List.eraseIdx_eq_take_drop_succ]; exact g.sub (List.eraseIdx_sublist _ _)
      · have hm := List.mem_of_getElem? h2
        refine g.turn h2 _ (fun b hb => ?_) (List.nodup_cons.2 ⟨hn, g.nod x hm⟩)
        rcases List.mem_cons.1 hb with rfl | hb
        · have := at_range h3
          rw [show ((a.toNat : Nat) : Int) = a by omega]
          exact h3
        · exact g.stks x hm b hb

/-! ### Chains in words -/
def headQ : List Nat → Nat
  | [] => 0
  | a :: _ => a + 1
theorem Ch_head {ws : List Nat} {h : Nat} {l : List Nat} (c : Ch ws h l) : h = headQ l := by
  cases l with
  | nil => exact c
  | cons a t => exact c.1
/-- The eight pages from lo on. -/
def InSp (lo a : Nat) : Prop := lo * 64 ≤ a ∧ a < lo * 64 + 512
/-- Each span's free ones are a chain in the words. -/
def Chs (ws : List Nat) (L : List Q) : Prop := ∀ x ∈ L, Ch ws (headQ x.free) x.free
theorem Chs.nil (ws : List Nat) : Chs ws [] := fun _ h => (by cases h)
theorem Chs.get {ws : List Nat} {L : List Q} (h : Chs ws L) {k : Nat} {x : Q} (hx : L[k]? = some x) : Ch ws (headQ x.free) x.free := h x (List.mem_of_getElem? hx)
/-- One is taken. -/
theorem Chs.take {ws : List Nat} {L : List Q} (h : Chs ws L) {k p a : Nat} {r : List Nat} (hk : L[k]? = some ⟨p, a :: r⟩) : ws[a]? = some (headQ r) ∧ headQ r ≤ ws.length ∧ Chs ws (L.set k ⟨p, r⟩) := by
  obtain ⟨_, x, hx, hl, hc⟩ := h.get hk
  have e := Ch_head hc
  subst e
  refine ⟨hx, hl, fun y hy => ?_⟩
  rcases mem_set hy with ⟨rfl, _⟩ | ⟨j, _, hj⟩
  · exact hc
  · exact h.get hj
/-- One is put. -/
theorem Chs.put {P c : Nat} {ws : List Nat} {L : List Q} (h : Chs ws L) (g : GoodP P c L) (hl : ws.length = P * 64) {k a : Nat} {x : Q} (hk : L[k]? = some x) (ha : atB c x.page (a : Int) = true) (hn : a ∉ x.free) : a < ws.length ∧ headQ x.free ≤ ws.length ∧ Chs (ws.set a (headQ x.free)) (L.set k ⟨x.page, a :: x.free⟩) ∧ Chs (ws.set a (headQ x.free)) (L.take k ++ L.drop (k + 1)) := by
  have hm := List.mem_of_getElem? hk
  have r1 := at_range ha
  have r2 := g.inP x hm
  have hlt : a < ws.length := by omega
  have hj' : ∀ j y, j ≠ k → L[j]? = some y → Ch (ws.set a (headQ x.free)) (headQ y.free) y.free := fun j y hj hy => by
    refine (h.get hy).far fun hay => ?_
    have := at_no ha (g.apart hk hy (fun e => hj e.symm))
    rw [g.stks y (List.mem_of_getElem? hy) a hay] at this
    cases this
  refine ⟨hlt, (h.get hk).le, fun y hy => ?_, fun y hy => ?_⟩
  · rcases mem_set hy with ⟨rfl, _⟩ | ⟨j, hj, hy⟩
    · exact (h.get hk).push hlt hn
    · exact hj' j y hj hy
  · rcases List.mem_append.1 hy with hy | hy
    · obtain ⟨j, hj⟩ := List.getElem?_of_mem hy
      rw [List.getElem?_take] at hj
      by_cases d : j < k
      · rw [if_pos d] at hj; exact hj' j y (by omega) hj
      · rw [if_neg d] at hj; cases hj
    · obtain ⟨j, hj⟩ := List.getElem?_of_mem hy
      rw [List.getElem?_drop] at hj
      exact hj' _ y (by omega) hj
/-- A span's stacks are laid from the last one on: those from k on are a chain; all chains elsewhere stand. -/
structure Laid (c page : Nat) (ws : List Nat) (k : Nat) (vs : List Nat) : Prop where
  len : vs.length = ws.length
  ch : Ch vs (headQ ((allQ c page).drop k)) ((allQ c page).drop k)
  far : ∀ h l, Ch ws h l → (∀ a ∈ l, a < page * 64 ∨ page * 64 + 512 ≤ a) → Ch vs h l
theorem Laid.start (c page : Nat) (ws : List Nat) : Laid c page ws (perN c) ws := by
  have e : (allQ c page).drop (perN c) = [] := List.drop_eq_nil_of_le (by rw [allQ_length]; exact Nat.le_refl _)
  exact ⟨rfl, by rw [e]; rfl, fun h l x _ => x⟩
theorem allQ_get {c page k : Nat} (h : k < perN c) : (allQ c page)[k]? = some (stk c page k) := by
  unfold allQ
  rw [List.getElem?_map, List.getElem?_range h]
  rfl
theorem Laid.step {c page k : Nat} {ws vs : List Nat} (h : Laid c page ws (k + 1) vs) (hc : c < 4) (hk : k < perN c) (hl : page * 64 + 512 ≤ ws.length) :
    stk c page k < vs.length ∧ headQ ((allQ c page).drop (k + 1)) ≤ vs.length ∧ Laid c page ws k (vs.set (stk c page k) (headQ ((allQ c page).drop (k + 1)))) ∧ headQ ((allQ c page).drop k) = stk c page k + 1 := by
  have h1 := stk_lt (page := page) hc hk
  have h2 := w_pos hc
  have hlt : stk c page k < vs.length := by rw [h.len]; omega
  have e := drop_at (allQ_get (page := page) hk)
  have nd := (allQ_nodup (page := page) hc).sublist (List.drop_sublist k _)
  rw [e, List.nodup_cons] at nd
  refine ⟨hlt, h.ch.le, ⟨by rw [List.length_set]; exact h.len, ?_, fun h' l x hx => (h.far h' l x hx).far fun m => ?_⟩, by rw [e]; rfl⟩
  · rw [e]
    exact h.ch.push hlt nd.1
  · have := hx _ m
    unfold stk at this h1
    omega
theorem Laid.chs {P c page i : Nat} {ws vs : List Nat} {L : List Q} (h : Laid c page ws 0 vs) (g : GoodP P c L) (hc : Chs ws L) (hi : placeQ page L = some i) : Chs vs (insQ c L i page) := by
  obtain ⟨h1, h2, h3⟩ := placeQ_some hi g.asc
  have far : ∀ x ∈ L, (x.page + 8 ≤ page ∨ page + 8 ≤ x.page) → Ch vs (headQ x.free) x.free := fun x hx hp => h.far _ _ (hc x hx) fun a ha => by
    have := at_range (g.stks x hx a ha)
    omega
  intro x hx
  rcases List.mem_append.1 hx with hx | hx
  · exact far x (List.mem_of_mem_take hx) (.inl (h2 x hx))
  · rcases List.mem_cons.1 hx with rfl | hx
    · simpa using h.ch
    · exact far x (List.mem_of_mem_drop hx) (.inr (h3 x hx))

/-! ### Spans, Free, Len -/
def freeL (L : List Q) : List Nat := L.flatMap Q.free
def lenL (L : List Q) : Nat := (freeL L).length
theorem freeL_take {L : List Q} {k : Nat} {x : Q} (h : L[k]? = some x) : freeL (L.take (k + 1)) = freeL (L.take k) ++ x.free := by
  unfold freeL; rw [take_at h, List.flatMap_append]; simp
theorem freeL_len {P c : Nat} {L : List Q} (g : GoodP P c L) : (freeL L).length ≤ L.length * 16 := by
  have : ∀ M : List Q, (∀ x ∈ M, x.free.length ≤ 16) → (freeL M).length ≤ M.length * 16 := by
    intro M
    induction M with
    | nil => intro _; simp [freeL]
    | cons x t ih =>
      intro h
      have h1 := ih (fun y hy => h y (List.mem_cons_of_mem _ hy))
      have h2 := h x List.mem_cons_self
      simp only [freeL, List.flatMap_cons, List.length_append, List.length_cons] at h1 ⊢
      omega
  exact this L fun x hx => Nat.le_trans (g.few hx) (per_pos g.cls).2
end Go.Proofs.YtcndilpaijapkaaGreat.Prt
/- Lists of large stacks (address, class) as plain lists: what is valid, what stands ahead, what has a word in common, right lists; what is put, taken, dropped; words. Own work; no program is walked here. -/
namespace Go.Proofs.YtcndilpaijapkaaGreat.Bg

/-- An address and a class. -/
abbrev R := Int × Int
def mayB (b : R) : Bool := decide (4 ≤ b.2 ∧ b.2 ≤ 7 ∧ 0 ≤ b.1 ∧ b.1 % 64 = 0 ∧ b.1 + wordsI b.2 ≤ 16384)
def hitB (a b : R) : Bool := decide (a.1 < b.1 + wordsI b.2 ∧ b.1 < a.1 + wordsI a.2)
def aheadB (a b : R) : Bool := decide (a.2 < b.2 ∨ (a.2 = b.2 ∧ a.1 < b.1))
theorem words_large {c : Int} (h : 4 ≤ c) (h1 : c ≤ 7) : 512 ≤ wordsI c ∧ wordsI c ≤ 4096 ∧ wordsI c % 512 = 0 := by
  have : c = 4 ∨ c = 5 ∨ c = 6 ∨ c = 7 := by omega
  rcases this with rfl | rfl | rfl | rfl <;> decide
structure May (b : R) : Prop where
  c0 : 4 ≤ b.2
  c1 : b.2 ≤ 7
  a0 : 0 ≤ b.1
  a1 : b.1 % 64 = 0
  fit : b.1 + wordsI b.2 ≤ 16384
  w0 : 512 ≤ wordsI b.2
  w1 : wordsI b.2 ≤ 4096
  w2 : wordsI b.2 % 512 = 0
theorem may_of {b : R} (h : mayB b = true) : May b := by
  obtain ⟨h0, h1, h2, h3, h4⟩ := of_decide_eq_true h
  obtain ⟨w0, w1, w2⟩ := words_large h0 h1
  exact ⟨h0, h1, h2, h3, h4, w0, w1, w2⟩
/-- What is true of the stack x at place i of a right list. -/
structure OkAt (l : List R) (i : Nat) (x : R) : Prop where
  may : mayB x = true
  up : ∀ y, 0 < i → l[i - 1]? = some y → aheadB y x = true
  far : ∀ (j : Nat) y, j < i → l[j]? = some y → hitB y x = false
def RightTo (l : List R) (k : Nat) : Prop := ∀ (i : Nat) (x : R), i < k → l[i]? = some x → OkAt l i x
def RightL (l : List R) : Prop := RightTo l l.length
theorem RightTo.zero (l : List R) : RightTo l 0 := fun _ _ h => absurd h (Nat.not_lt_zero _)
theorem RightTo.step {l : List R} {k : Nat} {x : R} (h : RightTo l k) (hx : l[k]? = some x) (ok : OkAt l k x) : RightTo l (k + 1) := by
  intro i y hi hy
  by_cases e : i = k
  · subst e; rw [hx] at hy; obtain rfl := Option.some.inj hy; exact ok
  · exact h i y (by omega) hy
theorem RightTo.may {l : List R} {k : Nat} (h : RightTo l k) : ∀ y ∈ l.take k, mayB y = true := by
  intro y hy
  obtain ⟨i, hi⟩ := List.getElem?_of_mem hy
  have hl := (List.getElem?_eq_some_iff.1 hi).1
  rw [List.length_take] at hl
  rw [List.getElem?_take, if_pos (by omega)] at hi
  exact (h i y (by omega) hi).may
theorem not_right {l : List R} {k : Nat} {x : R} (hx : l[k]? = some x) (h : ¬ OkAt l k x) : ¬ RightL l :=
  fun r => h (r k x (List.getElem?_eq_some_iff.1 hx).1 hx)
theorem RightL.at_ {l : List R} (h : RightL l) {i : Nat} {x : R} (hx : l[i]? = some x) : OkAt l i x := h i x (List.getElem?_eq_some_iff.1 hx).1 hx
theorem RightL.may {l : List R} (h : RightL l) {x : R} (hx : x ∈ l) : mayB x = true := by
  obtain ⟨i, hi⟩ := List.getElem?_of_mem hx
  exact (h.at_ hi).may
theorem RightL.nil : RightL [] := RightTo.zero []
theorem ahead_trans {a b c : R} (h : aheadB a b = true) (h1 : aheadB b c = true) : aheadB a c = true := by
  have := of_decide_eq_true h
  have := of_decide_eq_true h1
  exact decide_eq_true (by omega)
theorem ahead_asym {a b : R} (h : aheadB a b = true) : aheadB b a = false := by
  have := of_decide_eq_true h
  exact decide_eq_false (by omega)
theorem ahead_or {a b : R} (h : aheadB a b = false) (n : a ≠ b) : aheadB b a = true := by
  have h := of_decide_eq_false h
  refine decide_eq_true ?_
  have : ¬ (a.1 = b.1 ∧ a.2 = b.2) := fun q => n (Prod.ext q.1 q.2)
  omega
theorem hit_self {b : R} (h : mayB b = true) : hitB b b = true := by
  have m := may_of h
  have := m.w0
  exact decide_eq_true (by omega)
theorem hit_comm (a b : R) : hitB a b = hitB b a := by unfold hitB; rw [decide_eq_decide]; exact And.comm
theorem RightL.up {l : List R} (h : RightL l) {i j : Nat} {x y : R} (hij : i < j) (hx : l[i]? = some x) (hy : l[j]? = some y) : aheadB x y = true := by
  induction j generalizing y with
  | zero => omega
  | succ j ih =>
    by_cases e : i = j
    · subst e; exact (h.at_ hy).up x (by omega) hx
    · have hj : j < l.length := by have := (List.getElem?_eq_some_iff.1 hy).1; omega
      have g : l[j]? = some l[j] := List.getElem?_eq_getElem hj
      exact ahead_trans (ih (by omega) g) ((h.at_ hy).up _ (by omega) g)
/-- Right lists, by their stacks alone. -/
theorem right_pw {l : List R} : RightL l ↔ (∀ x ∈ l, mayB x = true) ∧ l.Pairwise (fun a b => aheadB a b = true ∧ hitB a b = false) := by
  constructor
  · intro h
    refine ⟨fun x hx => h.may hx, List.pairwise_iff_getElem.2 fun i j hi hj hij => ?_⟩
    have gi : l[i]? = some l[i] := List.getElem?_eq_getElem hi
    have gj : l[j]? = some l[j] := List.getElem?_eq_getElem hj
    exact ⟨h.up hij gi gj, (h.at_ gj).far i _ hij gi⟩
  · rintro ⟨m, p⟩ i x hi hx
    obtain ⟨hil, ex⟩ := List.getElem?_eq_some_iff.1 hx
    have pw := List.pairwise_iff_getElem.1 p
    refine ⟨m x (List.mem_of_getElem? hx), fun y h0 hy => ?_, fun j y hj hy => ?_⟩
    · obtain ⟨hl, ey⟩ := List.getElem?_eq_some_iff.1 hy
      subst ex; subst ey
      exact (pw (i - 1) i hl hil (by omega)).1
    · obtain ⟨hl, ey⟩ := List.getElem?_eq_some_iff.1 hy
      subst ex; subst ey
      exact (pw j i hl hil hj).2
theorem RightL.sub {l m : List R} (h : RightL l) (s : m.Sublist l) : RightL m := by
  obtain ⟨a, b⟩ := right_pw.1 h
  exact right_pw.2 ⟨fun x hx => a x (s.subset hx), b.sublist s⟩
theorem tw_mem {p : R → Bool} {l : List R} {x : R} (h : x ∈ l.takeWhile p) : p x = true := by
  induction l with
  | nil => cases h
  | cons y t ih =>
    rw [List.takeWhile_cons] at h
    cases e : p y with
    | false => rw [e] at h; cases h
    | true =>
      rw [e] at h
      simp only [if_true] at h
      rcases List.mem_cons.1 h with rfl | h
      · exact e
      · exact ih h
/-! ### Put -/
def placeL (l : List R) (b : R) : Nat := (l.takeWhile (fun x => aheadB x b)).length
def anyB (l : List R) (b : R) : Bool := l.any (fun x => hitB x b)
def insL (l : List R) (b : R) : List R := l.take (placeL l b) ++ b :: l.drop (placeL l b)
def putC (l : List R) (b : R) : Int := if mayB b then (if anyB l b then 4 else 0) else 1
def putL (l : List R) (b : R) : List R := if mayB b then (if anyB l b then [] else insL l b) else []
theorem place_le (l : List R) (b : R) : placeL l b ≤ l.length := (List.takeWhile_prefix _).length_le
theorem place_lo (l : List R) (b : R) {i : Nat} {y : R} (h : l[i]? = some y) (hi : i < placeL l b) : aheadB y b = true := by
  have p : l.takeWhile (fun x => aheadB x b) <+: l := List.takeWhile_prefix _
  have g : (l.takeWhile (fun x => aheadB x b))[i]? = some y := by
    obtain ⟨t, ht⟩ := p
    have e : l[i]? = (l.takeWhile (fun x => aheadB x b) ++ t)[i]? := by rw [ht]
    rw [List.getElem?_append_left hi] at e
    rw [← e]; exact h
  have m := List.mem_of_getElem? g
  exact tw_mem (p := fun x => aheadB x b) m
theorem place_at (l : List R) (b : R) {y : R} (h : l[placeL l b]? = some y) : aheadB y b = false := by
  unfold placeL at h
  induction l with
  | nil => cases h
  | cons x t ih =>
    rw [List.takeWhile_cons] at h
    cases e : aheadB x b with
    | false => rw [e] at h; simp at h; subst h; exact e
    | true => rw [e] at h; simp at h; exact ih h
theorem place_hi {l : List R} (r : RightL l) (b : R) {i : Nat} {y : R} (h : l[i]? = some y) (hi : placeL l b ≤ i) : aheadB y b = false := by
  by_cases e : placeL l b = i
  · subst e; exact place_at l b h
  · have hl : placeL l b < l.length := by have := (List.getElem?_eq_some_iff.1 h).1; omega
    have g : l[placeL l b]? = some l[placeL l b] := List.getElem?_eq_getElem hl
    have q := place_at l b g
    cases a : aheadB y b with
    | false => rfl
    | true => rw [ahead_trans (r.up (by omega) g h) a] at q; cases q
theorem any_false {l : List R} {b : R} (h : anyB l b = false) {x : R} (hx : x ∈ l) : hitB x b = false := by
  unfold anyB at h
  rw [List.any_eq_false] at h
  cases e : hitB x b with
  | false => rfl
  | true => exact absurd e (h x hx)
theorem any_true {l : List R} {b : R} {x : R} (hx : x ∈ l) (h : hitB x b = true) : anyB l b = true := List.any_eq_true.2 ⟨x, hx, h⟩
theorem any_take {l : List R} {b x : R} {k : Nat} (hx : l[k]? = some x) : anyB (l.take (k + 1)) b = (anyB (l.take k) b || hitB x b) := by
  unfold anyB
  rw [List.take_add_one, hx, Option.toList_some, List.any_append]
  simp
theorem ins_length (l : List R) (b : R) : (insL l b).length = l.length + 1 := by
  unfold insL
  have := place_le l b
  simp
  omega
theorem ins_mem (l : List R) (b x : R) : x ∈ insL l b ↔ x = b ∨ x ∈ l := by
  unfold insL
  have e := List.take_append_drop (placeL l b) l
  constructor
  · intro h
    rcases List.mem_append.1 h with h | h
    · exact .inr (List.mem_of_mem_take h)
    · rcases List.mem_cons.1 h with h | h
      · exact .inl h
      · exact .inr (List.mem_of_mem_drop h)
  · rintro (h | h)
    · subst h; simp
    · rw [← e] at h
      rcases List.mem_append.1 h with h | h
      · exact List.mem_append.2 (.inl h)
      · exact List.mem_append.2 (.inr (List.mem_cons_of_mem _ h))
theorem right_ins {l : List R} (r : RightL l) {b : R} (m : mayB b = true) (n : anyB l b = false) : RightL (insL l b) := by
  obtain ⟨a, p⟩ := right_pw.1 r
  refine right_pw.2 ⟨fun x hx => ?_, ?_⟩
  · rcases (ins_mem l b x).1 hx with rfl | h
    · exact m
    · exact a x h
  · unfold insL
    have hd : ∀ y ∈ l.drop (placeL l b), aheadB b y = true ∧ hitB b y = false := by
      intro y hy
      obtain ⟨j, hj⟩ := List.getElem?_of_mem hy
      rw [List.getElem?_drop] at hj
      have q := place_hi r b hj (by omega)
      have hm := List.mem_of_getElem? hj
      have nh := any_false n hm
      refine ⟨ahead_or q fun e => ?_, by rw [hit_comm]; exact nh⟩
      subst e
      rw [hit_self m] at nh
      cases nh
    have ht : ∀ y ∈ l.take (placeL l b), aheadB y b = true ∧ hitB y b = false := by
      intro y hy
      obtain ⟨j, hj⟩ := List.getElem?_of_mem hy
      have hl := (List.getElem?_eq_some_iff.1 hj).1
      rw [List.length_take] at hl
      rw [List.getElem?_take, if_pos (by omega)] at hj
      exact ⟨place_lo l b hj (by omega), any_false n (List.mem_of_getElem? hj)⟩
    rw [← List.take_append_drop (placeL l b) l] at p
    obtain ⟨p1, p2, p3⟩ := List.pairwise_append.1 p
    refine List.pairwise_append.2 ⟨p1, List.pairwise_cons.2 ⟨fun y hy => hd y hy, p2⟩, fun x hx y hy => ?_⟩
    rcases List.mem_cons.1 hy with rfl | hy
    · exact ht x hx
    · exact p3 x hx y hy
theorem put_ways (l : List R) (b : R) : (mayB b = false ∧ putC l b = 1 ∧ putL l b = []) ∨ (mayB b = true ∧ anyB l b = true ∧ putC l b = 4 ∧ putL l b = []) ∨ (mayB b = true ∧ anyB l b = false ∧ putC l b = 0 ∧ putL l b = insL l b) := by
  unfold putC putL
  cases h : mayB b with
  | false => exact .inl ⟨rfl, by simp, by simp⟩
  | true =>
    cases h1 : anyB l b with
    | true => exact .inr (.inl ⟨rfl, rfl, by simp, by simp⟩)
    | false => exact .inr (.inr ⟨rfl, rfl, by simp, by simp⟩)
theorem right_put {l : List R} (r : RightL l) (b : R) : RightL (putL l b) := by
  rcases put_ways l b with ⟨_, _, e⟩ | ⟨_, _, _, e⟩ | ⟨m, n, _, e⟩
  · rw [e]; exact RightL.nil
  · rw [e]; exact RightL.nil
  · rw [e]; exact right_ins r m n
theorem put_length (l : List R) (b : R) : (putL l b).length ≤ l.length + 1 := by
  rcases put_ways l b with ⟨_, _, e⟩ | ⟨_, _, _, e⟩ | ⟨m, n, _, e⟩
  · rw [e]; simp
  · rw [e]; simp
  · rw [e, ins_length]; omega
theorem putC_lim (l : List R) (b : R) : 0 ≤ putC l b ∧ putC l b ≤ 4 := by
  rcases put_ways l b with ⟨_, e, _⟩ | ⟨_, _, e, _⟩ | ⟨m, n, e, _⟩ <;> omega
/-! ### Take -/
def ixL (l : List R) (c : Int) : Nat := (l.takeWhile (fun x => !decide (x.2 = c))).length
def takeC (l : List R) (c : Int) : Int := if ixL l c < l.length then 0 else 2
def takeL (l : List R) (c : Int) : List R := if ixL l c < l.length then l.take (ixL l c) ++ l.drop (ixL l c + 1) else []
def takeA (l : List R) (c : Int) : Int := match l[ixL l c]? with
  | some x => x.1
  | none => 0
theorem ix_lo (l : List R) (c : Int) {i : Nat} {y : R} (h : l[i]? = some y) (hi : i < ixL l c) : y.2 ≠ c := by
  have p : l.takeWhile (fun x => !decide (x.2 = c)) <+: l := List.takeWhile_prefix _
  have g : (l.takeWhile (fun x => !decide (x.2 = c)))[i]? = some y := by
    obtain ⟨t, ht⟩ := p
    have e : l[i]? = (l.takeWhile (fun x => !decide (x.2 = c)) ++ t)[i]? := by rw [ht]
    rw [List.getElem?_append_left hi] at e
    rw [← e]; exact h
  have m := List.mem_of_getElem? g
  have := tw_mem (p := fun x => !decide (x.2 = c)) m
  simpa using this
theorem ix_at (l : List R) (c : Int) {y : R} (h : l[ixL l c]? = some y) : y.2 = c := by
  unfold ixL at h
  induction l with
  | nil => cases h
  | cons x t ih =>
    rw [List.takeWhile_cons] at h
    by_cases e : x.2 = c
    · simp [e] at h; subst h; exact e
    · simp [e] at h; exact ih h
theorem ix_le (l : List R) (c : Int) : ixL l c ≤ l.length := (List.takeWhile_prefix _).length_le
theorem take_ways (l : List R) (c : Int) : ((∀ x ∈ l, x.2 ≠ c) ∧ ixL l c = l.length ∧ takeC l c = 2 ∧ takeL l c = [] ∧ takeA l c = 0) ∨ ∃ x, l[ixL l c]? = some x ∧ x.2 = c ∧ ixL l c < l.length ∧ takeC l c = 0 ∧ takeL l c = l.take (ixL l c) ++ l.drop (ixL l c + 1) ∧ takeA l c = x.1 := by
  unfold takeC takeL takeA
  by_cases h : ixL l c < l.length
  · have g : l[ixL l c]? = some l[ixL l c] := List.getElem?_eq_getElem h
    refine .inr ⟨_, g, ix_at l c g, h, if_pos h, if_pos h, by rw [g]⟩
  · have e : ixL l c = l.length := by have := ix_le l c; omega
    refine .inl ⟨fun x hx => ?_, e, if_neg h, if_neg h, by rw [e, List.getElem?_eq_none (Nat.le_refl _)]⟩
    obtain ⟨i, hi⟩ := List.getElem?_of_mem hx
    exact ix_lo l c hi (by have := (List.getElem?_eq_some_iff.1 hi).1; omega)
theorem take_sub (l : List R) (c : Int) : (takeL l c).Sublist l := by
  rcases take_ways l c with ⟨_, _, _, e, _⟩ | ⟨x, hx, _, _, _, e, _⟩
  · rw [e]; exact List.nil_sublist _
  · rw [e]
    have h : (l.take (ixL l c) ++ l.drop (ixL l c + 1)).Sublist (l.take (ixL l c) ++ l.drop (ixL l c)) := by
      refine List.Sublist.append_left ?_ _
      have : l.drop (ixL l c + 1) = (l.drop (ixL l c)).drop 1 := by rw [List.drop_drop]
      rw [this]
      exact List.drop_sublist _ _
    rwa [List.take_append_drop] at h
/-! ### Drop, words -/
def dropB (l : List R) : Bool := decide (0 < l.length)
def headL (l : List R) : R := match l with
  | [] => (0, 0)
  | x :: _ => x
def wordsL : List R → Int
  | [] => 0
  | x :: t => wordsI x.2 + wordsL t
theorem words_append (a b : List R) : wordsL (a ++ b) = wordsL a + wordsL b := by
  induction a with
  | nil => simp [wordsL]
  | cons x t ih => simp only [List.cons_append, wordsL, ih]; omega
theorem words_lim (l : List R) : 0 ≤ wordsL l ∧ wordsL l ≤ 4096 * (l.length : Int) := by
  induction l with
  | nil => simp [wordsL]
  | cons x t ih =>
    have := wordsI_lim x.2
    simp only [wordsL, List.length_cons]
    omega
theorem words_snoc {l : List R} {k : Nat} {x : R} (h : l[k]? = some x) : wordsL (l.take (k + 1)) = wordsL (l.take k) + wordsI x.2 := by
  rw [List.take_add_one, h, Option.toList_some, words_append]
  simp [wordsL]
end Go.Proofs.YtcndilpaijapkaaGreat.Bg
/- Queues of pages as lists: whether two spans of eight pages have one in common, what Put, Next and Has answer. Own work; plain mathematics, of no program. -/
namespace Go.Proofs.YtcndilpaijapkaaGreat.Lq

/-- Have the spans at q and p a page in common? -/
def hitI (q p : Int) : Bool := decide (p < q + 8 ∧ q < p + 8)
def overI (l : List Int) (p : Int) : Bool := l.any fun q => hitI q p
/-- All are first pages of spans. -/
def MayL (l : List Int) : Prop := ∀ x ∈ l, 0 ≤ x ∧ x ≤ 248
def mayI (p : Int) : Bool := decide (0 ≤ p ∧ p ≤ 248)
/-- What Put answers. -/
def putC (on : Bool) (l : List Int) (p : Int) : Int := bif !on then 9 else bif !mayI p then 1 else bif overI l p then 4 else 0
def putL (on : Bool) (l : List Int) (p : Int) : List Int := bif on && mayI p && !overI l p then l ++ [p] else []
def putB (on : Bool) (l : List Int) (p : Int) : Bool := on && mayI p && !overI l p
theorem put_ways (on : Bool) (l : List Int) (p : Int) :
    (on = false ∧ putC on l p = 9 ∧ putL on l p = [] ∧ putB on l p = false) ∨
    (on = true ∧ mayI p = false ∧ putC on l p = 1 ∧ putL on l p = [] ∧ putB on l p = false) ∨
    (on = true ∧ mayI p = true ∧ overI l p = true ∧ putC on l p = 4 ∧ putL on l p = [] ∧ putB on l p = false) ∨
    (on = true ∧ mayI p = true ∧ overI l p = false ∧ putC on l p = 0 ∧ putL on l p = l ++ [p] ∧ putB on l p = true) := by
  unfold putC putL putB
  cases on
  · exact .inl ⟨rfl, rfl, rfl, rfl⟩
  · cases mayI p
    · exact .inr (.inl ⟨rfl, rfl, rfl, rfl, rfl⟩)
    · cases overI l p
      · exact .inr (.inr (.inr ⟨rfl, rfl, rfl, rfl, rfl, rfl⟩))
      · exact .inr (.inr (.inl ⟨rfl, rfl, rfl, rfl, rfl, rfl⟩))
/-- What Next answers: nothing of an empty queue. -/
def nextB (on : Bool) : List Int → Bool | [] => false | _ :: _ => on
def nextX : List Int → Int | [] => 0 | x :: _ => x
def nextK : List Int → Bool | [] => false | _ :: _ => true
theorem over_take {l : List Int} {p : Int} {k : Nat} {x : Int} (hx : l[k]? = some x) : overI (l.take (k + 1)) p = (overI (l.take k) p || hitI x p) := by
  unfold overI
  rw [List.take_add_one, hx]
  simp
theorem over_mem {l : List Int} {p x : Int} (hx : x ∈ l) (h : hitI x p = true) : overI l p = true := List.any_eq_true.2 ⟨x, hx, h⟩
theorem over_none {l : List Int} {p : Int} (h : overI l p = false) {x : Int} (hx : x ∈ l) : hitI x p = false := by
  cases e : hitI x p with
  | false => rfl
  | true => rw [over_mem hx e] at h; cases h
theorem hit_no {q p : Int} (h : hitI q p = false) : p + 8 ≤ q ∨ q + 8 ≤ p := by
  have := of_decide_eq_false h
  omega
theorem may_yes {p : Int} (h : mayI p = true) : 0 ≤ p ∧ p ≤ 248 := of_decide_eq_true h
theorem may_no {p : Int} (h : mayI p = false) : p < 0 ∨ 248 < p := by
  have := of_decide_eq_false h
  omega
theorem MayL.nil : MayL [] := fun _ h => by cases h
theorem MayL.put {l : List Int} {p : Int} (h : MayL l) (hp : mayI p = true) : MayL (l ++ [p]) := fun x hx => by
  rcases List.mem_append.1 hx with hx | hx
  · exact h x hx
  · obtain rfl := List.mem_singleton.1 hx; exact may_yes hp
theorem MayL.tail {a : Int} {l : List Int} (h : MayL (a :: l)) : MayL l := fun x hx => h x (List.mem_cons_of_mem _ hx)
theorem MayL.putL {on : Bool} {l : List Int} {p : Int} (h : MayL l) : MayL (putL on l p) := by
  rcases put_ways on l p with ⟨_, _, e, _⟩ | ⟨_, _, _, e, _⟩ | ⟨_, _, _, _, e, _⟩ | ⟨_, m, _, _, e, _⟩
  · rw [e]; exact MayL.nil
  · rw [e]; exact MayL.nil
  · rw [e]; exact MayL.nil
  · rw [e]; exact h.put m

theorem putL_length (on : Bool) (l : List Int) (p : Int) : (putL on l p).length ≤ l.length + 1 := by
  rcases put_ways on l p with ⟨_, _, e, _⟩ | ⟨_, _, _, e, _⟩ | ⟨_, _, _, _, e, _⟩ | ⟨_, _, _, _, e, _⟩ <;> rw [e] <;> simp
/-! ### Queues no two of whose spans have a page in common -/
/-- A right queue: each page is a span's first, no two spans have a page in common. -/
def Apart : List Int → Prop
  | [] => True
  | a :: t => (0 ≤ a ∧ a ≤ 248) ∧ (∀ x ∈ t, hitI a x = false) ∧ Apart t
theorem Apart.may : ∀ {l : List Int}, Apart l → MayL l
  | [], _ => MayL.nil
  | a :: t, h => fun x hx => by
    rcases List.mem_cons.1 hx with rfl | hx
    · exact h.1
    · exact Apart.may h.2.2 x hx
theorem hit_comm (a b : Int) : hitI a b = hitI b a := by
  unfold hitI
  exact decide_eq_decide.mpr ⟨fun h => ⟨h.2, h.1⟩, fun h => ⟨h.2, h.1⟩⟩
theorem Apart.put : ∀ {l : List Int} {p : Int}, Apart l → mayI p = true → overI l p = false → Apart (l ++ [p])
  | [], p, _, m, _ => ⟨may_yes m, fun _ h => by (cases h), trivial⟩
  | a :: t, p, h, m, o => by
    have o1 := over_none o (List.mem_cons_self (a := a) (l := t))
    have o2 : overI t p = false := by
      cases e : overI t p with
      | false => rfl
      | true =>
        obtain ⟨x, hx, hh⟩ := List.any_eq_true.1 e
        rw [over_mem (List.mem_cons_of_mem a hx) hh] at o
        cases o
    refine ⟨h.1, fun x hx => ?_, Apart.put h.2.2 m o2⟩
    rcases List.mem_append.1 hx with hx | hx
    · exact h.2.1 x hx
    · obtain rfl := List.mem_singleton.1 hx; exact o1
theorem hit_self (a : Int) : hitI a a = true := decide_eq_true ⟨by omega, by omega⟩
theorem Apart.notin {a : Int} {t : List Int} (h : Apart (a :: t)) : a ∉ t := fun m => by
  have := h.2.1 a m
  rw [hit_self] at this
  cases this
theorem Apart.nodup : ∀ {l : List Int}, Apart l → l.Nodup
  | [], _ => List.nodup_nil
  | _ :: _, h => List.nodup_cons.2 ⟨Apart.notin h, Apart.nodup h.2.2⟩
theorem Apart.putL {l : List Int} {p : Int} (h : Apart l) : Apart (putL true l p) := by
  rcases put_ways true l p with ⟨_, _, e, _⟩ | ⟨_, _, _, e, _⟩ | ⟨_, _, _, _, e, _⟩ | ⟨_, m, o, _, e, _⟩
  · rw [e]; trivial
  · rw [e]; trivial
  · rw [e]; trivial
  · rw [e]; exact h.put m o
theorem nodup_len : ∀ (n : Nat) (l : List Int), l.Nodup → (∀ a ∈ l, 0 ≤ a ∧ a < (n : Int)) → l.length ≤ n := by
  intro n
  induction n with
  | zero => intro l _ h; cases l with | nil => simp | cons a t => have := h a (by simp); omega
  | succ n ih =>
    intro l hd h
    have hd' := hd.erase (n : Int)
    have := ih (l.erase (n : Int)) hd' (fun a ha => by
      have ne := (hd.mem_erase_iff).1 ha
      have := h a ne.2
      have := ne.1
      omega)
    rw [List.length_erase] at this
    split at this <;> omega
theorem Apart.few {l : List Int} (h : Apart l) : l.length ≤ 249 := nodup_len 249 l h.nodup fun a ha => by have := h.may a ha; omega

/-! ### What numbers make -/
def stepL (l : List Int) (p : Int) : List Int := if putC true l p = 0 then putL true l p else l
def makeL (l : List Int) (ps : List Int) : List Int := ps.foldl stepL l
theorem Apart.step {l : List Int} {p : Int} (h : Apart l) : Apart (stepL l p) := by
  unfold stepL
  split
  · exact h.putL
  · exact h
theorem Apart.make : ∀ (ps : List Int) {l : List Int}, Apart l → Apart (makeL l ps)
  | [], _, h => h
  | p :: t, _, h => Apart.make t (h.step (p := p))
theorem make_take {l ps : List Int} {k : Nat} {x : Int} (hx : ps[k]? = some x) : makeL l (ps.take (k + 1)) = stepL (makeL l (ps.take k)) x := by
  unfold makeL
  rw [List.take_add_one, hx]
  simp
end Go.Proofs.YtcndilpaijapkaaGreat.Lq
