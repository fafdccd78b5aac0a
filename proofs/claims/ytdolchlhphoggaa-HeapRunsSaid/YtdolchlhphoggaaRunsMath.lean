/-
  Lists of runs as lists of pairs of numbers: which are right, what is taken, what is put, which pages are there. Own work; no program is walked here.
-/
import Derived.Lib.Hide
namespace Go.Proofs.Ytdolchlhphoggaa

abbrev R := Int × Int

/-! ### Right -/
/-- Each run from f on, one page between. -/
def rightB (p : Int) : Int → List R → Bool
  | _, [] => true
  | f, x :: t => decide (0 ≤ x.1 ∧ 1 ≤ x.2 ∧ x.1 + x.2 ≤ p ∧ f ≤ x.1) && rightB p (x.1 + x.2 + 1) t
def rightL (p : Int) (l : List R) : Bool := decide (0 ≤ p ∧ p ≤ 256) && rightB p 0 l
def Right (p : Int) : Int → List R → Prop
  | _, [] => True
  | f, x :: t => 0 ≤ x.1 ∧ 1 ≤ x.2 ∧ x.1 + x.2 ≤ p ∧ f ≤ x.1 ∧ Right p (x.1 + x.2 + 1) t
theorem right_iff (p f : Int) (l : List R) : rightB p f l = true ↔ Right p f l := by
  induction l generalizing f with
  | nil => simp [rightB, Right]
  | cons x t ih =>
    simp only [rightB, Right, Bool.and_eq_true, decide_eq_true_eq, ih]
    constructor
    · rintro ⟨⟨a, b, c, d⟩, e⟩; exact ⟨a, b, c, d, e⟩
    · rintro ⟨a, b, c, d, e⟩; exact ⟨⟨a, b, c, d⟩, e⟩
/-- Where the next run may begin behind the first k. -/
def nextAt (l : List R) : Nat → Int
  | 0 => 0
  | k + 1 => match l[k]? with
    | some x => x.1 + x.2 + 1
    | none => 0
theorem nextAt_succ (l : List R) (k : Nat) (x : R) (h : l[k]? = some x) : nextAt l (k + 1) = x.1 + x.2 + 1 := by simp [nextAt, h]
theorem drop_cons {α : Type} {l : List α} {k : Nat} {x : α} (h : l[k]? = some x) : l.drop k = x :: l.drop (k + 1) := by
  obtain ⟨hk, rfl⟩ := List.getElem?_eq_some_iff.1 h
  exact List.drop_eq_getElem_cons hk
theorem take_snoc {α : Type} {l : List α} {k : Nat} {x : α} (h : l[k]? = some x) : l.take (k + 1) = l.take k ++ [x] := by
  obtain ⟨hk, rfl⟩ := List.getElem?_eq_some_iff.1 h
  exact List.take_succ_eq_append_getElem hk
theorem split_at {α : Type} {l : List α} {k : Nat} {x : α} (h : l[k]? = some x) : l = l.take k ++ x :: l.drop (k + 1) := by
  rw [← drop_cons h, List.take_append_drop]
theorem rightB_step (p f : Int) (l : List R) (k : Nat) (x : R) (h : l[k]? = some x) :
    rightB p f (l.drop k) = (decide (0 ≤ x.1 ∧ 1 ≤ x.2 ∧ x.1 + x.2 ≤ p ∧ f ≤ x.1) && rightB p (x.1 + x.2 + 1) (l.drop (k + 1))) := by
  rw [drop_cons h, rightB]
theorem right_yes {p : Int} {l : List R} {k : Nat} {x : R} (h : rightB p 0 l = rightB p (nextAt l k) (l.drop k)) (hx : l[k]? = some x) (c : 0 ≤ x.1 ∧ 1 ≤ x.2 ∧ x.1 + x.2 ≤ p ∧ nextAt l k ≤ x.1) :
    rightB p 0 l = rightB p (nextAt l (k + 1)) (l.drop (k + 1)) := by
  rw [h, rightB_step _ _ _ _ _ hx, nextAt_succ _ _ _ hx, decide_eq_true c, Bool.true_and]
theorem right_no {p : Int} {l : List R} {k : Nat} {x : R} (h : rightB p 0 l = rightB p (nextAt l k) (l.drop k)) (hx : l[k]? = some x) (c : ¬ (0 ≤ x.1 ∧ 1 ≤ x.2 ∧ x.1 + x.2 ≤ p ∧ nextAt l k ≤ x.1)) : rightB p 0 l = false := by
  rw [h, rightB_step _ _ _ _ _ hx, decide_eq_false c, Bool.false_and]
theorem right_end {p : Int} {l : List R} {k : Nat} (h : rightB p 0 l = rightB p (nextAt l k) (l.drop k)) (hk : l.length ≤ k) : rightB p 0 l = true := by
  rw [h, List.drop_eq_nil_of_le hk]; rfl
theorem Right.mono {p f f' : Int} {l : List R} (h : Right p f l) (c : f' ≤ f) : Right p f' l := by
  cases l with
  | nil => trivial
  | cons x t =>
    obtain ⟨a, b, d, e, g⟩ := h
    exact ⟨a, b, d, by omega, g⟩
theorem Right.wide {p p' f : Int} {l : List R} (h : Right p f l) (c : p ≤ p') : Right p' f l := by
  induction l generalizing f with
  | nil => trivial
  | cons x t ih =>
    obtain ⟨a, b, d, e, g⟩ := h
    exact ⟨a, b, by omega, e, ih g⟩
/-- Where the next run may begin behind all of l. -/
def lastF (f : Int) : List R → Int
  | [] => f
  | x :: t => lastF (x.1 + x.2 + 1) t
theorem right_append {p f : Int} {xs ys : List R} : Right p f (xs ++ ys) ↔ Right p f xs ∧ Right p (lastF f xs) ys := by
  induction xs generalizing f with
  | nil => simp [Right, lastF]
  | cons x t ih =>
    simp only [List.cons_append, Right, ih, lastF]
    constructor
    · rintro ⟨a, b, c, d, e, g⟩; exact ⟨⟨a, b, c, d, e⟩, g⟩
    · rintro ⟨⟨a, b, c, d, e⟩, g⟩; exact ⟨a, b, c, d, e, g⟩
theorem lastF_ge {p f : Int} {xs : List R} (h : Right p f xs) : f ≤ lastF f xs := by
  induction xs generalizing f with
  | nil => exact Int.le_refl _
  | cons x t ih =>
    obtain ⟨a, b, c, d, e⟩ := h
    have := ih e
    simp only [lastF]
    omega
theorem lastF_le {p f : Int} {xs : List R} (h : Right p f xs) (c : f ≤ p + 1) : lastF f xs ≤ p + 1 := by
  induction xs generalizing f with
  | nil => exact c
  | cons x t ih =>
    obtain ⟨a, b, c, d, e⟩ := h
    exact ih e (by omega)
theorem lastF_mem {p f : Int} {xs : List R} (h : Right p f xs) : ∀ x ∈ xs, f ≤ x.1 ∧ 0 ≤ x.1 ∧ 1 ≤ x.2 ∧ x.1 + x.2 ≤ p ∧ x.1 + x.2 + 1 ≤ lastF f xs := by
  induction xs generalizing f with
  | nil => intro x hx; cases hx
  | cons y t ih =>
    obtain ⟨a, b, c, d, e⟩ := h
    intro x hx
    have g := lastF_ge e
    simp only [lastF]
    rcases List.mem_cons.1 hx with rfl | hx
    · exact ⟨d, a, b, c, g⟩
    · obtain ⟨h1, h2, h3, h4, h5⟩ := ih e x hx
      exact ⟨by omega, h2, h3, h4, h5⟩
theorem Right.mem {p f : Int} {xs : List R} (h : Right p f xs) {x : R} (hx : x ∈ xs) : f ≤ x.1 ∧ 0 ≤ x.1 ∧ 1 ≤ x.2 ∧ x.1 + x.2 ≤ p := by
  obtain ⟨a, b, c, d, _⟩ := lastF_mem h x hx
  exact ⟨a, b, c, d⟩
theorem Right.len {p f : Int} {xs : List R} (h : Right p f xs) (c : f ≤ p + 1) : (xs.length : Int) + f ≤ p + 1 := by
  induction xs generalizing f with
  | nil => simpa using c
  | cons x t ih =>
    obtain ⟨a, b, d, e, g⟩ := h
    have := ih g (by omega)
    simp only [List.length_cons]
    omega
theorem Right.at {p : Int} {l : List R} (h : Right p 0 l) {k : Nat} {x : R} (hx : l[k]? = some x) : 0 ≤ x.1 ∧ 1 ≤ x.2 ∧ x.1 + x.2 ≤ p := (h.mem (List.mem_of_getElem? hx)).2
/-- Of two of them the lower lies wholly below. -/
theorem Right.apart {p : Int} {l : List R} (h : Right p 0 l) {i j : Nat} {x y : R} (hx : l[i]? = some x) (hy : l[j]? = some y) (c : i < j) : x.1 + x.2 + 1 ≤ y.1 := by
  rw [split_at hx] at h
  have h2 := (right_append.1 h).2.2.2.2.2
  obtain ⟨m, rfl⟩ : ∃ m, j = i + 1 + m := ⟨j - (i + 1), by omega⟩
  have : y ∈ l.drop (i + 1) := List.mem_of_getElem? (i := m) (by rw [List.getElem?_drop]; exact hy)
  exact (h2.mem this).1

/-! ### Fit and Take -/
/-- Run i is the first of at least n pages. -/
structure Fits (l : List R) (n : Int) (i : Nat) (x : R) : Prop where
  at_ : l[i]? = some x
  big : n ≤ x.2
  below : ∀ y ∈ l.take i, y.2 < n
def fitB (l : List R) (n : Int) : Bool := l.any fun x => decide (n ≤ x.2)
theorem fits_of {l : List R} {n : Int} (h : fitB l n = true) : ∃ i x, Fits l n i x := by
  induction l with
  | nil => cases h
  | cons y t ih =>
    by_cases c : n ≤ y.2
    · exact ⟨0, y, rfl, c, by intro z hz; simp at hz⟩
    · simp only [fitB, List.any_cons, decide_eq_false c, Bool.false_or] at h
      obtain ⟨i, x, a, b, d⟩ := ih h
      refine ⟨i + 1, x, by simpa using a, b, ?_⟩
      intro z hz
      rw [List.take_succ_cons] at hz
      rcases List.mem_cons.1 hz with rfl | hz
      · omega
      · exact d z hz
theorem fit_none {l : List R} {n : Int} (h : fitB l n = false) : ∀ x ∈ l, x.2 < n := by
  intro x hx
  simp only [fitB, List.any_eq_false, decide_eq_true_eq] at h
  have := h x hx
  omega
theorem Fits.yes {l : List R} {n : Int} {i : Nat} {x : R} (h : Fits l n i x) : fitB l n = true := by
  simp only [fitB, List.any_eq_true, decide_eq_true_eq]
  exact ⟨x, List.mem_of_getElem? h.at_, h.big⟩
theorem Fits.lt {l : List R} {n : Int} {i : Nat} {x : R} (h : Fits l n i x) : i < l.length := (List.getElem?_eq_some_iff.1 h.at_).1
/-- What is left of run x behind a take of n. -/
def rest (x : R) (n : Int) : List R := if x.2 - n = 0 then [] else [(x.1 + n, x.2 - n)]
def takeL (l : List R) (n : Int) (i : Nat) (x : R) : List R := l.take i ++ (rest x n ++ l.drop (i + 1))
theorem right_take {p : Int} {l : List R} {n : Int} {i : Nat} {x : R} (h : Right p 0 l) (f : Fits l n i x) (hn : 1 ≤ n) : Right p 0 (takeL l n i x) := by
  have b := f.big
  rw [split_at f.at_] at h
  obtain ⟨h1, a0, a1, a2, a3, h2⟩ := right_append.1 h
  unfold takeL rest
  refine right_append.2 ⟨h1, ?_⟩
  by_cases c : x.2 - n = 0
  · rw [if_pos c, List.nil_append]
    exact h2.mono (by omega)
  · rw [if_neg c, List.singleton_append]
    exact ⟨by show 0 ≤ x.1 + n; omega, by show 1 ≤ x.2 - n; omega, by show x.1 + n + (x.2 - n) ≤ p; omega, by show _ ≤ x.1 + n; omega, h2.mono (by show x.1 + n + (x.2 - n) + 1 ≤ _; omega)⟩
/-- Which pages are there. -/
def inR (x : R) (g : Int) : Bool := decide (x.1 ≤ g ∧ g < x.1 + x.2)
def hasB (l : List R) (g : Int) : Bool := l.any fun x => inR x g
theorem has_append (xs ys : List R) (g : Int) : hasB (xs ++ ys) g = (hasB xs g || hasB ys g) := by simp [hasB]
theorem has_cons (x : R) (ys : List R) (g : Int) : hasB (x :: ys) g = (inR x g || hasB ys g) := by simp [hasB]
theorem has_below {p f : Int} {l : List R} (h : Right p f l) {g : Int} (c : g < f) : hasB l g = false := by
  simp only [hasB, List.any_eq_false, inR, decide_eq_true_eq]
  intro x hx
  have := h.mem hx
  omega
theorem has_above {p f : Int} {l : List R} (h : Right p f l) {g : Int} (c : lastF f l - 1 ≤ g) : hasB l g = false := by
  simp only [hasB, List.any_eq_false, inR, decide_eq_true_eq]
  intro x hx
  have := lastF_mem h x hx
  omega
theorem has_take {p : Int} {l : List R} {n : Int} {i : Nat} {x : R} (h : Right p 0 l) (f : Fits l n i x) (hn : 1 ≤ n) (g : Int) :
    hasB (takeL l n i x) g = (hasB l g && !decide (x.1 ≤ g ∧ g < x.1 + n)) := by
  have b := f.big
  have hl : hasB l g = (hasB (l.take i) g || (inR x g || hasB (l.drop (i + 1)) g)) := by
    conv => lhs; rw [split_at f.at_]
    rw [has_append, has_cons]
  rw [split_at f.at_] at h
  obtain ⟨h1, a0, a1, a2, a3, h2⟩ := right_append.1 h
  rw [hl]
  unfold takeL
  rw [has_append, has_append]
  have hr : hasB (rest x n) g = (inR x g && !decide (x.1 ≤ g ∧ g < x.1 + n)) := by
    unfold rest
    by_cases c : x.2 - n = 0
    · rw [if_pos c]
      simp only [hasB, List.any_nil, inR]
      by_cases d : x.1 ≤ g ∧ g < x.1 + n
      · simp [d]
      · rw [decide_eq_false (p := x.1 ≤ g ∧ g < x.1 + x.2) (by omega), Bool.false_and]
    · rw [if_neg c]
      simp only [hasB, List.any_cons, List.any_nil, inR, Bool.or_false]
      by_cases d : x.1 ≤ g ∧ g < x.1 + n
      · rw [decide_eq_true d, decide_eq_false (by omega)]; simp
      · rw [decide_eq_false d]
        by_cases e : x.1 ≤ g ∧ g < x.1 + x.2
        · rw [decide_eq_true e, decide_eq_true (by omega)]; rfl
        · rw [decide_eq_false e, decide_eq_false (by omega)]; rfl
  rw [hr]
  by_cases d : x.1 ≤ g ∧ g < x.1 + n
  · rw [has_above h1 (by omega), has_below h2 (by omega), decide_eq_true d]; simp
  · rw [decide_eq_false d]; simp
theorem has_taken {l : List R} {n : Int} {i : Nat} {x : R} (f : Fits l n i x) {g : Int} (c : x.1 ≤ g ∧ g < x.1 + n) : hasB l g = true := by
  simp only [hasB, List.any_eq_true, inR, decide_eq_true_eq]
  have := f.big
  exact ⟨x, List.mem_of_getElem? f.at_, by omega⟩
theorem has_snoc {l : List R} {k : Nat} {x : R} (g : Int) (h : l[k]? = some x) (a : hasB (l.take k) g = false) (b : ¬ (x.1 ≤ g ∧ g < x.1 + x.2)) : hasB (l.take (k + 1)) g = false := by
  rw [take_snoc h, has_append, a, has_cons]; simp [hasB, inR, b]
theorem has_hit {l : List R} {k : Nat} {x : R} {g : Int} (h : l[k]? = some x) (b : x.1 ≤ g ∧ g < x.1 + x.2) : hasB l g = true := by
  simp only [hasB, List.any_eq_true, inR, decide_eq_true_eq]
  exact ⟨x, List.mem_of_getElem? h, b⟩
def totalL (l : List R) : Int := (l.map (·.2)).sum
theorem total_append (xs ys : List R) : totalL (xs ++ ys) = totalL xs + totalL ys := by simp [totalL]
theorem total_take {l : List R} {n : Int} {i : Nat} {x : R} (f : Fits l n i x) : totalL (takeL l n i x) = totalL l - n := by
  conv => rhs; rw [split_at f.at_]
  unfold takeL rest
  rw [total_append, total_append, total_append]
  by_cases c : x.2 - n = 0
  · rw [if_pos c]; simp only [totalL, List.map_nil, List.map_cons, List.sum_nil, List.sum_cons]; omega
  · rw [if_neg c]; simp only [totalL, List.map_nil, List.map_cons, List.sum_nil, List.sum_cons]; omega
theorem total_le {p f : Int} {l : List R} (h : Right p f l) (c : f ≤ p + 1) : 0 ≤ totalL l ∧ totalL l + f ≤ p + 1 := by
  induction l generalizing f with
  | nil => simp [totalL]; omega
  | cons x t ih =>
    obtain ⟨a, b, d, e, g⟩ := h
    have := ih g (by omega)
    simp only [totalL, List.map_cons, List.sum_cons] at this ⊢
    omega
theorem total_snoc {l : List R} {k : Nat} {x : R} (h : l[k]? = some x) : totalL (l.take (k + 1)) = totalL (l.take k) + x.2 := by
  rw [take_snoc h, total_append]; simp [totalL]
theorem Right.take {p f : Int} {l : List R} (h : Right p f l) (k : Nat) : Right p f (l.take k) := by
  rw [← List.take_append_drop k l] at h
  exact (right_append.1 h).1
def mostL (l : List R) : Int := l.foldl (fun m x => max m x.2) 0
theorem most_snoc {l : List R} {k : Nat} {x : R} (h : l[k]? = some x) : mostL (l.take (k + 1)) = max (mostL (l.take k)) x.2 := by
  rw [take_snoc h]; simp [mostL]
theorem most_lt {l : List R} {n : Int} (h : ∀ x ∈ l, x.2 < n) (hn : 1 ≤ n) : mostL l < n := by
  have : ∀ (l : List R) (m : Int), m < n → (∀ x ∈ l, x.2 < n) → l.foldl (fun m x => max m x.2) m < n := by
    intro l
    induction l with
    | nil => intro m hm _; exact hm
    | cons y t ih =>
      intro m hm h
      have := h y (List.mem_cons_self ..)
      exact ih _ (by show max m y.2 < n; omega) (fun x hx => h x (List.mem_cons_of_mem _ hx))
  exact this l 0 (by omega) h
/-- The document's way: each run, the one that is cut cut, those that have pages. -/
def cutAt (l : List R) (n : Int) (i : Nat) (x : R) : List R := l.set i (x.1 + n, x.2 - n)
def keepL (l : List R) : List R := l.filter fun x => decide (0 < x.2)
theorem keep_all {p f : Int} {l : List R} (h : Right p f l) : keepL l = l := by
  unfold keepL
  rw [List.filter_eq_self]
  intro x hx
  have := h.mem hx
  exact decide_eq_true (by omega)
theorem cut_keep {p : Int} {l : List R} {n : Int} {i : Nat} {x : R} (h : Right p 0 l) (f : Fits l n i x) : keepL (cutAt l n i x) = takeL l n i x := by
  have hi := f.lt
  have b := f.big
  have e : cutAt l n i x = l.take i ++ (x.1 + n, x.2 - n) :: l.drop (i + 1) := by
    unfold cutAt
    rw [List.set_eq_take_append_cons_drop, if_pos hi]
  rw [e]
  rw [split_at f.at_] at h
  obtain ⟨h1, a0, a1, a2, a3, h2⟩ := right_append.1 h
  have k1 := keep_all h1
  have k2 := keep_all h2
  unfold keepL takeL rest at *
  rw [List.filter_append, List.filter_cons, k1, k2]
  by_cases c : x.2 - n = 0
  · rw [if_pos c, if_neg (by simp; omega), List.nil_append]
  · rw [if_neg c, if_pos (by simp; omega), List.singleton_append]
theorem keep_yes {l : List R} {k : Nat} {x : R} (h : l[k]? = some x) (c : 0 < x.2) : keepL (l.take (k + 1)) = keepL (l.take k) ++ [x] := by
  rw [take_snoc h]; unfold keepL; rw [List.filter_append]; simp [c]
theorem keep_no {l : List R} {k : Nat} {x : R} (h : l[k]? = some x) (c : ¬ 0 < x.2) : keepL (l.take (k + 1)) = keepL (l.take k) := by
  rw [take_snoc h]; unfold keepL; rw [List.filter_append]; simp [c]
theorem keep_len (l : List R) (k : Nat) : (keepL (l.take k)).length ≤ k := by
  have := List.length_filter_le (fun x : R => decide (0 < x.2)) (l.take k)
  have h2 : (l.take k).length ≤ k := List.length_take_le k l
  unfold keepL
  omega
theorem cut_get_at {l : List R} {n : Int} {i : Nat} {x : R} (h : l[i]? = some x) : (cutAt l n i x)[i]? = some (x.1 + n, x.2 - n) := by
  unfold cutAt; rw [List.getElem?_set_self (List.getElem?_eq_some_iff.1 h).1]
theorem cut_get_far {l : List R} {n : Int} {i k : Nat} {x : R} (h : k ≠ i) : (cutAt l n i x)[k]? = l[k]? := by
  unfold cutAt; rw [List.getElem?_set_ne (by omega)]
theorem cut_len (l : List R) (n : Int) (i : Nat) (x : R) : (cutAt l n i x).length = l.length := by unfold cutAt; simp

/-! ### Put -/
def front (a n : Int) : List R → List R
  | [] => [(a, n)]
  | y :: t => if a + n = y.1 then (a, n + y.2) :: t else (a, n) :: y :: t
theorem front_cons (a n : Int) (y : R) (t : List R) : front a n (y :: t) = if a + n = y.1 then (a, n + y.2) :: t else (a, n) :: y :: t := rfl
def putL : List R → Int → Int → List R
  | [], a, n => [(a, n)]
  | x :: t, a, n => if x.1 + x.2 < a then x :: putL t a n else if x.1 + x.2 = a then front x.1 (x.2 + n) t else front a n (x :: t)
def freeB (l : List R) (a n : Int) : Bool := l.all fun x => decide (x.1 + x.2 ≤ a ∨ a + n ≤ x.1)
theorem free_mem {l : List R} {a n : Int} (h : freeB l a n = true) : ∀ x ∈ l, x.1 + x.2 ≤ a ∨ a + n ≤ x.1 := by
  intro x hx
  simp only [freeB, List.all_eq_true, decide_eq_true_eq] at h
  exact h x hx
theorem free_of {l : List R} {a n : Int} (h : ∀ x ∈ l, x.1 + x.2 ≤ a ∨ a + n ≤ x.1) : freeB l a n = true := by
  simp only [freeB, List.all_eq_true, decide_eq_true_eq]; exact h
theorem not_free {l : List R} {a n : Int} {x : R} (hx : x ∈ l) (c : a < x.1 + x.2) (d : x.1 < a + n) : freeB l a n = false := by
  cases h : freeB l a n with
  | false => rfl
  | true => have := free_mem h x hx; omega
theorem put_below {xs ys : List R} {a n : Int} (h : ∀ x ∈ xs, x.1 + x.2 < a) : putL (xs ++ ys) a n = xs ++ putL ys a n := by
  induction xs with
  | nil => rfl
  | cons x t ih =>
    rw [List.cons_append, putL, if_pos (h x (List.mem_cons_self ..)), ih (fun y hy => h y (List.mem_cons_of_mem _ hy)), List.cons_append]
theorem put_above {ys : List R} {a n : Int} (h : ∀ y ∈ ys, a + n ≤ y.1 ∧ 1 ≤ y.2) (hn : 1 ≤ n) : putL ys a n = front a n ys := by
  cases ys with
  | nil => rfl
  | cons y t =>
    have := h y (List.mem_cons_self ..)
    rw [putL, if_neg (by omega), if_neg (by omega)]
/-- What the program does: the runs ahead of place i, the last of them joined or not. -/
theorem put_join {l : List R} {a n : Int} {i : Nat} {x : R} (h : Right 256 0 l) (hx : l[i]? = some x) (c : x.1 + x.2 = a) : putL l a n = l.take i ++ front x.1 (x.2 + n) (l.drop (i + 1)) := by
  conv => lhs; rw [split_at hx]
  have h' := h
  rw [split_at hx] at h'
  obtain ⟨h1, a0, a1, a2, a3, h2⟩ := right_append.1 h'
  rw [put_below (fun y hy => by have := lastF_mem h1 y hy; omega), putL, if_neg (by omega), if_pos c]
theorem put_place {l : List R} {a n : Int} {i : Nat} (h : Right 256 0 l) (h1 : ∀ x ∈ l.take i, x.1 + x.2 < a) (h2 : ∀ y ∈ l.drop i, a + n ≤ y.1) (hn : 1 ≤ n) : putL l a n = l.take i ++ front a n (l.drop i) := by
  conv => lhs; rw [← List.take_append_drop i l]
  rw [put_below h1, put_above (fun y hy => ⟨h2 y hy, (h.mem (List.mem_of_mem_drop hy)).2.2.1⟩) hn]
theorem right_front {p f g a n : Int} {t : List R} (h : Right p g t) (h0 : 0 ≤ a) (hf : f ≤ a) (hn : 1 ≤ n) (hp : a + n ≤ p) (c : ∀ y ∈ t, a + n ≤ y.1) : Right p f (front a n t) := by
  cases t with
  | nil => exact ⟨h0, hn, hp, hf, trivial⟩
  | cons y t =>
    obtain ⟨b0, b1, b2, b3, h2⟩ := h
    have cy := c y (List.mem_cons_self ..)
    rw [front_cons]
    by_cases d : a + n = y.1
    · rw [if_pos d]
      exact ⟨h0, by show 1 ≤ n + y.2; omega, by show a + (n + y.2) ≤ p; omega, hf, h2.mono (by show a + (n + y.2) + 1 ≤ _; omega)⟩
    · rw [if_neg d]
      exact ⟨h0, hn, hp, hf, b0, b1, b2, by show a + n + 1 ≤ y.1; omega, h2⟩
theorem right_put {p f a n : Int} {l : List R} (h : Right p f l) (h0 : 0 ≤ a) (hf : f ≤ a) (hn : 1 ≤ n) (hp : a + n ≤ p) (c : ∀ x ∈ l, x.1 + x.2 ≤ a ∨ a + n ≤ x.1) : Right p f (putL l a n) := by
  induction l generalizing f with
  | nil => exact ⟨h0, hn, hp, hf, trivial⟩
  | cons x t ih =>
    obtain ⟨b0, b1, b2, b3, h2⟩ := h
    have cx := c x (List.mem_cons_self ..)
    have ct : ∀ y ∈ t, y.1 + y.2 ≤ a ∨ a + n ≤ y.1 := fun y hy => c y (List.mem_cons_of_mem _ hy)
    unfold putL
    by_cases d : x.1 + x.2 < a
    · rw [if_pos d]
      exact ⟨b0, b1, b2, b3, ih h2 (by omega) ct⟩
    · rw [if_neg d]
      by_cases e : x.1 + x.2 = a
      · rw [if_pos e]
        exact right_front h2 b0 b3 (by omega) (by omega) (fun y hy => by have := ct y hy; have := h2.mem hy; omega)
      · rw [if_neg e]
        refine right_front (g := f) (t := x :: t) ⟨b0, b1, b2, b3, h2⟩ h0 hf hn hp (fun y hy => ?_)
        rcases List.mem_cons.1 hy with rfl | hy
        · omega
        · have := h2.mem hy; omega
theorem has_front {a n g : Int} {t : List R} (hn : 1 ≤ n) (c : ∀ y ∈ t, 1 ≤ y.2) : hasB (front a n t) g = (decide (a ≤ g ∧ g < a + n) || hasB t g) := by
  cases t with
  | nil => simp [front, hasB, inR]
  | cons y t =>
    have cy := c y (List.mem_cons_self ..)
    rw [front_cons]
    by_cases d : a + n = y.1
    · rw [if_pos d, has_cons, has_cons, ← Bool.or_assoc]
      congr 1
      simp only [inR]
      by_cases e : a ≤ g ∧ g < a + n
      · rw [decide_eq_true e, decide_eq_true (by omega)]; rfl
      · rw [decide_eq_false e, Bool.false_or]
        by_cases k : y.1 ≤ g ∧ g < y.1 + y.2
        · rw [decide_eq_true k, decide_eq_true (by omega)]
        · rw [decide_eq_false k, decide_eq_false (by omega)]
    · rw [if_neg d, has_cons]; rfl
theorem has_put {p f a n g : Int} {l : List R} (h : Right p f l) (hn : 1 ≤ n) : hasB (putL l a n) g = (hasB l g || decide (a ≤ g ∧ g < a + n)) := by
  induction l generalizing f with
  | nil => simp [putL, hasB, inR]
  | cons x t ih =>
    obtain ⟨b0, b1, b2, b3, h2⟩ := h
    have c : ∀ y ∈ t, 1 ≤ y.2 := fun y hy => (h2.mem hy).2.2.1
    unfold putL
    by_cases d : x.1 + x.2 < a
    · rw [if_pos d, has_cons, has_cons, ih h2, Bool.or_assoc]
    · rw [if_neg d]
      by_cases e : x.1 + x.2 = a
      · rw [if_pos e, has_front (by omega) c, has_cons]
        simp only [inR]
        by_cases k : a ≤ g ∧ g < a + n
        · rw [decide_eq_true k, decide_eq_true (by omega)]; simp
        · rw [decide_eq_false k, Bool.or_false]
          congr 1
          by_cases m : x.1 ≤ g ∧ g < x.1 + x.2
          · rw [decide_eq_true m, decide_eq_true (by omega)]
          · rw [decide_eq_false m, decide_eq_false (by omega)]
      · rw [if_neg e, has_front hn (fun y hy => by rcases List.mem_cons.1 hy with rfl | hy; exact b1; exact c y hy), Bool.or_comm]
theorem put_len (l : List R) (a n : Int) : (putL l a n).length ≤ l.length + 1 := by
  have fr : ∀ (a n : Int) (t : List R), (front a n t).length ≤ t.length + 1 := by
    intro a n t
    cases t with
    | nil => simp [front]
    | cons y t => rw [front_cons]; split <;> simp
  induction l with
  | nil => simp [putL]
  | cons x t ih =>
    unfold putL
    split
    · simp only [List.length_cons]; omega
    · split
      · have := fr x.1 (x.2 + n) t; simp only [List.length_cons]; omega
      · exact fr a n (x :: t)
/-- What is taken, and put back. -/
theorem put_take {l : List R} {n : Int} {i : Nat} {x : R} (h : Right 256 0 l) (f : Fits l n i x) (hn : 1 ≤ n) : putL (takeL l n i x) x.1 n = l := by
  have b := f.big
  have h' := h
  rw [split_at f.at_] at h'
  obtain ⟨h1, a0, a1, a2, a3, h2⟩ := right_append.1 h'
  unfold takeL
  rw [put_below (fun y hy => by have := lastF_mem h1 y hy; omega)]
  conv => rhs; rw [split_at f.at_]
  congr 1
  unfold rest
  by_cases c : x.2 - n = 0
  · rw [if_pos c, List.nil_append, put_above (fun y hy => by have := h2.mem hy; omega) hn]
    have e : n = x.2 := by omega
    cases hd : l.drop (i + 1) with
    | nil => simp [front, e]
    | cons y t =>
      have := h2.mem (x := y) (by rw [hd]; exact List.mem_cons_self ..)
      rw [front_cons, if_neg (by omega), e]
  · rw [if_neg c, List.singleton_append, putL, if_neg (by show ¬ x.1 + n + (x.2 - n) < x.1; omega), if_neg (by show ¬ x.1 + n + (x.2 - n) = x.1; omega)]
    rw [front_cons, if_pos rfl]
    congr 1
    show (x.1, n + (x.2 - n)) = x
    rw [show n + (x.2 - n) = x.2 by omega]
theorem free_take {l : List R} {n : Int} {i : Nat} {x : R} (h : Right 256 0 l) (f : Fits l n i x) : freeB (takeL l n i x) x.1 n = true := by
  have b := f.big
  rw [split_at f.at_] at h
  obtain ⟨h1, a0, a1, a2, a3, h2⟩ := right_append.1 h
  refine free_of fun y hy => ?_
  unfold takeL rest at hy
  rcases List.mem_append.1 hy with hy | hy
  · have := lastF_mem h1 y hy; omega
  · rcases List.mem_append.1 hy with hy | hy
    · by_cases c : x.2 - n = 0
      · rw [if_pos c] at hy; cases hy
      · rw [if_neg c] at hy
        obtain rfl := List.mem_singleton.1 hy
        right; exact Int.le_refl _
    · have := h2.mem hy; omega

/-! ### The document's way of putting -/
structure St where
  a : Int
  n : Int
  ah : List R
  be : List R
def putStep (s : St) (x : R) : St :=
  if x.1 + x.2 = s.a then ⟨x.1, x.2 + s.n, s.ah, s.be⟩ else if x.1 = s.a + s.n then ⟨s.a, s.n + x.2, s.ah, s.be⟩ else if x.1 < s.a then ⟨s.a, s.n, s.ah ++ [x], s.be⟩ else ⟨s.a, s.n, s.ah, s.be ++ [x]⟩
def putFold (l : List R) (a n : Int) : St := l.foldl putStep ⟨a, n, [], []⟩
theorem fold_snoc {l : List R} {k : Nat} {x : R} (a n : Int) (h : l[k]? = some x) : putFold (l.take (k + 1)) a n = putStep (putFold (l.take k) a n) x := by
  unfold putFold; rw [take_snoc h, List.foldl_append]; rfl
theorem fold_behind {p f : Int} (l : List R) (h : Right p f l) (a n : Int) (ah be : List R) (hn : 1 ≤ n) (c : a + n < f) : l.foldl putStep ⟨a, n, ah, be⟩ = ⟨a, n, ah, be ++ l⟩ := by
  induction l generalizing f be with
  | nil => simp
  | cons x t ih =>
    obtain ⟨b0, b1, b2, b3, h2⟩ := h
    rw [List.foldl_cons]
    have e : putStep ⟨a, n, ah, be⟩ x = ⟨a, n, ah, be ++ [x]⟩ := by
      unfold putStep
      rw [if_neg (by show ¬ x.1 + x.2 = a; omega), if_neg (by show ¬ x.1 = a + n; omega), if_neg (by show ¬ x.1 < a; omega)]
    rw [e, ih h2 _ (by omega)]
    simp
def St.all (s : St) : List R := s.ah ++ (s.a, s.n) :: s.be
theorem fold_front {p f : Int} (l : List R) (h : Right p f l) (a n : Int) (ah : List R) (hn : 1 ≤ n) (c : ∀ y ∈ l, a + n ≤ y.1) : (l.foldl putStep ⟨a, n, ah, []⟩).all = ah ++ front a n l := by
  cases l with
  | nil => rfl
  | cons x t =>
    obtain ⟨b0, b1, b2, b3, h2⟩ := h
    have cx := c x (List.mem_cons_self ..)
    rw [List.foldl_cons]
    rw [front_cons]
    by_cases d : a + n = x.1
    · have e : putStep ⟨a, n, ah, []⟩ x = ⟨a, n + x.2, ah, []⟩ := by
        unfold putStep
        rw [if_neg (by show ¬ x.1 + x.2 = a; omega), if_pos (by show x.1 = a + n; omega)]
      rw [e, if_pos d, fold_behind t h2 a (n + x.2) ah [] (by omega) (by omega)]
      rfl
    · have e : putStep ⟨a, n, ah, []⟩ x = ⟨a, n, ah, [x]⟩ := by
        unfold putStep
        rw [if_neg (by show ¬ x.1 + x.2 = a; omega), if_neg (by show ¬ x.1 = a + n; omega), if_neg (by show ¬ x.1 < a; omega)]
        rfl
      rw [e, if_neg d, fold_behind t h2 a n ah [x] hn (by omega)]
      rfl
theorem fold_put {p f : Int} (l : List R) (h : Right p f l) (a n : Int) (ah : List R) (hn : 1 ≤ n) (c : ∀ x ∈ l, x.1 + x.2 ≤ a ∨ a + n ≤ x.1) : (l.foldl putStep ⟨a, n, ah, []⟩).all = ah ++ putL l a n := by
  induction l generalizing f ah with
  | nil => rfl
  | cons x t ih =>
    have hh := h
    obtain ⟨b0, b1, b2, b3, h2⟩ := h
    have cx := c x (List.mem_cons_self ..)
    have ct : ∀ y ∈ t, y.1 + y.2 ≤ a ∨ a + n ≤ y.1 := fun y hy => c y (List.mem_cons_of_mem _ hy)
    unfold putL
    by_cases d : x.1 + x.2 < a
    · rw [if_pos d, List.foldl_cons]
      have e : putStep ⟨a, n, ah, []⟩ x = ⟨a, n, ah ++ [x], []⟩ := by
        unfold putStep
        rw [if_neg (by show ¬ x.1 + x.2 = a; omega), if_neg (by show ¬ x.1 = a + n; omega), if_pos (by show x.1 < a; omega)]
      rw [e, ih h2 _ ct]
      simp
    · rw [if_neg d]
      by_cases e : x.1 + x.2 = a
      · rw [if_pos e, List.foldl_cons]
        have e' : putStep ⟨a, n, ah, []⟩ x = ⟨x.1, x.2 + n, ah, []⟩ := by
          unfold putStep
          rw [if_pos (by show x.1 + x.2 = a; omega)]
        rw [e']
        exact fold_front t h2 _ _ ah (by omega) (fun y hy => by have := ct y hy; have := h2.mem hy; omega)
      · rw [if_neg e]
        refine fold_front (x :: t) hh a n ah hn (fun y hy => ?_)
        rcases List.mem_cons.1 hy with rfl | hy
        · omega
        · have := h2.mem hy; omega
theorem putFold_all {l : List R} {a n : Int} (h : Right 256 0 l) (hn : 1 ≤ n) (c : freeB l a n = true) : (putFold l a n).all = putL l a n := by
  have := fold_put l h a n [] hn (free_mem c)
  simpa [putFold] using this
/-- The numbers stay small, the lists short. -/
theorem fold_small {l : List R} {a n : Int} (h : Right 256 0 l) (ha : 0 ≤ a ∧ a ≤ 256) (hn : 1 ≤ n ∧ n ≤ 256) (k : Nat) :
    0 ≤ (putFold (l.take k) a n).a ∧ (putFold (l.take k) a n).a ≤ 256 ∧ 1 ≤ (putFold (l.take k) a n).n ∧ (putFold (l.take k) a n).n ≤ 256 * (k + 1) ∧ (putFold (l.take k) a n).ah.length + (putFold (l.take k) a n).be.length ≤ k := by
  induction k with
  | zero => simp [putFold]; omega
  | succ k ih =>
    by_cases c : k < l.length
    · have hx : l[k]? = some l[k] := List.getElem?_eq_getElem c
      have hm := h.at hx
      rw [fold_snoc a n hx]
      obtain ⟨i1, i2, i3, i4, i5⟩ := ih
      generalize putFold (l.take k) a n = s at *
      generalize l[k] = x at *
      unfold putStep
      split
      · simp only; omega
      · split
        · simp only; omega
        · split
          · simp only [List.length_append, List.length_singleton]; omega
          · simp only [List.length_append, List.length_singleton]; omega
    · rw [List.take_of_length_le (by omega)] at ih ⊢
      omega
end Go.Proofs.Ytdolchlhphoggaa
