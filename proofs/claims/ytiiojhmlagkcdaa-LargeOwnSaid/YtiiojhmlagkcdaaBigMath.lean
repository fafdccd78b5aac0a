/-
  Lists of large stacks (address, class) as plain lists: what is valid, what stands ahead, what has a word in common, right lists; what is put, taken, dropped; words. Own work; no program is walked here.
-/
import Derived.Test.YtiiojhmlagkcdaaSizeMath
namespace Go.Proofs.Ytiiojhmlagkcdaa.Bg

/-- An address and a class. -/
abbrev R := Int × Int
def mayB (b : R) : Bool := decide (4 ≤ b.2 ∧ b.2 ≤ 7 ∧ 0 ≤ b.1 ∧ b.1 % 64 = 0 ∧ b.1 + wordsI b.2 ≤ 16384)
def hitB (a b : R) : Bool := decide (a.1 < b.1 + wordsI b.2 ∧ b.1 < a.1 + wordsI a.2)
def aheadB (a b : R) : Bool := decide (a.2 < b.2 ∨ (a.2 = b.2 ∧ a.1 < b.1))
theorem words_large {c : Int} (h : 4 ≤ c) (h1 : c ≤ 7) : 512 ≤ wordsI c ∧ wordsI c ≤ 4096 ∧ wordsI c % 512 = 0 := by
  have : c = 4 ∨ c = 5 ∨ c = 6 ∨ c = 7 := by omega
  rcases this with rfl | rfl | rfl | rfl <;> decide
structure May (b : R) : Prop where
  c0 : 4 ≤ b.2
  c1 : b.2 ≤ 7
  a0 : 0 ≤ b.1
  a1 : b.1 % 64 = 0
  fit : b.1 + wordsI b.2 ≤ 16384
  w0 : 512 ≤ wordsI b.2
  w1 : wordsI b.2 ≤ 4096
  w2 : wordsI b.2 % 512 = 0
theorem may_of {b : R} (h : mayB b = true) : May b := by
  obtain ⟨h0, h1, h2, h3, h4⟩ := of_decide_eq_true h
  obtain ⟨w0, w1, w2⟩ := words_large h0 h1
  exact ⟨h0, h1, h2, h3, h4, w0, w1, w2⟩
/-- What is true of the stack x at place i of a right list. -/
structure OkAt (l : List R) (i : Nat) (x : R) : Prop where
  may : mayB x = true
  up : ∀ y, 0 < i → l[i - 1]? = some y → aheadB y x = true
  far : ∀ (j : Nat) y, j < i → l[j]? = some y → hitB y x = false
def RightTo (l : List R) (k : Nat) : Prop := ∀ (i : Nat) (x : R), i < k → l[i]? = some x → OkAt l i x
def RightL (l : List R) : Prop := RightTo l l.length
theorem RightTo.zero (l : List R) : RightTo l 0 := fun _ _ h => absurd h (Nat.not_lt_zero _)
theorem RightTo.step {l : List R} {k : Nat} {x : R} (h : RightTo l k) (hx : l[k]? = some x) (ok : OkAt l k x) : RightTo l (k + 1) := by
  intro i y hi hy
  by_cases e : i = k
  · subst e; rw [hx] at hy; obtain rfl := Option.some.inj hy; exact ok
  · exact h i y (by omega) hy
theorem RightTo.may {l : List R} {k : Nat} (h : RightTo l k) : ∀ y ∈ l.take k, mayB y = true := by
  intro y hy
  obtain ⟨i, hi⟩ := List.getElem?_of_mem hy
  have hl := (List.getElem?_eq_some_iff.1 hi).1
  rw [List.length_take] at hl
  rw [List.getElem?_take, if_pos (by omega)] at hi
  exact (h i y (by omega) hi).may
theorem not_right {l : List R} {k : Nat} {x : R} (hx : l[k]? = some x) (h : ¬ OkAt l k x) : ¬ RightL l :=
  fun r => h (r k x (List.getElem?_eq_some_iff.1 hx).1 hx)
theorem RightL.at_ {l : List R} (h : RightL l) {i : Nat} {x : R} (hx : l[i]? = some x) : OkAt l i x := h i x (List.getElem?_eq_some_iff.1 hx).1 hx
theorem RightL.may {l : List R} (h : RightL l) {x : R} (hx : x ∈ l) : mayB x = true := by
  obtain ⟨i, hi⟩ := List.getElem?_of_mem hx
  exact (h.at_ hi).may
theorem RightL.nil : RightL [] := RightTo.zero []
theorem ahead_trans {a b c : R} (h : aheadB a b = true) (h1 : aheadB b c = true) : aheadB a c = true := by
  have := of_decide_eq_true h
  have := of_decide_eq_true h1
  exact decide_eq_true (by omega)
theorem ahead_asym {a b : R} (h : aheadB a b = true) : aheadB b a = false := by
  have := of_decide_eq_true h
  exact decide_eq_false (by omega)
theorem ahead_or {a b : R} (h : aheadB a b = false) (n : a ≠ b) : aheadB b a = true := by
  have h := of_decide_eq_false h
  refine decide_eq_true ?_
  have : ¬ (a.1 = b.1 ∧ a.2 = b.2) := fun q => n (Prod.ext q.1 q.2)
  omega
theorem hit_self {b : R} (h : mayB b = true) : hitB b b = true := by
  have m := may_of h
  have := m.w0
  exact decide_eq_true (by omega)
theorem hit_comm (a b : R) : hitB a b = hitB b a := by unfold hitB; rw [decide_eq_decide]; exact And.comm
theorem RightL.up {l : List R} (h : RightL l) {i j : Nat} {x y : R} (hij : i < j) (hx : l[i]? = some x) (hy : l[j]? = some y) : aheadB x y = true := by
  induction j generalizing y with
  | zero => omega
  | succ j ih =>
    by_cases e : i = j
    · subst e; exact (h.at_ hy).up x (by omega) hx
    · have hj : j < l.length := by have := (List.getElem?_eq_some_iff.1 hy).1; omega
      have g : l[j]? = some l[j] := List.getElem?_eq_getElem hj
      exact ahead_trans (ih (by omega) g) ((h.at_ hy).up _ (by omega) g)
/-- Right lists, by their stacks alone. -/
theorem right_pw {l : List R} : RightL l ↔ (∀ x ∈ l, mayB x = true) ∧ l.Pairwise (fun a b => aheadB a b = true ∧ hitB a b = false) := by
  constructor
  · intro h
    refine ⟨fun x hx => h.may hx, List.pairwise_iff_getElem.2 fun i j hi hj hij => ?_⟩
    have gi : l[i]? = some l[i] := List.getElem?_eq_getElem hi
    have gj : l[j]? = some l[j] := List.getElem?_eq_getElem hj
    exact ⟨h.up hij gi gj, (h.at_ gj).far i _ hij gi⟩
  · rintro ⟨m, p⟩ i x hi hx
    obtain ⟨hil, ex⟩ := List.getElem?_eq_some_iff.1 hx
    have pw := List.pairwise_iff_getElem.1 p
    refine ⟨m x (List.mem_of_getElem? hx), fun y h0 hy => ?_, fun j y hj hy => ?_⟩
    · obtain ⟨hl, ey⟩ := List.getElem?_eq_some_iff.1 hy
      subst ex; subst ey
      exact (pw (i - 1) i hl hil (by omega)).1
    · obtain ⟨hl, ey⟩ := List.getElem?_eq_some_iff.1 hy
      subst ex; subst ey
      exact (pw j i hl hil hj).2
theorem RightL.sub {l m : List R} (h : RightL l) (s : m.Sublist l) : RightL m := by
  obtain ⟨a, b⟩ := right_pw.1 h
  exact right_pw.2 ⟨fun x hx => a x (s.subset hx), b.sublist s⟩
theorem tw_mem {p : R → Bool} {l : List R} {x : R} (h : x ∈ l.takeWhile p) : p x = true := by
  induction l with
  | nil => cases h
  | cons y t ih =>
    rw [List.takeWhile_cons] at h
    cases e : p y with
    | false => rw [e] at h; cases h
    | true =>
      rw [e] at h
      simp only [if_true] at h
      rcases List.mem_cons.1 h with rfl | h
      · exact e
      · exact ih h
/-! ### Put -/
def placeL (l : List R) (b : R) : Nat := (l.takeWhile (fun x => aheadB x b)).length
def anyB (l : List R) (b : R) : Bool := l.any (fun x => hitB x b)
def insL (l : List R) (b : R) : List R := l.take (placeL l b) ++ b :: l.drop (placeL l b)
def putC (l : List R) (b : R) : Int := if mayB b then (if anyB l b then 4 else 0) else 1
def putL (l : List R) (b : R) : List R := if mayB b then (if anyB l b then [] else insL l b) else []
theorem place_le (l : List R) (b : R) : placeL l b ≤ l.length := (List.takeWhile_prefix _).length_le
theorem place_lo (l : List R) (b : R) {i : Nat} {y : R} (h : l[i]? = some y) (hi : i < placeL l b) : aheadB y b = true := by
  have p : l.takeWhile (fun x => aheadB x b) <+: l := List.takeWhile_prefix _
  have g : (l.takeWhile (fun x => aheadB x b))[i]? = some y := by
    obtain ⟨t, ht⟩ := p
    have e : l[i]? = (l.takeWhile (fun x => aheadB x b) ++ t)[i]? := by rw [ht]
    rw [List.getElem?_append_left hi] at e
    rw [← e]; exact h
  have m := List.mem_of_getElem? g
  exact tw_mem (p := fun x => aheadB x b) m
theorem place_at (l : List R) (b : R) {y : R} (h : l[placeL l b]? = some y) : aheadB y b = false := by
  unfold placeL at h
  induction l with
  | nil => cases h
  | cons x t ih =>
    rw [List.takeWhile_cons] at h
    cases e : aheadB x b with
    | false => rw [e] at h; simp at h; subst h; exact e
    | true => rw [e] at h; simp at h; exact ih h
theorem place_hi {l : List R} (r : RightL l) (b : R) {i : Nat} {y : R} (h : l[i]? = some y) (hi : placeL l b ≤ i) : aheadB y b = false := by
  by_cases e : placeL l b = i
  · subst e; exact place_at l b h
  · have hl : placeL l b < l.length := by have := (List.getElem?_eq_some_iff.1 h).1; omega
    have g : l[placeL l b]? = some l[placeL l b] := List.getElem?_eq_getElem hl
    have q := place_at l b g
    cases a : aheadB y b with
    | false => rfl
    | true => rw [ahead_trans (r.up (by omega) g h) a] at q; cases q
theorem any_false {l : List R} {b : R} (h : anyB l b = false) {x : R} (hx : x ∈ l) : hitB x b = false := by
  unfold anyB at h
  rw [List.any_eq_false] at h
  cases e : hitB x b with
  | false => rfl
  | true => exact absurd e (h x hx)
theorem any_true {l : List R} {b : R} {x : R} (hx : x ∈ l) (h : hitB x b = true) : anyB l b = true := List.any_eq_true.2 ⟨x, hx, h⟩
theorem any_take {l : List R} {b x : R} {k : Nat} (hx : l[k]? = some x) : anyB (l.take (k + 1)) b = (anyB (l.take k) b || hitB x b) := by
  unfold anyB
  rw [List.take_add_one, hx, Option.toList_some, List.any_append]
  simp
theorem ins_length (l : List R) (b : R) : (insL l b).length = l.length + 1 := by
  unfold insL
  have := place_le l b
  simp
  omega
theorem ins_mem (l : List R) (b x : R) : x ∈ insL l b ↔ x = b ∨ x ∈ l := by
  unfold insL
  have e := List.take_append_drop (placeL l b) l
  constructor
  · intro h
    rcases List.mem_append.1 h with h | h
    · exact .inr (List.mem_of_mem_take h)
    · rcases List.mem_cons.1 h with h | h
      · exact .inl h
      · exact .inr (List.mem_of_mem_drop h)
  · rintro (h | h)
    · subst h; simp
    · rw [← e] at h
      rcases List.mem_append.1 h with h | h
      · exact List.mem_append.2 (.inl h)
      · exact List.mem_append.2 (.inr (List.mem_cons_of_mem _ h))
theorem right_ins {l : List R} (r : RightL l) {b : R} (m : mayB b = true) (n : anyB l b = false) : RightL (insL l b) := by
  obtain ⟨a, p⟩ := right_pw.1 r
  refine right_pw.2 ⟨fun x hx => ?_, ?_⟩
  · rcases (ins_mem l b x).1 hx with rfl | h
    · exact m
    · exact a x h
  · unfold insL
    have hd : ∀ y ∈ l.drop (placeL l b), aheadB b y = true ∧ hitB b y = false := by
      intro y hy
      obtain ⟨j, hj⟩ := List.getElem?_of_mem hy
      rw [List.getElem?_drop] at hj
      have q := place_hi r b hj (by omega)
      have hm := List.mem_of_getElem? hj
      have nh := any_false n hm
      refine ⟨ahead_or q fun e => ?_, by rw [hit_comm]; exact nh⟩
      subst e
      rw [hit_self m] at nh
      cases nh
    have ht : ∀ y ∈ l.take (placeL l b), aheadB y b = true ∧ hitB y b = false := by
      intro y hy
      obtain ⟨j, hj⟩ := List.getElem?_of_mem hy
      have hl := (List.getElem?_eq_some_iff.1 hj).1
      rw [List.length_take] at hl
      rw [List.getElem?_take, if_pos (by omega)] at hj
      exact ⟨place_lo l b hj (by omega), any_false n (List.mem_of_getElem? hj)⟩
    rw [← List.take_append_drop (placeL l b) l] at p
    obtain ⟨p1, p2, p3⟩ := List.pairwise_append.1 p
    refine List.pairwise_append.2 ⟨p1, List.pairwise_cons.2 ⟨fun y hy => hd y hy, p2⟩, fun x hx y hy => ?_⟩
    rcases List.mem_cons.1 hy with rfl | hy
    · exact ht x hx
    · exact p3 x hx y hy
theorem put_ways (l : List R) (b : R) : (mayB b = false ∧ putC l b = 1 ∧ putL l b = []) ∨ (mayB b = true ∧ anyB l b = true ∧ putC l b = 4 ∧ putL l b = []) ∨ (mayB b = true ∧ anyB l b = false ∧ putC l b = 0 ∧ putL l b = insL l b) := by
  unfold putC putL
  cases h : mayB b with
  | false => exact .inl ⟨rfl, by simp, by simp⟩
  | true =>
    cases h1 : anyB l b with
    | true => exact .inr (.inl ⟨rfl, rfl, by simp, by simp⟩)
    | false => exact .inr (.inr ⟨rfl, rfl, by simp, by simp⟩)
theorem right_put {l : List R} (r : RightL l) (b : R) : RightL (putL l b) := by
  rcases put_ways l b with ⟨_, _, e⟩ | ⟨_, _, _, e⟩ | ⟨m, n, _, e⟩
  · rw [e]; exact RightL.nil
  · rw [e]; exact RightL.nil
  · rw [e]; exact right_ins r m n
theorem put_length (l : List R) (b : R) : (putL l b).length ≤ l.length + 1 := by
  rcases put_ways l b with ⟨_, _, e⟩ | ⟨_, _, _, e⟩ | ⟨m, n, _, e⟩
  · rw [e]; simp
  · rw [e]; simp
  · rw [e, ins_length]; omega
theorem putC_lim (l : List R) (b : R) : 0 ≤ putC l b ∧ putC l b ≤ 4 := by
  rcases put_ways l b with ⟨_, e, _⟩ | ⟨_, _, e, _⟩ | ⟨m, n, e, _⟩ <;> omega
/-! ### Take -/
def ixL (l : List R) (c : Int) : Nat := (l.takeWhile (fun x => !decide (x.2 = c))).length
def takeC (l : List R) (c : Int) : Int := if ixL l c < l.length then 0 else 2
def takeL (l : List R) (c : Int) : List R := if ixL l c < l.length then l.take (ixL l c) ++ l.drop (ixL l c + 1) else []
def takeA (l : List R) (c : Int) : Int := match l[ixL l c]? with
  | some x => x.1
  | none => 0
theorem ix_lo (l : List R) (c : Int) {i : Nat} {y : R} (h : l[i]? = some y) (hi : i < ixL l c) : y.2 ≠ c := by
  have p : l.takeWhile (fun x => !decide (x.2 = c)) <+: l := List.takeWhile_prefix _
  have g : (l.takeWhile (fun x => !decide (x.2 = c)))[i]? = some y := by
    obtain ⟨t, ht⟩ := p
    have e : l[i]? = (l.takeWhile (fun x => !decide (x.2 = c)) ++ t)[i]? := by rw [ht]
    rw [List.getElem?_append_left hi] at e
    rw [← e]; exact h
  have m := List.mem_of_getElem? g
  have := tw_mem (p := fun x => !decide (x.2 = c)) m
  simpa using this
theorem ix_at (l : List R) (c : Int) {y : R} (h : l[ixL l c]? = some y) : y.2 = c := by
  unfold ixL at h
  induction l with
  | nil => cases h
  | cons x t ih =>
    rw [List.takeWhile_cons] at h
    by_cases e : x.2 = c
    · simp [e] at h; subst h; exact e
    · simp [e] at h; exact ih h
theorem ix_le (l : List R) (c : Int) : ixL l c ≤ l.length := (List.takeWhile_prefix _).length_le
theorem take_ways (l : List R) (c : Int) : ((∀ x ∈ l, x.2 ≠ c) ∧ ixL l c = l.length ∧ takeC l c = 2 ∧ takeL l c = [] ∧ takeA l c = 0) ∨ ∃ x, l[ixL l c]? = some x ∧ x.2 = c ∧ ixL l c < l.length ∧ takeC l c = 0 ∧ takeL l c = l.take (ixL l c) ++ l.drop (ixL l c + 1) ∧ takeA l c = x.1 := by
  unfold takeC takeL takeA
  by_cases h : ixL l c < l.length
  · have g : l[ixL l c]? = some l[ixL l c] := List.getElem?_eq_getElem h
    refine .inr ⟨_, g, ix_at l c g, h, if_pos h, if_pos h, by rw [g]⟩
  · have e : ixL l c = l.length := by have := ix_le l c; omega
    refine .inl ⟨fun x hx => ?_, e, if_neg h, if_neg h, by rw [e, List.getElem?_eq_none (Nat.le_refl _)]⟩
    obtain ⟨i, hi⟩ := List.getElem?_of_mem hx
    exact ix_lo l c hi (by have := (List.getElem?_eq_some_iff.1 hi).1; omega)
theorem take_sub (l : List R) (c : Int) : (takeL l c).Sublist l := by
  rcases take_ways l c with ⟨_, _, _, e, _⟩ | ⟨x, hx, _, _, _, e, _⟩
  · rw [e]; exact List.nil_sublist _
  · rw [e]
    have h : (l.take (ixL l c) ++ l.drop (ixL l c + 1)).Sublist (l.take (ixL l c) ++ l.drop (ixL l c)) := by
      refine List.Sublist.append_left ?_ _
      have : l.drop (ixL l c + 1) = (l.drop (ixL l c)).drop 1 := by rw [List.drop_drop]
      rw [this]
      exact List.drop_sublist _ _
    rwa [List.take_append_drop] at h
/-! ### Drop, words -/
def dropB (l : List R) : Bool := decide (0 < l.length)
def headL (l : List R) : R := match l with
  | [] => (0, 0)
  | x :: _ => x
def wordsL : List R → Int
  | [] => 0
  | x :: t => wordsI x.2 + wordsL t
theorem words_append (a b : List R) : wordsL (a ++ b) = wordsL a + wordsL b := by
  induction a with
  | nil => simp [wordsL]
  | cons x t ih => simp only [List.cons_append, wordsL, ih]; omega
theorem words_lim (l : List R) : 0 ≤ wordsL l ∧ wordsL l ≤ 4096 * (l.length : Int) := by
  induction l with
  | nil => simp [wordsL]
  | cons x t ih =>
    have := wordsI_lim x.2
    simp only [wordsL, List.length_cons]
    omega
theorem words_snoc {l : List R} {k : Nat} {x : R} (h : l[k]? = some x) : wordsL (l.take (k + 1)) = wordsL (l.take k) + wordsI x.2 := by
  rw [List.take_add_one, h, Option.toList_some, words_append]
  simp [wordsL]
end Go.Proofs.Ytiiojhmlagkcdaa.Bg
