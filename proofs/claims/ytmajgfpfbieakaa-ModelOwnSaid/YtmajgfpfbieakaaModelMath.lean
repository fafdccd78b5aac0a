/-
  Models as plain lists of live stacks (address, class, owner): which are valid; what is allocated, freed, found; how far deeds are accepted. Own work; no program is walked here.
-/
import Derived.Test.YtmajgfpfbieakaaSizeMath
namespace Go.Proofs.Ytmajgfpfbieakaa.Lm

/-- A live stack: address, class, owner. -/
@[ext] structure S where
  a : Int
  n : Int
  c : Int
deriving DecidableEq, Inhabited
/-- A deed: kind, words, address, code. -/
@[ext] structure D where
  k : Int
  n : Int
  a : Int
  c : Int
deriving DecidableEq, Inhabited
def in64S (z : Int) : Prop := -9223372036854775808 ≤ z ∧ z ≤ 9223372036854775807
def Fit (x : S) : Prop := in64S x.a ∧ in64S x.n ∧ in64S x.c
def FitD (x : D) : Prop := in64S x.k ∧ in64S x.n ∧ in64S x.a ∧ in64S x.c

def endI (x : S) : Int := x.a + wordsI x.n
def liesB (W a c : Int) : Bool := decide (wordsI c ≠ 0 ∧ 0 ≤ a ∧ a % 32 = 0 ∧ a + wordsI c ≤ W)
/-- What is asked of a stack behind one that ends at e. -/
def oneB (W e : Int) (x : S) : Bool := decide (-1 ≤ x.c ∧ e ≤ x.a) && liesB W x.a x.n
def mayFrom (W : Int) : Int → List S → Bool
  | _, [] => true
  | e, x :: t => oneB W e x && mayFrom W (endI x) t
def wideB (W : Int) : Bool := decide (0 ≤ W ∧ W ≤ 16384)
def mayM (W : Int) (l : List S) : Bool := wideB W && mayFrom W 0 l

structure Lies (W a c : Int) : Prop where
  w0 : 32 ≤ wordsI c
  w1 : wordsI c ≤ 4096
  w2 : wordsI c % 32 = 0
  a0 : 0 ≤ a
  a1 : a % 32 = 0
  fit : a + wordsI c ≤ W
  c0 : 0 ≤ c
  c7 : c ≤ 7
theorem words_ways (c : Int) : ((c < 0 ∨ 7 < c) ∧ wordsI c = 0) ∨ (0 ≤ c ∧ c ≤ 7 ∧ 32 ≤ wordsI c ∧ wordsI c ≤ 4096 ∧ wordsI c % 32 = 0) := by
  rcases cls_ways c with h | h | h | h | h | h | h | h | h
  · exact .inl ⟨h, wordsI_out c h⟩
  all_goals (subst h; exact .inr (by decide))
theorem lies_of {W a c : Int} (h : liesB W a c = true) : Lies W a c := by
  obtain ⟨h0, h1, h2, h3⟩ := of_decide_eq_true h
  rcases words_ways c with ⟨_, q⟩ | ⟨q0, q1, q2, q3, q4⟩
  · exact absurd q h0
  · exact ⟨q2, q3, q4, h1, h2, h3, q0, q1⟩
theorem Lies.yes {W a c : Int} (h : Lies W a c) : liesB W a c = true := decide_eq_true ⟨by have := h.w0; omega, h.a0, h.a1, h.fit⟩
/-- A model that may be. -/
structure Valid (W : Int) (l : List S) : Prop where
  w0 : 0 ≤ W
  w1 : W ≤ 16384
  each : ∀ x ∈ l, Lies W x.a x.n
  own : ∀ x ∈ l, -1 ≤ x.c
  row : l.Pairwise (fun x y => endI x ≤ y.a)
theorem valid_from {W : Int} : ∀ (l : List S) (e : Int), mayFrom W e l = true → (∀ x ∈ l, Lies W x.a x.n) ∧ (∀ x ∈ l, -1 ≤ x.c) ∧ (∀ x ∈ l, e ≤ x.a) ∧ l.Pairwise (fun x y => endI x ≤ y.a)
  | [], _, _ => ⟨fun _ h => by (cases h), fun _ h => by (cases h), fun _ h => by (cases h), .nil⟩
  | x :: t, e, h => by
    obtain ⟨h1, h2⟩ := Bool.and_eq_true_iff.1 h
    obtain ⟨h3, h4⟩ := Bool.and_eq_true_iff.1 h1
    obtain ⟨h5, h6⟩ := of_decide_eq_true h3
    obtain ⟨i1, i2, i3, i4⟩ := valid_from t (endI x) h2
    have L := lies_of h4
    have le : e ≤ endI x := by have := L.w0; unfold endI; omega
    refine ⟨fun y hy => ?_, fun y hy => ?_, fun y hy => ?_, List.pairwise_cons.2 ⟨i3, i4⟩⟩
    all_goals rcases List.mem_cons.1 hy with rfl | hy
    · exact L
    · exact i1 y hy
    · exact h5
    · exact i2 y hy
    · exact h6
    · have := i3 y hy; omega
theorem from_valid {W : Int} : ∀ (l : List S) (e : Int), (∀ x ∈ l, Lies W x.a x.n) → (∀ x ∈ l, -1 ≤ x.c) → (∀ x ∈ l, e ≤ x.a) → l.Pairwise (fun x y => endI x ≤ y.a) → mayFrom W e l = true
  | [], _, _, _, _, _ => rfl
  | x :: t, e, h1, h2, h3, h4 => by
    obtain ⟨h5, h6⟩ := List.pairwise_cons.1 h4
    unfold mayFrom oneB
    rw [decide_eq_true ⟨h2 x (List.mem_cons_self ..), h3 x (List.mem_cons_self ..)⟩, (h1 x (List.mem_cons_self ..)).yes,
      from_valid t (endI x) (fun y hy => h1 y (List.mem_cons_of_mem _ hy)) (fun y hy => h2 y (List.mem_cons_of_mem _ hy)) h5 h6]
    rfl
theorem valid_may {W : Int} {l : List S} : mayM W l = true ↔ Valid W l := by
  constructor
  · intro h
    obtain ⟨h1, h2⟩ := Bool.and_eq_true_iff.1 h
    obtain ⟨h3, h4⟩ := of_decide_eq_true h1
    obtain ⟨i1, i2, _, i4⟩ := valid_from l 0 h2
    exact ⟨h3, h4, i1, i2, i4⟩
  · intro h
    unfold mayM wideB
    rw [decide_eq_true ⟨h.w0, h.w1⟩, from_valid l 0 h.each h.own (fun x hx => (h.each x hx).a0) h.row]
    rfl
theorem Valid.nil {W : Int} (h : 0 ≤ W) (h1 : W ≤ 16384) : Valid W [] := ⟨h, h1, fun _ h => by (cases h), fun _ h => by (cases h), .nil⟩
theorem len_from {W : Int} : ∀ (l : List S) (lo : Int), (∀ x ∈ l, Lies W x.a x.n) → l.Pairwise (fun x y => endI x ≤ y.a) → (∀ x ∈ l, lo ≤ x.a) → lo ≤ W → (l.length : Int) * 32 ≤ W - lo
  | [], lo, _, _, _, h => by simp; omega
  | x :: t, lo, h1, h2, h3, h4 => by
    obtain ⟨h5, h6⟩ := List.pairwise_cons.1 h2
    have o := h1 x (List.mem_cons_self ..)
    have b := h3 x (List.mem_cons_self ..)
    have f := o.fit
    have g := o.w0
    have := len_from t (endI x) (fun y hy => h1 y (List.mem_cons_of_mem _ hy)) h6 h5 (by unfold endI; omega)
    unfold endI at this
    simp only [List.length_cons]
    omega
theorem Valid.len {W : Int} {l : List S} (h : Valid W l) : l.length ≤ 512 := by
  have := len_from l 0 h.each h.row (fun x hx => (h.each x hx).a0) h.w0
  have := h.w1
  omega
theorem Valid.at_ {W : Int} {l : List S} (h : Valid W l) {i : Nat} {x : S} (hx : l[i]? = some x) : Lies W x.a x.n := h.each x (List.mem_of_getElem? hx)
theorem Valid.two {W : Int} {l : List S} (h : Valid W l) {i j : Nat} {x y : S} (hx : l[i]? = some x) (hy : l[j]? = some y) (k : i < j) : endI x ≤ y.a := by
  obtain ⟨hi, rfl⟩ := List.getElem?_eq_some_iff.1 hx
  obtain ⟨hj, rfl⟩ := List.getElem?_eq_some_iff.1 hy
  exact List.pairwise_iff_getElem.1 h.row i j hi hj k
theorem Valid.lt {W : Int} {l : List S} (h : Valid W l) {i j : Nat} {x y : S} (hx : l[i]? = some x) (hy : l[j]? = some y) (k : i < j) : x.a < y.a := by
  have := h.two hx hy k
  have := (h.at_ hx).w0
  unfold endI at *
  omega
theorem Valid.sub {W : Int} {l m : List S} (h : Valid W l) (k : m.Sublist l) : Valid W m := ⟨h.w0, h.w1, fun x hx => h.each x (k.subset hx), fun x hx => h.own x (k.subset hx), h.row.sublist k⟩

/-! ### Places -/
/-- How many begin ahead of an address. -/
def placeL : List S → Int → Nat
  | [], _ => 0
  | y :: t, p => if y.a < p then placeL t p + 1 else 0
theorem place_le (l : List S) (p : Int) : placeL l p ≤ l.length := by
  induction l with
  | nil => exact Nat.le_refl _
  | cons y t ih => unfold placeL; split <;> simp <;> omega
theorem place_lo (l : List S) (p : Int) {i : Nat} {y : S} (h : l[i]? = some y) (k : i < placeL l p) : y.a < p := by
  induction l generalizing i with
  | nil => cases h
  | cons z t ih =>
    unfold placeL at k
    split at k
    · cases i with
      | zero => simp only [List.getElem?_cons_zero, Option.some.injEq] at h; subst h; assumption
      | succ i => exact ih (by simpa using h) (by omega)
    · omega
theorem place_hi (l : List S) (p : Int) {y : S} (h : l[placeL l p]? = some y) : p ≤ y.a := by
  induction l with
  | nil => cases h
  | cons z t ih =>
    unfold placeL at h
    split at h
    · exact ih (by simpa using h)
    · simp only [List.getElem?_cons_zero, Option.some.injEq] at h; subst h; omega
theorem place_eq {l : List S} {p : Int} {i : Nat} (h0 : i ≤ l.length) (h1 : ∀ j y, l[j]? = some y → j < i → y.a < p) (h2 : ∀ y, l[i]? = some y → p ≤ y.a) : placeL l p = i := by
  rcases Nat.lt_trichotomy (placeL l p) i with c | c | c
  · have hl : placeL l p < l.length := by omega
    have e : l[placeL l p]? = some l[placeL l p] := List.getElem?_eq_getElem hl
    have := place_hi l p e
    have := h1 _ _ e c
    omega
  · exact c
  · have hl : i < l.length := by have := place_le l p; omega
    have e : l[i]? = some l[i] := List.getElem?_eq_getElem hl
    have := place_lo l p e c
    have := h2 _ e
    omega
theorem Valid.below {W : Int} {l : List S} (h : Valid W l) {p : Int} {i : Nat} {y : S} (hy : l[i]? = some y) : i < placeL l p ↔ y.a < p := by
  constructor
  · exact place_lo l p hy
  · intro q
    refine Nat.lt_of_not_le fun c => ?_
    have hi := (List.getElem?_eq_some_iff.1 hy).1
    obtain ⟨z, e⟩ : ∃ z, l[placeL l p]? = some z := ⟨_, List.getElem?_eq_getElem (by omega)⟩
    have := place_hi l p e
    by_cases d : placeL l p = i
    · rw [d, hy] at e; obtain rfl := Option.some.inj e; omega
    · have := h.lt e hy (by omega); omega
/-- Whether a stack begins at an address: the one at that place does. -/
def hasB (l : List S) (p : Int) : Bool := match l[placeL l p]? with | some y => decide (y.a = p) | none => false
theorem has_some {l : List S} {p : Int} {y : S} (h : l[placeL l p]? = some y) : hasB l p = decide (y.a = p) := by unfold hasB; rw [h]
theorem has_none {l : List S} {p : Int} (h : l[placeL l p]? = none) : hasB l p = false := by unfold hasB; rw [h]
theorem has_at {l : List S} {p : Int} (h : hasB l p = true) : ∃ y, l[placeL l p]? = some y ∧ y.a = p ∧ placeL l p < l.length := by
  cases e : l[placeL l p]? with
  | none => rw [has_none e] at h; cases h
  | some y => exact ⟨y, rfl, of_decide_eq_true (by rw [← has_some e]; exact h), (List.getElem?_eq_some_iff.1 e).1⟩
theorem Valid.found {W : Int} {l : List S} (h : Valid W l) {p : Int} {i : Nat} {y : S} (hy : l[i]? = some y) (e : y.a = p) : hasB l p = true ∧ placeL l p = i := by
  have q : placeL l p = i := place_eq (Nat.le_of_lt (List.getElem?_eq_some_iff.1 hy).1) (fun j z hz hj => by have := h.lt hz hy hj; omega) (fun z hz => by rw [hy] at hz; obtain rfl := Option.some.inj hz; omega)
  subst e
  exact ⟨by rw [has_some (y := y) (by rw [q]; exact hy)]; exact decide_eq_true rfl, q⟩
theorem Valid.not_found {W : Int} {l : List S} (h : Valid W l) {p : Int} (n : hasB l p = false) {i : Nat} {y : S} (hy : l[i]? = some y) : y.a ≠ p := fun e => by rw [(h.found hy e).1] at n; cases n

/-! ### Alloc -/
def hitB (x : S) (a w : Int) : Bool := decide (x.a < a + w ∧ a < endI x)
def anyB (l : List S) (a w : Int) : Bool := l.any (fun x => hitB x a w)
def newS (n a : Int) : S := ⟨a, classI n, -1⟩
def fitB (W n a : Int) : Bool := classB n && liesB W a (classI n)
def roomB (W : Int) (l : List S) (n a : Int) : Bool := fitB W n a && !anyB l a (wordsI (classI n))
def insL (l : List S) (x : S) : List S := l.take (placeL l x.a) ++ x :: l.drop (placeL l x.a)
def allocL (W : Int) (l : List S) (n a : Int) : List S := if roomB W l n a then insL l (newS n a) else []
def allocW (W : Int) (l : List S) (n a : Int) : Int := if roomB W l n a then W else 0
/-- Of those that are there only the neighbours can have a word in common with another one. -/
theorem Valid.any_at {W : Int} {l : List S} (h : Valid W l) {a w : Int} (hw : 32 ≤ w) : anyB l a w = ((decide (0 < placeL l a) && (match l[placeL l a - 1]? with | some x => hitB x a w | none => false)) || (match l[placeL l a]? with | some x => hitB x a w | none => false)) := by
  cases e : anyB l a w with
  | false =>
    have none_ : ∀ x ∈ l, hitB x a w = false := fun x hx => by
      cases q : hitB x a w with
      | false => rfl
      | true => rw [anyB, List.any_eq_true.2 ⟨x, hx, q⟩] at e; cases e
    have g : ∀ i : Nat, (match l[i]? with | some x => hitB x a w | none => false) = false := fun i => by
      cases q : l[i]? with
      | none => rfl
      | some x => exact none_ x (List.mem_of_getElem? q)
    rw [g, g]
    simp
  | true =>
    obtain ⟨x, hx, q⟩ := List.any_eq_true.1 e
    obtain ⟨i, hi⟩ := List.getElem?_of_mem hx
    obtain ⟨q1, q2⟩ := of_decide_eq_true q
    have il := (List.getElem?_eq_some_iff.1 hi).1
    by_cases c : i < placeL l a
    · obtain ⟨z, e2⟩ : ∃ z, l[placeL l a - 1]? = some z := ⟨_, List.getElem?_eq_getElem (by have := place_le l a; omega)⟩
      have y2 : hitB z a w = true := by
        have lo := place_lo l a e2 (by omega)
        refine decide_eq_true ⟨by omega, ?_⟩
        by_cases d : i = placeL l a - 1
        · rw [← d, hi] at e2; obtain rfl := Option.some.inj e2; exact q2
        · have := h.two hi e2 (by omega)
          have := (h.at_ e2).w0
          unfold endI at *
          omega
      rw [e2]
      simp only [y2]
      simp
      omega
    · obtain ⟨z, e2⟩ : ∃ z, l[placeL l a]? = some z := ⟨_, List.getElem?_eq_getElem (by omega)⟩
      have y2 : hitB z a w = true := by
        have hi2 := place_hi l a e2
        have := (h.at_ e2).w0
        refine decide_eq_true ⟨?_, by unfold endI; omega⟩
        by_cases d : i = placeL l a
        · rw [← d, hi] at e2; obtain rfl := Option.some.inj e2; exact q1
        · have := h.lt e2 hi (by omega)
          omega
      rw [e2]
      simp only [y2]
      simp
theorem room_ok {W : Int} {l : List S} {n a : Int} (h : roomB W l n a = true) : classB n = true ∧ Lies W a (classI n) ∧ anyB l a (wordsI (classI n)) = false := by
  obtain ⟨h1, h2⟩ := Bool.and_eq_true_iff.1 h
  obtain ⟨h3, h4⟩ := Bool.and_eq_true_iff.1 h1
  exact ⟨h3, lies_of h4, by simpa using h2⟩
theorem any_mem {l : List S} {a w : Int} (h : anyB l a w = false) {x : S} (hx : x ∈ l) : a + w ≤ x.a ∨ endI x ≤ a := by
  have q : hitB x a w = false := by
    cases q : hitB x a w with
    | false => rfl
    | true => rw [anyB, List.any_eq_true.2 ⟨x, hx, q⟩] at h; cases h
  have := of_decide_eq_false q
  omega
def roomI (W : Int) (l : List S) (n a : Int) : Int := if roomB W l n a then (placeL l a : Int) else 0
def roomX (W : Int) (l : List S) (n a : Int) : S := if roomB W l n a then newS n a else ⟨0, 0, 0⟩
theorem room_no {W : Int} {l : List S} {n a : Int} (h : roomB W l n a = false) : roomI W l n a = 0 ∧ roomX W l n a = ⟨0, 0, 0⟩ ∧ allocL W l n a = [] ∧ allocW W l n a = 0 := by
  unfold roomI roomX allocL allocW
  simp [h]
theorem room_yes {W : Int} {l : List S} {n a : Int} (h : roomB W l n a = true) : roomI W l n a = (placeL l a : Int) ∧ roomX W l n a = newS n a ∧ allocL W l n a = insL l (newS n a) ∧ allocW W l n a = W := by
  unfold roomI roomX allocL allocW
  simp [h]
theorem room_ways (W : Int) (l : List S) (n a : Int) : (classB n = false ∧ roomB W l n a = false) ∨ (classB n = true ∧ liesB W a (classI n) = false ∧ roomB W l n a = false) ∨ (classB n = true ∧ liesB W a (classI n) = true ∧ roomB W l n a = !anyB l a (wordsI (classI n))) := by
  unfold roomB fitB
  cases classB n with
  | false => exact .inl ⟨rfl, rfl⟩
  | true =>
    cases liesB W a (classI n) with
    | false => exact .inr (.inl ⟨rfl, rfl, rfl⟩)
    | true => exact .inr (.inr ⟨rfl, rfl, by simp⟩)
/-- The neighbours of a place: none below, or one that does or does not have a word in common; so above. -/
theorem Valid.near {W : Int} {l : List S} (h : Valid W l) {a w : Int} (hw : 32 ≤ w) :
    (∃ m x, placeL l a = m + 1 ∧ l[m]? = some x ∧ hitB x a w = true ∧ anyB l a w = true) ∨
    ((placeL l a = 0 ∨ ∃ m x, placeL l a = m + 1 ∧ l[m]? = some x ∧ hitB x a w = false) ∧ ((l[placeL l a]? = none ∧ anyB l a w = false) ∨ ∃ x, l[placeL l a]? = some x ∧ hitB x a w = anyB l a w)) := by
  have e := h.any_at (a := a) hw
  have up : ((placeL l a = 0 ∨ ∃ m x, placeL l a = m + 1 ∧ l[m]? = some x ∧ hitB x a w = false)) → anyB l a w = (match l[placeL l a]? with | some x => hitB x a w | none => false) → ((l[placeL l a]? = none ∧ anyB l a w = false) ∨ ∃ x, l[placeL l a]? = some x ∧ hitB x a w = anyB l a w) := fun _ e => by
    cases q : l[placeL l a]? with
    | none => rw [q] at e; exact .inl ⟨rfl, e⟩
    | some x => rw [q] at e; exact .inr ⟨x, rfl, e.symm⟩
  cases z : placeL l a with
  | zero =>
    rw [z] at e up
    have u := up (.inl rfl) (by simpa using e)
    exact .inr ⟨.inl rfl, u⟩
  | succ m =>
    obtain ⟨x, hx⟩ : ∃ x, l[m]? = some x := ⟨_, List.getElem?_eq_getElem (by have := place_le l a; omega)⟩
    rw [z] at e up
    simp only [Nat.add_sub_cancel, hx] at e
    cases q : hitB x a w with
    | true => exact .inl ⟨m, x, rfl, hx, q, by rw [e, q]; simp⟩
    | false =>
      have o := Or.inr (a := m + 1 = 0) (⟨m, x, rfl, hx, q⟩ : ∃ m' x, m + 1 = m' + 1 ∧ l[m']? = some x ∧ hitB x a w = false)
      exact .inr ⟨o, up o (by rw [e, q]; simp)⟩
theorem Valid.ins {W : Int} {l : List S} {n a : Int} (h : Valid W l) (r : roomB W l n a = true) : Valid W (insL l (newS n a)) := by
  obtain ⟨r1, r2, r3⟩ := room_ok r
  have lo : ∀ x ∈ l.take (placeL l a), endI x ≤ a := fun x hx => by
    obtain ⟨i, hi⟩ := List.getElem?_of_mem hx
    have il := (List.getElem?_eq_some_iff.1 hi).1
    rw [List.length_take] at il
    rw [List.getElem?_take, if_pos (by omega)] at hi
    have := place_lo l a hi (by omega)
    rcases any_mem r3 (List.mem_of_getElem? hi) with q | q
    · have := r2.w0; omega
    · exact q
  have hi : ∀ x ∈ l.drop (placeL l a), a + wordsI (classI n) ≤ x.a := fun x hx => by
    obtain ⟨i, hi⟩ := List.getElem?_of_mem hx
    rw [List.getElem?_drop] at hi
    rcases any_mem r3 (List.mem_of_getElem? hi) with q | q
    · exact q
    · have := (h.at_ hi).w0
      have : ¬ x.a < a := fun c => by have := (h.below (p := a) hi).2 c; omega
      unfold endI at q
      omega
  refine ⟨h.w0, h.w1, fun x hx => ?_, fun x hx => ?_, ?_⟩
  · rcases List.mem_append.1 hx with q | q
    · exact h.each x (List.mem_of_mem_take q)
    · rcases List.mem_cons.1 q with rfl | q
      · exact r2
      · exact h.each x (List.mem_of_mem_drop q)
  · rcases List.mem_append.1 hx with q | q
    · exact h.own x (List.mem_of_mem_take q)
    · rcases List.mem_cons.1 q with rfl | q
      · exact Int.le_refl _
      · exact h.own x (List.mem_of_mem_drop q)
  · refine List.pairwise_append.2 ⟨h.row.sublist (List.take_sublist ..), List.pairwise_cons.2 ⟨hi, h.row.sublist (List.drop_sublist ..)⟩, fun x hx y hy => ?_⟩
    rcases List.mem_cons.1 hy with rfl | hy
    · exact lo x hx
    · have := lo x hx
      have := hi y hy
      have := r2.w0
      omega

/-! ### Free, Find -/
def delL (l : List S) (a : Int) : List S := l.take (placeL l a) ++ l.drop (placeL l a + 1)
def freeL (l : List S) (a : Int) : List S := if hasB l a then delL l a else []
def freeW (W : Int) (l : List S) (a : Int) : Int := if hasB l a then W else 0
def freeC (l : List S) (a : Int) : Int := if hasB l a then 0 else 2
def findS (l : List S) (a : Int) : S := if hasB l a then l.getD (placeL l a) ⟨0, 0, 0⟩ else ⟨0, 0, 0⟩
theorem del_sub (l : List S) (a : Int) : (delL l a).Sublist l := by
  unfold delL
  have h : l = l.take (placeL l a) ++ l.drop (placeL l a) := (List.take_append_drop ..).symm
  have e : (l.drop (placeL l a + 1)).Sublist (l.drop (placeL l a)) := by
    rw [← List.drop_drop]
    exact List.drop_sublist ..
  have := (List.Sublist.refl (l.take (placeL l a))).append e
  rwa [← h] at this
theorem Valid.del {W : Int} {l : List S} (h : Valid W l) (a : Int) : Valid W (delL l a) := h.sub (del_sub l a)

/-! ### Deeds -/
def accB (W : Int) (l : List S) (d : D) : Bool :=
  if d.k = 1 then (if d.c = 0 then roomB W l d.n d.a else if d.c = 3 then classB d.n else if d.c = 1 then !classB d.n else false)
  else if d.k = 2 then (if d.c = 0 then hasB l d.a else if d.c = 2 then !hasB l d.a else false) else false
def accL (W : Int) (l : List S) (d : D) : List S :=
  if d.k = 1 ∧ d.c = 0 ∧ roomB W l d.n d.a = true then insL l (newS d.n d.a)
  else if d.k = 2 ∧ d.c = 0 ∧ hasB l d.a = true then delL l d.a else l
def accM (W : Int) : List S → List D → List S
  | l, [] => l
  | l, d :: t => if accB W l d then accM W (accL W l d) t else l
def accK (W : Int) : List S → List D → Nat
  | _, [] => 0
  | l, d :: t => if accB W l d then accK W (accL W l d) t + 1 else 0
def accF (W : Int) : List S → List D → Bool
  | _, [] => true
  | l, d :: t => if accB W l d then accF W (accL W l d) t else false
theorem Valid.acc {W : Int} {l : List S} (h : Valid W l) (d : D) : Valid W (accL W l d) := by
  unfold accL
  split
  · exact h.ins (by simp_all)
  · split
    · exact h.del _
    · exact h
theorem Valid.accM {W : Int} : ∀ (ds : List D) {l : List S}, Valid W l → Valid W (accM W l ds)
  | [], _, h => h
  | d :: t, l, h => by
    show Valid W (if accB W l d then Lm.accM W (accL W l d) t else l)
    split
    · exact Valid.accM t (h.acc d)
    · exact h
end Go.Proofs.Ytmajgfpfbieakaa.Lm
