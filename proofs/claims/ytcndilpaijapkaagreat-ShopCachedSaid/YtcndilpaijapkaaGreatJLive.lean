/-
  Joined texts of Live; own work.
-/
import Derived.Test.YtcndilpaijapkaaGreatRows
import Derived.WalkKit
import Derived.OwnWalk
import Derived.Maps.AppendAt
import Derived.Deep.AppendLies
import Derived.Deep.Slices
import Derived.Deep.SlicePairs
import Derived.Laws.IdiomCopy
import Derived.Lib.AppendZerosOnto
import Derived.Lib.SliceRun
import Derived.ProofKit
import Derived.OpenShut
import Derived.Outline
import Derived.Deep.Light
import Derived.IntWalk
import Derived.RegionTactic
import Derived.Deep.RegionLaw
import Derived.Lib.Overlaps
import Derived.Laws.Externs
import Derived.Test.YtcndilpaijapkaaGreatJBase
import Derived.Test.YtcndilpaijapkaaGreatJSize
/- Models as plain lists of live stacks (address, class, owner): which are valid; what is allocated, freed, found; how far deeds are accepted. Own work; no program is walked here. -/
namespace Go.Proofs.YtcndilpaijapkaaGreat.Lm

/-- A live stack: address, class, owner. -/
@[ext] structure S where
  a : Int
  n : Int
  c : Int
deriving DecidableEq, Inhabited
/-- A deed: kind, words, address, code. -/
@[ext] structure D where
  k : Int
  n : Int
  a : Int
  c : Int
deriving DecidableEq, Inhabited
def in64S (z : Int) : Prop := -9223372036854775808 ≤ z ∧ z ≤ 9223372036854775807
def Fit (x : S) : Prop := in64S x.a ∧ in64S x.n ∧ in64S x.c
def FitD (x : D) : Prop := in64S x.k ∧ in64S x.n ∧ in64S x.a ∧ in64S x.c

def endI (x : S) : Int := x.a + wordsI x.n
def liesB (W a c : Int) : Bool := decide (wordsI c ≠ 0 ∧ 0 ≤ a ∧ a % 32 = 0 ∧ a + wordsI c ≤ W)
/-- What is asked of a stack behind one that ends at e. -/
def oneB (W e : Int) (x : S) : Bool := decide (-1 ≤ x.c ∧ e ≤ x.a) && liesB W x.a x.n
def mayFrom (W : Int) : Int → List S → Bool
  | _, [] => true
  | e, x :: t => oneB W e x && mayFrom W (endI x) t
def wideB (W : Int) : Bool := decide (0 ≤ W ∧ W ≤ 16384)
def mayM (W : Int) (l : List S) : Bool := wideB W && mayFrom W 0 l

structure Lies (W a c : Int) : Prop where
  w0 : 32 ≤ wordsI c
  w1 : wordsI c ≤ 4096
  w2 : wordsI c % 32 = 0
  a0 : 0 ≤ a
  a1 : a % 32 = 0
  fit : a + wordsI c ≤ W
  c0 : 0 ≤ c
  c7 : c ≤ 7
theorem words_ways (c : Int) : ((c < 0 ∨ 7 < c) ∧ wordsI c = 0) ∨ (0 ≤ c ∧ c ≤ 7 ∧ 32 ≤ wordsI c ∧ wordsI c ≤ 4096 ∧ wordsI c % 32 = 0) := by
  rcases cls_ways c with h | h | h | h | h | h | h | h | h
  · exact .inl ⟨h, wordsI_out c h⟩
  all_goals (subst h; exact .inr (by decide))
theorem lies_of {W a c : Int} (h : liesB W a c = true) : Lies W a c := by
  obtain ⟨h0, h1, h2, h3⟩ := of_decide_eq_true h
  rcases words_ways c with ⟨_, q⟩ | ⟨q0, q1, q2, q3, q4⟩
  · exact absurd q h0
  · exact ⟨q2, q3, q4, h1, h2, h3, q0, q1⟩
theorem Lies.yes {W a c : Int} (h : Lies W a c) : liesB W a c = true := decide_eq_true ⟨by have := h.w0; omega, h.a0, h.a1, h.fit⟩
/-- A model that may be. -/
structure Valid (W : Int) (l : List S) : Prop where
  w0 : 0 ≤ W
  w1 : W ≤ 16384
  each : ∀ x ∈ l, Lies W x.a x.n
  own : ∀ x ∈ l, -1 ≤ x.c
  row : l.Pairwise (fun x y => endI x ≤ y.a)
theorem valid_from {W : Int} : ∀ (l : List S) (e : Int), mayFrom W e l = true → (∀ x ∈ l, Lies W x.a x.n) ∧ (∀ x ∈ l, -1 ≤ x.c) ∧ (∀ x ∈ l, e ≤ x.a) ∧ l.Pairwise (fun x y => endI x ≤ y.a)
  | [], _, _ => ⟨fun _ h => by (cases h), fun _ h => by (cases h), fun _ h => by (cases h), .nil⟩
  | x :: t, e, h => by
    obtain ⟨h1, h2⟩ := Bool.and_eq_true_iff.1 h
    obtain ⟨h3, h4⟩ := Bool.and_eq_true_iff.1 h1
    obtain ⟨h5, h6⟩ := of_decide_eq_true h3
    obtain ⟨i1, i2, i3, i4⟩ := valid_from t (endI x) h2
    have L := lies_of h4
    have le : e ≤ endI x := by have := L.w0; unfold endI; omega
    refine ⟨fun y hy => ?_, fun y hy => ?_, fun y hy => ?_, List.pairwise_cons.2 ⟨i3, i4⟩⟩
    all_goals rcases List.mem_cons.1 hy with rfl | hy
    · exact L
    · exact i1 y hy
    · exact h5
    · exact i2 y hy
    · exact h6
    · have := i3 y hy; omega
theorem from_valid {W : Int} : ∀ (l : List S) (e : Int), (∀ x ∈ l, Lies W x.a x.n) → (∀ x ∈ l, -1 ≤ x.c) → (∀ x ∈ l, e ≤ x.a) → l.Pairwise (fun x y => endI x ≤ y.a) → mayFrom W e l = true
  | [], _, _, _, _, _ => rfl
  | x :: t, e, h1, h2, h3, h4 => by
    obtain ⟨h5, h6⟩ := List.pairwise_cons.1 h4
    unfold mayFrom oneB
    rw [decide_eq_true ⟨h2 x (List.mem_cons_self ..), h3 x (List.mem_cons_self ..)⟩, (h1 x (List.mem_cons_self ..)).yes,
      from_valid t (endI x) (fun y hy => h1 y (List.mem_cons_of_mem _ hy)) (fun y hy => h2 y (List.mem_cons_of_mem _ hy)) h5 h6]
    rfl
theorem valid_may {W : Int} {l : List S} : mayM W l = true ↔ Valid W l := by
  constructor
  · intro h
    obtain ⟨h1, h2⟩ := Bool.and_eq_true_iff.1 h
    obtain ⟨h3, h4⟩ := of_decide_eq_true h1
    obtain ⟨i1, i2, _, i4⟩ := valid_from l 0 h2
    exact ⟨h3, h4, i1, i2, i4⟩
  · intro h
    unfold mayM wideB
    rw [decide_eq_true ⟨h.w0, h.w1⟩, from_valid l 0 h.each h.own (fun x hx => (h.each x hx).a0) h.row]
    rfl
theorem Valid.nil {W : Int} (h : 0 ≤ W) (h1 : W ≤ 16384) : Valid W [] := ⟨h, h1, fun _ h => by (cases h), fun _ h => by (cases h), .nil⟩
theorem len_from {W : Int} : ∀ (l : List S) (lo : Int), (∀ x ∈ l, Lies W x.a x.n) → l.Pairwise (fun x y => endI x ≤ y.a) → (∀ x ∈ l, lo ≤ x.a) → lo ≤ W → (l.length : Int) * 32 ≤ W - lo
  | [], lo, _, _, _, h => by simp; omega
  | x :: t, lo, h1, h2, h3, h4 => by
    obtain ⟨h5, h6⟩ := List.pairwise_cons.1 h2
    have o := h1 x (List.mem_cons_self ..)
    have b := h3 x (List.mem_cons_self ..)
    have f := o.fit
    have g := o.w0
    have := len_from t (endI x) (fun y hy => h1 y (List.mem_cons_of_mem _ hy)) h6 h5 (by unfold endI; omega)
    unfold endI at this
    simp only [List.length_cons]
    omega
theorem Valid.len {W : Int} {l : List S} (h : Valid W l) : l.length ≤ 512 := by
  have := len_from l 0 h.each h.row (fun x hx => (h.each x hx).a0) h.w0
  have := h.w1
  omega
theorem Valid.at_ {W : Int} {l : List S} (h : Valid W l) {i : Nat} {x : S} (hx : l[i]? = some x) : Lies W x.a x.n := h.each x (List.mem_of_getElem? hx)
theorem Valid.two {W : Int} {l : List S} (h : Valid W l) {i j : Nat} {x y : S} (hx : l[i]? = some x) (hy : l[j]? = some y) (k : i < j) : endI x ≤ y.a := by
  obtain ⟨hi, rfl⟩ := List.getElem?_eq_some_iff.1 hx
  obtain ⟨hj, rfl⟩ := List.getElem?_eq_some_iff.1 hy
  exact List.pairwise_iff_getElem.1 h.row i j hi hj k
theorem Valid.lt {W : Int} {l : List S} (h : Valid W l) {i j : Nat} {x y : S} (hx : l[i]? = some x) (hy : l[j]? = some y) (k : i < j) : x.a < y.a := by
  have := h.two hx hy k
  have := (h.at_ hx).w0
  unfold endI at *
  omega
theorem Valid.sub {W : Int} {l m : List S} (h : Valid W l) (k : m.Sublist l) : Valid W m := ⟨h.w0, h.w1, fun x hx => h.each x (k.subset hx), fun x hx => h.own x (k.subset hx), h.row.sublist k⟩

/-! ### Places -/
/-- How many begin ahead of an address. -/
def placeL : List S → Int → Nat
  | [], _ => 0
  | y :: t, p => if y.a < p then placeL t p + 1 else 0
theorem place_le (l : List S) (p : Int) : placeL l p ≤ l.length := by
  induction l with
  | nil => exact Nat.le_refl _
  | cons y t ih => unfold placeL; split <;> simp <;> omega
theorem place_lo (l : List S) (p : Int) {i : Nat} {y : S} (h : l[i]? = some y) (k : i < placeL l p) : y.a < p := by
  induction l generalizing i with
  | nil => cases h
  | cons z t ih =>
    unfold placeL at k
    split at k
    · cases i with
      | zero => simp only [List.getElem?_cons_zero, Option.some.injEq] at h; subst h; assumption
      | succ i => exact ih (by simpa using h) (by omega)
    · omega
theorem place_hi (l : List S) (p : Int) {y : S} (h : l[placeL l p]? = some y) : p ≤ y.a := by
  induction l with
  | nil => cases h
  | cons z t ih =>
    unfold placeL at h
    split at h
    · exact ih (by simpa using h)
    · simp only [List.getElem?_cons_zero, Option.some.injEq] at h; subst h; omega
theorem place_eq {l : List S} {p : Int} {i : Nat} (h0 : i ≤ l.length) (h1 : ∀ j y, l[j]? = some y → j < i → y.a < p) (h2 : ∀ y, l[i]? = some y → p ≤ y.a) : placeL l p = i := by
  rcases Nat.lt_trichotomy (placeL l p) i with c | c | c
  · have hl : placeL l p < l.length := by omega
    have e : l[placeL l p]? = some l[placeL l p] := List.getElem?_eq_getElem hl
    have := place_hi l p e
    have := h1 _ _ e c
    omega
  · exact c
  · have hl : i < l.length := by have := place_le l p; omega
    have e : l[i]? = some l[i] := List.getElem?_eq_getElem hl
    have := place_lo l p e c
    have := h2 _ e
    omega
theorem Valid.below {W : Int} {l : List S} (h : Valid W l) {p : Int} {i : Nat} {y : S} (hy : l[i]? = some y) : i < placeL l p ↔ y.a < p := by
  constructor
  · exact place_lo l p hy
  · intro q
    refine Nat.lt_of_not_le fun c => ?_
    have hi := (List.getElem?_eq_some_iff.1 hy).1
    obtain ⟨z, e⟩ : ∃ z, l[placeL l p]? = some z := ⟨_, List.getElem?_eq_getElem (by omega)⟩
    have := place_hi l p e
    by_cases d : placeL l p = i
    · rw [d, hy] at e; obtain rfl := Option.some.inj e; omega
    · have := h.lt e hy (by omega); omega
/-- Whether a stack begins at an address: the one at that place does. -/
def hasB (l : List S) (p : Int) : Bool := match l[placeL l p]? with | some y => decide (y.a = p) | none => false
theorem has_some {l : List S} {p : Int} {y : S} (h : l[placeL l p]? = some y) : hasB l p = decide (y.a = p) := by unfold hasB; rw [h]
theorem has_none {l : List S} {p : Int} (h : l[placeL l p]? = none) : hasB l p = false := by unfold hasB; rw [h]
theorem has_at {l : List S} {p : Int} (h : hasB l p = true) : ∃ y, l[placeL l p]? = some y ∧ y.a = p ∧ placeL l p < l.length := by
  cases e : l[placeL l p]? with
  | none => rw [has_none e] at h; cases h
  | some y => exact ⟨y, rfl, of_decide_eq_true (by rw [← has_some e]; exact h), (List.getElem?_eq_some_iff.1 e).1⟩
theorem Valid.found {W : Int} {l : List S} (h : Valid W l) {p : Int} {i : Nat} {y : S} (hy : l[i]? = some y) (e : y.a = p) : hasB l p = true ∧ placeL l p = i := by
  have q : placeL l p = i := place_eq (Nat.le_of_lt (List.getElem?_eq_some_iff.1 hy).1) (fun j z hz hj => by have := h.lt hz hy hj; omega) (fun z hz => by rw [hy] at hz; obtain rfl := Option.some.inj hz; omega)
  subst e
  exact ⟨by rw [has_some (y := y) (by rw [q]; exact hy)]; exact decide_eq_true rfl, q⟩
theorem Valid.not_found {W : Int} {l : List S} (h : Valid W l) {p : Int} (n : hasB l p = false) {i : Nat} {y : S} (hy : l[i]? = some y) : y.a ≠ p := fun e => by rw [(h.found hy e).1] at n; cases n

/-! ### Alloc -/
def hitB (x : S) (a w : Int) : Bool := decide (x.a < a + w ∧ a < endI x)
def anyB (l : List S) (a w : Int) : Bool := l.any (fun x => hitB x a w)
def newS (n a : Int) : S := ⟨a, classI n, -1⟩
def fitB (W n a : Int) : Bool := classB n && liesB W a (classI n)
def roomB (W : Int) (l : List S) (n a : Int) : Bool := fitB W n a && !anyB l a (wordsI (classI n))
def insL (l : List S) (x : S) : List S := l.take (placeL l x.a) ++ x :: l.drop (placeL l x.a)
def allocL (W : Int) (l : List S) (n a : Int) : List S := if roomB W l n a then insL l (newS n a) else []
def allocW (W : Int) (l : List S) (n a : Int) : Int := if roomB W l n a then W else 0
/-- Of those that are there only the neighbours can have a word in common with another one. -/
theorem Valid.any_at {W : Int} {l : List S} (h : Valid W l) {a w : Int} (hw : 32 ≤ w) : anyB l a w = ((decide (0 < placeL l a) && (match l[placeL l a - 1]? with | some x => hitB x a w | none => false)) || (match l[placeL l a]? with | some x => hitB x a w | none => false)) := by
  cases e : anyB l a w with
  | false =>
    have none_ : ∀ x ∈ l, hitB x a w = false := fun x hx => by
      cases q : hitB x a w with
      | false => rfl
      | true => rw [anyB, List.any_eq_true.2 ⟨x, hx, q⟩] at e; cases e
    have g : ∀ i : Nat, (match l[i]? with | some x => hitB x a w | none => false) = false := fun i => by
      cases q : l[i]? with
      | none => rfl
      | some x => exact none_ x (List.mem_of_getElem? q)
    rw [g, g]
    simp
  | true =>
    obtain ⟨x, hx, q⟩ := List.any_eq_true.1 e
    obtain ⟨i, hi⟩ := List.getElem?_of_mem hx
    obtain ⟨q1, q2⟩ := of_decide_eq_true q
    have il := (List.getElem?_eq_some_iff.1 hi).1
    by_cases c : i < placeL l a
    · obtain ⟨z, e2⟩ : ∃ z, l[placeL l a - 1]? = some z := ⟨_, List.getElem?_eq_getElem (by have := place_le l a; omega)⟩
      have y2 : hitB z a w = true := by
        have lo := place_lo l a e2 (by omega)
        refine decide_eq_true ⟨by omega, ?_⟩
        by_cases d : i = placeL l a - 1
        · rw [← d, hi] at e2; obtain rfl := Option.some.inj e2; exact q2
        · have := h.two hi e2 (by omega)
          have := (h.at_ e2).w0
          unfold endI at *
          omega
      rw [e2]
      simp only [y2]
      simp
      omega
    · obtain ⟨z, e2⟩ : ∃ z, l[placeL l a]? = some z := ⟨_, List.getElem?_eq_getElem (by omega)⟩
      have y2 : hitB z a w = true := by
        have hi2 := place_hi l a e2
        have := (h.at_ e2).w0
        refine decide_eq_true ⟨?_, by unfold endI; omega⟩
        by_cases d : i = placeL l a
        · rw [← d, hi] at e2; obtain rfl := Option.some.inj e2; exact q1
        · have := h.lt e2 hi (by omega)
          omega
      rw [e2]
      simp only [y2]
      simp
theorem room_ok {W : Int} {l : List S} {n a : Int} (h : roomB W l n a = true) : classB n = true ∧ Lies W a (classI n) ∧ anyB l a (wordsI (classI n)) = false := by
  obtain ⟨h1, h2⟩ := Bool.and_eq_true_iff.1 h
  obtain ⟨h3, h4⟩ := Bool.and_eq_true_iff.1 h1
  exact ⟨h3, lies_of h4, by simpa using h2⟩
theorem any_mem {l : List S} {a w : Int} (h : anyB l a w = false) {x : S} (hx : x ∈ l) : a + w ≤ x.a ∨ endI x ≤ a := by
  have q : hitB x a w = false := by
    cases q : hitB x a w with
    | false => rfl
    | true => rw [anyB, List.any_eq_true.2 ⟨x, hx, q⟩] at h; cases h
  have := of_decide_eq_false q
  omega
def roomI (W : Int) (l : List S) (n a : Int) : Int := if roomB W l n a then (placeL l a : Int) else 0
def roomX (W : Int) (l : List S) (n a : Int) : S := if roomB W l n a then newS n a else ⟨0, 0, 0⟩
theorem room_no {W : Int} {l : List S} {n a : Int} (h : roomB W l n a = false) : roomI W l n a = 0 ∧ roomX W l n a = ⟨0, 0, 0⟩ ∧ allocL W l n a = [] ∧ allocW W l n a = 0 := by
  unfold roomI roomX allocL allocW
  simp [h]
theorem room_yes {W : Int} {l : List S} {n a : Int} (h : roomB W l n a = true) : roomI W l n a = (placeL l a : Int) ∧ roomX W l n a = newS n a ∧ allocL W l n a = insL l (newS n a) ∧ allocW W l n a = W := by
  unfold roomI roomX allocL allocW
  simp [h]
theorem room_ways (W : Int) (l : List S) (n a : Int) : (classB n = false ∧ roomB W l n a = false) ∨ (classB n = true ∧ liesB W a (classI n) = false ∧ roomB W l n a = false) ∨ (classB n = true ∧ liesB W a (classI n) = true ∧ roomB W l n a = !anyB l a (wordsI (classI n))) := by
  unfold roomB fitB
  cases classB n with
  | false => exact .inl ⟨rfl, rfl⟩
  | true =>
    cases liesB W a (classI n) with
    | false => exact .inr (.inl ⟨rfl, rfl, rfl⟩)
    | true => exact .inr (.inr ⟨rfl, rfl, by simp⟩)
/-- The neighbours of a place: none below, or one that does or does not have a word in common; so above. -/
theorem Valid.near {W : Int} {l : List S} (h : Valid W l) {a w : Int} (hw : 32 ≤ w) :
    (∃ m x, placeL l a = m + 1 ∧ l[m]? = some x ∧ hitB x a w = true ∧ anyB l a w = true) ∨
    ((placeL l a = 0 ∨ ∃ m x, placeL l a = m + 1 ∧ l[m]? = some x ∧ hitB x a w = false) ∧ ((l[placeL l a]? = none ∧ anyB l a w = false) ∨ ∃ x, l[placeL l a]? = some x ∧ hitB x a w = anyB l a w)) := by
  have e := h.any_at (a := a) hw
  have up : ((placeL l a = 0 ∨ ∃ m x, placeL l a = m + 1 ∧ l[m]? = some x ∧ hitB x a w = false)) → anyB l a w = (match l[placeL l a]? with | some x => hitB x a w | none => false) → ((l[placeL l a]? = none ∧ anyB l a w = false) ∨ ∃ x, l[placeL l a]? = some x ∧ hitB x a w = anyB l a w) := fun _ e => by
    cases q : l[placeL l a]? with
    | none => rw [q] at e; exact .inl ⟨rfl, e⟩
    | some x => rw [q] at e; exact .inr ⟨x, rfl, e.symm⟩
  cases z : placeL l a with
  | zero =>
    rw [z] at e up
    have u := up (.inl rfl) (by simpa using e)
    exact .inr ⟨.inl rfl, u⟩
  | succ m =>
    obtain ⟨x, hx⟩ : ∃ x, l[m]? = some x := ⟨_, List.getElem?_eq_getElem (by have := place_le l a; omega)⟩
    rw [z] at e up
    simp only [Nat.add_sub_cancel, hx] at e
    cases q : hitB x a w with
    | true => exact .inl ⟨m, x, rfl, hx, q, by rw [e, q]; simp⟩
    | false =>
      have o := Or.inr (a := m + 1 = 0) (⟨m, x, rfl, hx, q⟩ : ∃ m' x, m + 1 = m' + 1 ∧ l[m']? = some x ∧ hitB x a w = false)
      exact .inr ⟨o, up o (by rw [e, q]; simp)⟩
theorem Valid.ins {W : Int} {l : List S} {n a : Int} (h : Valid W l) (r : roomB W l n a = true) : Valid W (insL l (newS n a)) := by
  obtain ⟨r1, r2, r3⟩ := room_ok r
  have lo : ∀ x ∈ l.take (placeL l a), endI x ≤ a := fun x hx => by
    obtain ⟨i, hi⟩ := List.getElem?_of_mem hx
    have il := (List.getElem?_eq_some_iff.1 hi).1
    rw [List.length_take] at il
    rw [List.getElem?_take, if_pos (by omega)] at hi
    have := place_lo l a hi (by omega)
    rcases any_mem r3 (List.mem_of_getElem? hi) with q | q
    · have := r2.w0; omega
    · exact q
  have hi : ∀ x ∈ l.drop (placeL l a), a + wordsI (classI n) ≤ x.a := fun x hx => by
    obtain ⟨i, hi⟩ := List.getElem?_of_mem hx
    rw [List.getElem?_drop] at hi
    rcases any_mem r3 (List.mem_of_getElem? hi) with q | q
    · exact q
    · have := (h.at_ hi).w0
      have : ¬ x.a < a := fun c => by have := (h.below (p := a) hi).2 c; omega
      unfold endI at q
      omega
  refine ⟨h.w0, h.w1, fun x hx => ?_, fun x hx => ?_, ?_⟩
  · rcases List.mem_append.1 hx with q | q
    · exact h.each x (List.mem_of_mem_take q)
    · rcases List.mem_cons.1 q with rfl | q
      · exact r2
      · exact h.each x (List.mem_of_mem_drop q)
  · rcases List.mem_append.1 hx with q | q
    · exact h.own x (List.mem_of_mem_take q)
    · rcases List.mem_cons.1 q with rfl | q
      · exact Int.le_refl _
      · exact h.own x (List.mem_of_mem_drop q)
  · refine List.pairwise_append.2 ⟨h.row.sublist (List.take_sublist ..), List.pairwise_cons.2 ⟨hi, h.row.sublist (List.drop_sublist ..)⟩, fun x hx y hy => ?_⟩
    rcases List.mem_cons.1 hy with rfl | hy
    · exact lo x hx
    · have := lo x hx
      have := hi y hy
      have := r2.w0
      omega

/-! ### Free, Find -/
def delL (l : List S) (a : Int) : List S := l.take (placeL l a) ++ l.drop (placeL l a + 1)
def freeL (l : List S) (a : Int) : List S := if hasB l a then delL l a else []
def freeW (W : Int) (l : List S) (a : Int) : Int := if hasB l a then W else 0
def freeC (l : List S) (a : Int) : Int := if hasB l a then 0 else 2
def findS (l : List S) (a : Int) : S := if hasB l a then l.getD (placeL l a) ⟨0, 0, 0⟩ else ⟨0, 0, 0⟩
theorem del_sub (l : List S) (a : Int) : (delL l a).Sublist l := by
  unfold delL
  have h : l = l.take (placeL l a) ++ l.drop (placeL l a) := (List.take_append_drop ..).symm
  have e : (l.drop (placeL l a + 1)).Sublist (l.drop (placeL l a)) := by
    rw [← List.drop_drop]
    exact List.drop_sublist ..
  have := (List.Sublist.refl (l.take (placeL l a))).append e
  rwa [← h] at this
theorem Valid.del {W : Int} {l : List S} (h : Valid W l) (a : Int) : Valid W (delL l a) := h.sub (del_sub l a)

/-! ### Deeds -/
def accB (W : Int) (l : List S) (d : D) : Bool :=
  if d.k = 1 then (if d.c = 0 then roomB W l d.n d.a else if d.c = 3 then classB d.n else if d.c = 1 then !classB d.n else false)
  else if d.k = 2 then (if d.c = 0 then hasB l d.a else if d.c = 2 then !hasB l d.a else false) else false
def accL (W : Int) (l : List S) (d : D) : List S :=
  if d.k = 1 ∧ d.c = 0 ∧ roomB W l d.n d.a = true then insL l (newS d.n d.a)
  else if d.k = 2 ∧ d.c = 0 ∧ hasB l d.a = true then delL l d.a else l
def accM (W : Int) : List S → List D → List S
  | l, [] => l
  | l, d :: t => if accB W l d then accM W (accL W l d) t else l
def accK (W : Int) : List S → List D → Nat
  | _, [] => 0
  | l, d :: t => if accB W l d then accK W (accL W l d) t + 1 else 0
def accF (W : Int) : List S → List D → Bool
  | _, [] => true
  | l, d :: t => if accB W l d then accF W (accL W l d) t else false
theorem Valid.acc {W : Int} {l : List S} (h : Valid W l) (d : D) : Valid W (accL W l d) := by
  unfold accL
  split
  · exact h.ins (by simp_all)
  · split
    · exact h.del _
    · exact h
theorem Valid.accM {W : Int} : ∀ (ds : List D) {l : List S}, Valid W l → Valid W (accM W l ds)
  | [], _, h => h
  | d :: t, l, h => by
    show Valid W (if accB W l d then Lm.accM W (accL W l d) t else l)
    split
    · exact Valid.accM t (h.acc d)
    · exact h
end Go.Proofs.YtcndilpaijapkaaGreat.Lm
/- A slice of live stacks that reads as a list (RsS), a live stack in a block (BxS), a slice of live stacks that is owned whole (OwS). Own work; no program is walked here. -/
namespace Go.Proofs.YtcndilpaijapkaaGreat.Lm
open Go.ChangeShapes Go.WideShapes Go.ChangeAt Go.RowKit
set_option maxRecDepth 100000

abbrev spn (x : S) : Value := .agg #[.int .i64 x.a, .int .i64 x.n, .int .i64 x.c]
/-- The three cells of a span at offset o of block g. -/
def At3 (w : World) (g o : Nat) (x : S) : Prop := w.cell? ⟨g, o, none⟩ = some (.int .i64 x.a) ∧ w.cell? ⟨g, o + 1, none⟩ = some (.int .i64 x.n) ∧ w.cell? ⟨g, o + 2, none⟩ = some (.int .i64 x.c)
/-- The slice at A has n spans, those of l. -/
structure RsS (w : World) (A : Option Addr) (n : Nat) (l : List S) : Prop where
  len : l.length = n
  fit : ∀ x ∈ l, Fit x
  lies : 0 < n → ∃ g o, A = some ⟨g, o, none⟩ ∧ g < w.heap.size ∧ ∀ (i : Nat) (x : S), l[i]? = some x → At3 w g (o + i * 3) x
theorem At3.kept {D : Nat → Prop} {w w' : World} {g o : Nat} {x : S} (h : At3 w g o x) (k : Kept D w w') (hg : g < w.heap.size) (hd : ¬ D g) : At3 w' g o x :=
  ⟨(k.cell (p := ⟨g, o, none⟩) hg hd).trans h.1, (k.cell (p := ⟨g, o + 1, none⟩) hg hd).trans h.2.1, (k.cell (p := ⟨g, o + 2, none⟩) hg hd).trans h.2.2⟩
theorem RsS.kept {D : Nat → Prop} {w w' : World} {A : Option Addr} {n : Nat} {l : List S} (h : RsS w A n l) (k : Kept D w w') (hd : ∀ ad, A = some ad → ¬ D ad.block) : RsS w' A n l :=
  ⟨h.len, h.fit, fun hn => by
    obtain ⟨g, o, rfl, hg, c⟩ := h.lies hn
    have hd' : ¬ D g := hd _ rfl
    exact ⟨g, o, rfl, Nat.lt_of_lt_of_le hg k.size, fun i x hx => (c i x hx).kept k hg hd'⟩⟩
theorem RsS.old {w w' : World} {A : Option Addr} {n : Nat} {l : List S} (h : RsS w A n l) (k : Kept Old w w') : RsS w' A n l := h.kept k fun _ _ x => x
theorem RsS.nil (w : World) (A : Option Addr) : RsS w A 0 [] := ⟨rfl, fun _ h => (by cases h), fun h => absurd h (Nat.lt_irrefl 0)⟩
theorem RsS.get {w : World} {A : Option Addr} {n : Nat} {l : List S} (h : RsS w A n l) {k : Nat} (hk : k < n) : ∃ (g o : Nat) (x : S), A = some ⟨g, o, none⟩ ∧ g < w.heap.size ∧ l[k]? = some x ∧ Fit x ∧ w.cell? ⟨g, o + k * 3, none⟩ = some (.int .i64 x.a) ∧ w.cell? ⟨g, o + k * 3 + 1, none⟩ = some (.int .i64 x.n) ∧ w.cell? ⟨g, o + k * 3 + 2, none⟩ = some (.int .i64 x.c) := by
  obtain ⟨g, o, rfl, hg, c⟩ := h.lies (by omega)
  have hl : k < l.length := by have := h.len; omega
  have e : l[k]? = some l[k] := List.getElem?_eq_getElem hl
  have f := h.fit _ (List.getElem_mem hl)
  exact ⟨g, o, l[k], rfl, hg, e, f, (c k _ e).1, (c k _ e).2.1, (c k _ e).2.2⟩
theorem getS_len {w : World} {A : Option Addr} {n : Nat} {l : List S} (h : RsS w A n l) {k : Nat} {x : S} (hx : l[k]? = some x) : k < n := by
  have := (List.getElem?_eq_some_iff.1 hx).1
  have := h.len
  omega

/-! ### A span in a block -/
def BxS (w : World) (b : Nat) (x : S) : Prop := Blk w b 52 [.int .i64 x.a, .int .i64 x.n, .int .i64 x.c]
theorem BxS.c0 {w : World} {b : Nat} {x : S} (h : BxS w b x) : w.cell? ⟨b, 0, none⟩ = some (.int .i64 x.a) := Blk.cell h 0
theorem BxS.c1 {w : World} {b : Nat} {x : S} (h : BxS w b x) : w.cell? ⟨b, 1, none⟩ = some (.int .i64 x.n) := Blk.cell h 1
theorem BxS.c2 {w : World} {b : Nat} {x : S} (h : BxS w b x) : w.cell? ⟨b, 2, none⟩ = some (.int .i64 x.c) := Blk.cell h 2
theorem BxS.new (w : World) (x : S) : BxS (w.alloc (.cells #[.int .i64 x.a, .int .i64 x.n, .int .i64 x.c] 52)) w.heap.size x := Blk.new w _ _
theorem BxS.kept {D : Nat → Prop} {w w' : World} {b : Nat} {x : S} (h : BxS w b x) (k : Kept D w w') (hd : ¬ D b) : BxS w' b x := Blk.kept h k hd
theorem BxS.old {w w' : World} {b : Nat} {x : S} (h : BxS w b x) (k : Kept Old w w') : BxS w' b x := Blk.kept h k (fun x => x)
theorem BxS.alloc {w : World} {b : Nat} {x : S} (h : BxS w b x) (o : Obj) : BxS (w.alloc o) b x := Blk.alloc h o

/-! ### A slice that is owned -/
/-- Spans as cells. -/
def CS : List S → List Value
  | [] => []
  | x :: t => .int .i64 x.a :: .int .i64 x.n :: .int .i64 x.c :: CS t
theorem CS_length (l : List S) : (CS l).length = l.length * 3 := by
  induction l with
  | nil => rfl
  | cons x t ih => simp only [CS, List.length_cons, ih]; omega
theorem CS_append (a b : List S) : CS (a ++ b) = CS a ++ CS b := by
  induction a with
  | nil => rfl
  | cons x t ih => simp only [List.cons_append, CS, ih]
theorem CS_one (l : List S) : ∀ u ∈ CS l, u.oneCell' = true := by
  induction l with
  | nil => intro u hu; cases hu
  | cons x t ih =>
    intro u hu
    simp only [CS, List.mem_cons] at hu
    rcases hu with rfl | rfl | rfl | hu
    · rfl
    · rfl
    · rfl
    · exact ih u hu
theorem C_take (l : List S) (i : Nat) : CS (l.take i) = (CS l).take (i * 3) := by
  induction l generalizing i with
  | nil => simp [CS]
  | cons x t ih =>
    cases i with
    | zero => simp [CS]
    | succ i => rw [show (i + 1) * 3 = i * 3 + 3 by omega]; simp [CS, ih]
theorem C_drop (l : List S) (i : Nat) : CS (l.drop i) = (CS l).drop (i * 3) := by
  induction l generalizing i with
  | nil => simp [CS]
  | cons x t ih =>
    cases i with
    | zero => simp [CS]
    | succ i => rw [show (i + 1) * 3 = i * 3 + 3 by omega]; simp [CS, ih]
theorem CS_get (l : List S) (i : Nat) (x : S) (h : l[i]? = some x) : (CS l)[i * 3]? = some (.int .i64 x.a) ∧ (CS l)[i * 3 + 1]? = some (.int .i64 x.n) ∧ (CS l)[i * 3 + 2]? = some (.int .i64 x.c) := by
  induction l generalizing i with
  | nil => cases h
  | cons y t ih =>
    cases i with
    | zero => simp only [List.getElem?_cons_zero, Option.some.injEq] at h; subst h; exact ⟨rfl, rfl, rfl⟩
    | succ i =>
      have := ih i (by simpa using h)
      rw [show (i + 1) * 3 = i * 3 + 1 + 1 + 1 by omega]
      simpa [CS] using this
theorem CS_at (l : List S) (j : Nat) (u : Value) (h : (CS l)[j]? = some u) : ∃ i x, l[i]? = some x ∧ ((j = i * 3 ∧ u = .int .i64 x.a) ∨ (j = i * 3 + 1 ∧ u = .int .i64 x.n) ∨ (j = i * 3 + 2 ∧ u = .int .i64 x.c)) := by
  have hj : j < (CS l).length := (List.getElem?_eq_some_iff.1 h).1
  rw [CS_length] at hj
  have hi : j / 3 < l.length := by omega
  have e : l[j / 3]? = some l[j / 3] := List.getElem?_eq_getElem hi
  have g := CS_get l (j / 3) _ e
  refine ⟨j / 3, _, e, ?_⟩
  rcases (show j = j / 3 * 3 ∨ j = j / 3 * 3 + 1 ∨ j = j / 3 * 3 + 2 by omega) with m | m | m
  · refine .inl ⟨m, ?_⟩
    rw [← m] at g
    rw [g.1] at h
    exact (Option.some.inj h).symm
  · refine .inr (.inl ⟨m, ?_⟩)
    have q := g.2.1
    rw [← m] at q
    rw [q] at h
    exact (Option.some.inj h).symm
  · refine .inr (.inr ⟨m, ?_⟩)
    have q := g.2.2
    rw [← m] at q
    rw [q] at h
    exact (Option.some.inj h).symm
/-- The slice value v is n spans, those of l, in blocks from B on (or nil). -/
structure OwS (w : World) (B : Nat) (v : Value) (n : Nat) (l : List S) : Prop where
  row : w.ownsRow B 52 3 v n (CS l)
  fit : ∀ x ∈ l, Fit x
theorem OwS.len {w : World} {B : Nat} {v : Value} {n : Nat} {l : List S} (h : OwS w B v n l) : l.length = n := by
  have := h.row.1
  rw [CS_length] at this
  omega
theorem OwS.rs {w : World} {B : Nat} {v : Value} {n : Nat} {l : List S} (h : OwS w B v n l) : ∃ A c, v = .slice A n c ∧ RsS w A n l ∧ n ≤ c ∧ (A = none → c = 0) := by
  have hlen := h.len
  rcases h.row.2 with ⟨rfl, rfl⟩ | ⟨g, cap, cur, rfl, hb, hg, hn, hm, hs, ht⟩
  · obtain rfl : l = [] := List.eq_nil_of_length_eq_zero hlen
    exact ⟨none, 0, rfl, RsS.nil _ _, Nat.le_refl _, fun _ => rfl⟩
  · refine ⟨_, cap, rfl, ⟨hlen, h.fit, fun _ => ⟨g, 0, rfl, (Array.getElem?_eq_some_iff.1 hg).1, fun i x hx => ?_⟩⟩, hn, fun h => by cases h⟩
    have hi := (List.getElem?_eq_some_iff.1 hx).1
    have gx := CS_get l i x hx
    rw [← ht, List.getElem?_take, List.getElem?_take, List.getElem?_take, if_pos (by omega), if_pos (by omega), if_pos (by omega)] at gx
    unfold At3
    rw [Nat.zero_add, cell_of_row w g _ cur 52 (0, 0) hg, cell_of_row w g _ cur 52 (0, 0) hg, cell_of_row w g _ cur 52 (0, 0) hg]
    simpa using gx
theorem OwS.kept {D : Nat → Prop} {w w' : World} {B : Nat} {v : Value} {n : Nat} {l : List S} (h : OwS w B v n l) (k : Kept D w w') (hd : ∀ g, v.ownBlock = some g → ¬ D g) : OwS w' B v n l := by
  refine ⟨⟨h.row.1, ?_⟩, h.fit⟩
  rcases h.row.2 with hn | ⟨g, cap, cur, rfl, hb, hg, rest⟩
  · exact .inl hn
  · refine .inr ⟨g, cap, cur, rfl, hb, ?_, rest⟩
    rw [k.block g (Array.getElem?_eq_some_iff.1 hg).1 (hd g rfl)]
    exact hg
theorem OwS.old {w w' : World} {B : Nat} {v : Value} {n : Nat} {l : List S} (h : OwS w B v n l) (k : Kept Old w w') : OwS w' B v n l := h.kept k (fun _ _ x => x)
theorem OwS.alloc {w : World} {B : Nat} {v : Value} {n : Nat} {l : List S} (h : OwS w B v n l) (o : Obj) : OwS (w.alloc o) B v n l := ⟨h.row.alloc o, h.fit⟩
theorem OwS.nil (w : World) (B : Nat) : OwS w B (.slice none 0 0) 0 [] := ⟨World.ownsRow_nil _ _ _ _, fun _ h => by cases h⟩
theorem OwS.made (w : World) (B cap : Nat) (cur : Array Value) (hb : B ≤ w.heap.size) (hm : cap ≤ maxLen) (hs : cur.size = cap * 3) : OwS (w.alloc (.cells cur 52)) B (.slice (some ⟨w.heap.size, 0, none⟩) 0 cap) 0 [] :=
  ⟨World.ownsRow_made w cur cap hb hm hs, fun _ h => by cases h⟩
theorem Tryz.spanInfo : (Tryz.prog.info? 52).map (fun i => (i.zero, i.size, i.bytes)) = some (some (.agg #[.int .i64 0, .int .i64 0, .int .i64 0]), 3, 24) := by kernel_rfl
theorem RsS.cells {w : World} {ad : Addr} {n : Nat} {l : List S} (h : RsS w (some ad) n l) : ∀ j u, (CS l)[j]? = some u → w.cell? (ad.add j) = some u := by
  intro j u hu
  obtain ⟨i, x, hx, hju⟩ := CS_at l j u hu
  obtain ⟨g, o, e, _, c⟩ := h.lies (Nat.lt_of_le_of_lt (Nat.zero_le _) (getS_len h hx))
  injection e with e
  subst e
  rw [addr_add]
  rcases hju with ⟨rfl, rfl⟩ | ⟨rfl, rfl⟩ | ⟨rfl, rfl⟩
  · exact (c i x hx).1
  · exact (c i x hx).2.1
  · exact (c i x hx).2.2
/-- append of the spans at A. -/
theorem appS_own (w : World) (B : Nat) (v : Value) (n : Nat) (l : List S) (h : OwS w B v n l) (A : Option Addr) (m c : Nat) (news : List S) (hr : RsS w A m news) (hA : A = none → m = 0 ∧ c = 0) (hn : n ≤ 1000) (hm : m ≤ 1000) (hb : B ≤ w.heap.size) :
    ∃ v' w', (Builtin.append_ #[47, 47] 47 #[v, .slice A m c]).run Tryz.prog w = .ok v' w' ∧ OwS w' B v' (n + m) (l ++ news) ∧ Kept (fun k => some k = v.ownBlock) w w' ∧ (v'.ownBlock = v.ownBlock ∨ v'.ownBlock = some w.heap.size) := by
  obtain ⟨i0, hi, hz0, hz1, hz2⟩ := info_parts Tryz.spanInfo
  cases A with
  | none =>
    obtain ⟨rfl, rfl⟩ := hA rfl
    obtain rfl : news = [] := List.eq_nil_of_length_eq_zero hr.len
    exact ⟨v, w, run_append_owned_none (P := Tryz.prog) (w := w) B 47 47 52 i0 3 Tryz.underlying47 hi v n (CS l) h.row, by simpa using h, Kept.refl _ _, .inl rfl⟩
  | some ad =>
    obtain ⟨v', w', hrun, ho, hg, _, hat⟩ := run_append_own_at (P := Tryz.prog) w B 47 47 52 i0 _ 3 24 Tryz.underlying47 hi hz0 hz1 hz2 rfl (by omega) v n (CS l) h.row ad m c (CS news) (by rw [CS_length, hr.len]) hr.cells (CS_one news) (by simp only [maxLen]; omega) (by omega) hb
    rw [← CS_append] at ho
    exact ⟨v', w', hrun, ⟨ho, fun x hx => (List.mem_append.1 hx).elim (h.fit x) (hr.fit x)⟩, Kept.grown (Kept.refl _ _) hg (fun g e _ => e.symm), hat⟩
theorem OwS.own {w : World} {B : Nat} {v : Value} {n : Nat} {l : List S} (h : OwS w B v n l) : ∀ k, some k = v.ownBlock → B ≤ k ∧ k < w.heap.size := fun k hk => h.row.lt k hk.symm
/-- The run stated at the operation. -/
theorem appS_wp {ops : Array Oper} {rest : List Oper} {o : Oper} {a : Act} {Q : Exit → Act → World → Prop} {w : World} (hgd : o.guard = none) (s x : Operand)
    (ho : o.op = .call { callee := .builtin .append, args := #[s, x], argTypes := #[47, 47] }) (hty : o.type = 47)
    (B : Nat) (v : Value) (n : Nat) (l : List S) (hs : a.eval s = v) (h : OwS w B v n l) (A : Option Addr) (m c : Nat) (news : List S) (hx : a.eval x = .slice A m c) (hr : RsS w A m news) (hA : A = none → m = 0 ∧ c = 0) (hn : n ≤ 1000) (hm : m ≤ 1000) (hb : B ≤ w.heap.size) (N : Nat) (hN : n + m = N) (L : List S) (hL : l ++ news = L)
    (go : ∀ v' w', Hid (OwS w' B v' N L) → Hid (Kept (fun k => some k = v.ownBlock) w w') → Hid (v'.ownBlock = v.ownBlock ∨ v'.ownBlock = some w.heap.size) → wpList Tryz.prog ops Q rest (a.put o.dst v') w') : wpList Tryz.prog ops Q (o :: rest) a w := by
  subst hN
  subst hL
  refine wpList_plain hgd fun K hK => ?_
  obtain ⟨v', w', hrun, h2, h3, h4⟩ := appS_own w B v n l h A m c news hr hA hn hm hb
  unfold Oper.wp execOp
  simp only [ho, hty, resolve, invoke, builtin, Sem.run_bind, Sem.run_pure, Result.andThen_ok, List.map_toArray, List.map_cons, List.map_nil, hs, hx, hrun]
  exact hK _ _ (go v' w' h2 h3 h4)
theorem appS_step {ops : Array Oper} {o : Oper} {a : Act} {K : Act → World → Prop} {Q : Exit → Act → World → Prop} {E : Prop} {w : World} (hgd : o.guard = none) (s x : Operand)
    (ho : o.op = .call { callee := .builtin .append, args := #[s, x], argTypes := #[47, 47] }) (hty : o.type = 47)
    (B : Nat) (v : Value) (n : Nat) (l : List S) (hs : a.eval s = v) (h : OwS w B v n l) (A : Option Addr) (m c : Nat) (news : List S) (hx : a.eval x = .slice A m c) (hr : RsS w A m news) (hA : A = none → m = 0 ∧ c = 0) (hn : n ≤ 1000) (hm : m ≤ 1000) (hb : B ≤ w.heap.size) (N : Nat) (hN : n + m = N) (L : List S) (hL : l ++ news = L)
    (go : ∀ v' w', Hid (OwS w' B v' N L) → Hid (Kept (fun k => some k = v.ownBlock) w w') → Hid (v'.ownBlock = v.ownBlock ∨ v'.ownBlock = some w.heap.size) → K (a.put o.dst v') w') :
    if Region.wanted o (yielded ops a.tmps) = true then Oper.wp Tryz.prog o a w K Q else E := by
  subst hN
  subst hL
  have hw : Region.wanted o (yielded ops a.tmps) = true := by simp [Region.wanted, hgd]
  rw [if_pos hw]
  obtain ⟨v', w', hrun, h2, h3, h4⟩ := appS_own w B v n l h A m c news hr hA hn hm hb
  unfold Oper.wp execOp
  simp only [ho, hty, resolve, invoke, builtin, Sem.run_bind, Sem.run_pure, Result.andThen_ok, List.map_toArray, List.map_cons, List.map_nil, hs, hx, hrun]
  exact go v' w' h2 h3 h4
/-! ### Cuts and makes -/
theorem RsS.take {w : World} {A : Option Addr} {n : Nat} {l : List S} (h : RsS w A n l) {i : Nat} (hi : i ≤ n) : RsS w A i (l.take i) :=
  ⟨by have := h.len; simp; omega, fun x hx => h.fit x (List.mem_of_mem_take hx), fun h0 => by
    obtain ⟨g, o, e, hg, c⟩ := h.lies (by omega)
    refine ⟨g, o, e, hg, fun j x hx => c j x ?_⟩
    have := (List.getElem?_eq_some_iff.1 hx).1
    rw [List.length_take] at this
    rw [List.getElem?_take, if_pos (by omega)] at hx
    exact hx⟩
theorem RsS.drop {w : World} {g o n : Nat} {l : List S} (h : RsS w (some ⟨g, o, none⟩) n l) {i : Nat} (A : Option Addr) (hA : i < n → A = some ⟨g, o + i * 3, none⟩) : RsS w A (n - i) (l.drop i) :=
  ⟨by have := h.len; simp; omega, fun x hx => h.fit x (List.mem_of_mem_drop hx), fun h0 => by
    obtain ⟨g', o', e, hg, c⟩ := h.lies (by omega)
    injection e with e
    injection e with e1 e2
    subst e1
    subst e2
    refine ⟨g, o + i * 3, hA (by omega), hg, fun j x hx => ?_⟩
    rw [List.getElem?_drop] at hx
    have := c (i + j) x hx
    rw [show o + i * 3 + j * 3 = o + (i + j) * 3 by omega]
    exact this⟩
theorem OwS.drew {w : World} {B : Nat} {v : Value} {n : Nat} {l : List S} (h : OwS w B v n l) : OwS w.drew B v n l := ⟨h.row, h.fit⟩
theorem RsS.drew {w : World} {A : Option Addr} {n : Nat} {l : List S} (h : RsS w A n l) : RsS w.drew A n l := ⟨h.len, h.fit, h.lies⟩
theorem RsS.alloc {w : World} {A : Option Addr} {n : Nat} {l : List S} (h : RsS w A n l) (o : Obj) : RsS (w.alloc o) A n l := h.old ((Kept.refl _ _).alloc o)
/-- Behind an append all that was there ahead of the call is as it was. -/
theorem OwS.step {w0 w w' : World} {v : Value} {n : Nat} {l : List S} (h : OwS w w0.heap.size v n l) (K : Kept Old w0 w) (k : Kept (fun k => some k = v.ownBlock) w w') : Kept Old w0 w' :=
  K.join k fun i hi e => by have := (h.own i e).1; omega
theorem RsS.one (w : World) (x : S) (h : Fit x) (s : Nat) (hs : w.heap.size = s) : RsS (w.alloc (.cells #[.int .i64 x.a, .int .i64 x.n, .int .i64 x.c] 52)) (some ⟨s, 0, none⟩) 1 [x] := by
  subst hs
  exact
  ⟨rfl, fun y hy => by obtain rfl := List.mem_singleton.1 hy; exact h, fun _ => ⟨w.heap.size, 0, rfl, Blk.lt (BxS.new w x), fun i y hy => by
    have hi := (List.getElem?_eq_some_iff.1 hy).1
    obtain rfl : i = 0 := by simpa using hi
    simp only [List.getElem?_cons_zero, Option.some.injEq] at hy
    subst hy
    exact ⟨(BxS.new w x).c0, (BxS.new w x).c1, (BxS.new w x).c2⟩⟩⟩
/-- What a call that makes a list answers: the list's stacks, new memory. -/
def MadeS (L : List S) (w : World) (v : Value) (w' : World) : Prop := ∃ A n c, v = .slice A n c ∧ RsS w' A n L ∧ n ≤ c ∧ ((A = none → c = 0) ∧ ∀ ad, A = some ad → w.heap.size ≤ ad.block) ∧ Kept Old w w'
theorem madeS_end {L : List S} {w w' : World} {B n : Nat} {v : Value} (h : OwS w' B v n L) (K : Kept Old w w') (hB : w.heap.size ≤ B := by first | exact Nat.le_refl _ | omega) : MadeS L w v w' := by
  obtain ⟨A, c, rfl, r, h1, h2⟩ := h.rs
  refine ⟨A, n, c, rfl, r, h1, ⟨h2, fun ad e => ?_⟩, K⟩
  rcases h.row.2 with ⟨e', _⟩ | ⟨g, cap, cur, e', hb, _⟩
  · injection e' with e1
    rw [e] at e1
    cases e1
  · injection e' with e1
    rw [e] at e1
    injection e1 with e1
    subst e1
    exact Nat.le_trans hB hb
theorem MadeS.drew {L : List S} {w w' : World} {v : Value} (h : MadeS L w v w') : MadeS L w v w'.drew := by
  obtain ⟨A, n, c, h1, r, h2, h3, K⟩ := h
  exact ⟨A, n, c, h1, r.drew, h2, h3, K.drew⟩
theorem MadeS.kept {L : List S} {w w' : World} {v : Value} (h : MadeS L w v w') : Kept Old w w' := by
  obtain ⟨_, _, _, _, _, _, _, K⟩ := h
  exact K
theorem MadeS.form {L : List S} {w w' : World} {v : Value} (h : MadeS L w v w') : ∃ A n c, v = .slice A n c := by
  obtain ⟨A, n, c, h1, _⟩ := h
  exact ⟨A, n, c, h1⟩
theorem MadeS.from {L : List S} {w w1 w2 : World} {v : Value} (h : MadeS L w1 v w2) (k : Kept Old w w1) : MadeS L w v w2 := by
  obtain ⟨A, n, c, h1, r, h2, h3, K⟩ := h
  exact ⟨A, n, c, h1, r, h2, ⟨h3.1, fun ad e => Nat.le_trans k.size (h3.2 ad e)⟩, k.trans K⟩
theorem MadeS.old {L : List S} {w w1 w2 : World} {v : Value} (h : MadeS L w v w1) (k : Kept Old w1 w2) : MadeS L w v w2 := by
  obtain ⟨A, n, c, h1, r, h2, h3, K⟩ := h
  exact ⟨A, n, c, h1, r.old k, h2, h3, K.trans k⟩
theorem MadeS.of_nil {w w' : World} (k : Kept Old w w') : MadeS [] w (.slice none 0 0) w' := ⟨none, 0, 0, rfl, RsS.nil _ _, Nat.le_refl _, ⟨fun _ => rfl, fun _ h => by cases h⟩, k⟩
theorem emptyS (V : World) : OwS (V.alloc (.cells #[] 52)) V.heap.size (.slice (some ⟨V.heap.size, 0, none⟩) 0 0) 0 [] := OwS.made V V.heap.size 0 #[] (Nat.le_refl _) (Nat.zero_le _) rfl
/-- A make of a slice with room for n. -/
theorem make_lives (w : World) (B n : Nat) (hn : n ≤ 1000) (hb : B ≤ w.heap.size) :
    ∃ w', (Instr.makeSlice 47 (.int .i64 0) (.int .i64 (n : Int))).run Tryz.prog w = .ok (.slice (some ⟨w.heap.size, 0, none⟩) 0 n) w' ∧ OwS w' B (.slice (some ⟨w.heap.size, 0, none⟩) 0 n) 0 [] ∧ Kept Old w w' := by
  obtain ⟨i0, hi, hz0, hz1, hz2⟩ := info_parts Tryz.spanInfo
  obtain ⟨w', hrun, r1, r2⟩ := run_make_own (P := Tryz.prog) w B 47 52 i0 _ 3 Tryz.underlying47 hi hz0 hz1 .i64 .i64 n (by rw [hz2]; omega) (by simp only [maxLen]; omega) hb
  exact ⟨w', hrun, ⟨r1, fun _ h => by cases h⟩, Kept.grown (Kept.refl _ _) r2 (fun g e _ => by cases e)⟩
theorem make_wpS {ops : Array Oper} {rest : List Oper} {o : Oper} {a : Act} {Q : Exit → Act → World → Prop} {w : World} (hg : o.guard = none) (lo hi : Operand) (hop : o.op = Op.makeSlice 47 lo hi) (B n : Nat) (X : Int) (hl : a.eval lo = .int .i64 0) (hc : a.eval hi = .int .i64 X) (hX : X = (n : Int)) (hn : n ≤ 1000) (hb : B ≤ w.heap.size)
    (go : ∀ w', Hid (OwS w' B (.slice (some ⟨w.heap.size, 0, none⟩) 0 n) 0 []) → Hid (Kept Old w w') → wpList Tryz.prog ops Q rest (a.put o.dst (.slice (some ⟨w.heap.size, 0, none⟩) 0 n)) w') : wpList Tryz.prog ops Q (o :: rest) a w := by
  subst hX
  refine wpList_plain hg fun K hK => ?_
  obtain ⟨w', hrun, r1, r2⟩ := make_lives w B n hn hb
  unfold Oper.wp
  simp [execOp, hop, hl, hc, hrun, Result.andThen]
  exact hK _ _ (go w' r1 r2)
end Go.Proofs.YtcndilpaijapkaaGreat.Lm
/- The builtins copy, clear and append-of-a-make at slices of spans, by blocks that are known whole. Own work; no program is walked here. -/
namespace Go.Proofs.YtcndilpaijapkaaGreat.Lm
open Go.ChangeShapes Go.WideShapes Go.ChangeAt Go.RowKit

theorem Tryz.size3 : (Tryz.prog.info? 52).map (·.size) = some 3 := by kernel_rfl
/-- The builtin copy of k spans onto a block. -/
theorem copy_own (w : World) {g : Nat} {cur cs : List Value} (o k : Nat) (T : TypeId) (h : Blk w g T cur) (dc sc dl sl : Nat) (ad : Addr) (hk : Nat.min sl dl = k) (hn : cs.length = k * 3) (hfit : o + cs.length ≤ cur.length) (h1 : ∀ u ∈ cs, u.oneCell' = true)
    (hs : ∀ j v, cs[j]? = some v → w.cell? (ad.add j) = some v) :
    ∃ w', (Builtin.copy_ #[47, 47] 3 #[.slice (some ⟨g, o, none⟩) dl dc, .slice (some ad) sl sc]).run Tryz.prog w = .ok (.int .i64 (k : Int)) w' ∧ Blk w' g T (over cur o cs) ∧ Kept (Only g) w w' := by
  have hl := run_loadCells_list (P := Tryz.prog) w ad cs hs
  have hst := run_storeCells_cells (P := Tryz.prog) g o cs 0 w (by simpa using fun j hj => h.mem (by omega)) (by simpa using fun j _ => h.frozen (o + j)) h1
  refine ⟨w.setCells g o cs, ?_, Blk.cells cs cur o w h hfit, kept_cells _ _ _ _⟩
  have hq := Tryz.size3
  cases hi : Tryz.prog.info? 52 with
  | none => simp [hi] at hq
  | some i =>
    have hz : i.size = 3 := by simpa [hi] using hq
    simp [Builtin.copy_, run_underlying Tryz.underlying47, Builtin.lenOf, Builtin.firstCells, sizeOf, typeInfo, hi, hz, hk, ← hn, hl, hst, goInt]
theorem copy_own0 (w : World) (dc sc : Nat) (da sa : Option Addr) (sl dl : Nat) (hn : Nat.min sl dl = 0) :
    (Builtin.copy_ #[47, 47] 3 #[.slice da dl dc, .slice sa sl sc]).run Tryz.prog w = .ok (.int .i64 0) w := by
  have hq := Tryz.size3
  cases hi : Tryz.prog.info? 52 with
  | none => simp [hi] at hq
  | some i =>
    have hl : ∀ (x : Addr), (loadCells x 0).run Tryz.prog w = .ok #[] w := fun x => by simpa using run_loadCells_list (P := Tryz.prog) w x [] (by simp)
    cases da <;> cases sa <;> simp [Builtin.copy_, run_underlying Tryz.underlying47, Builtin.lenOf, Builtin.firstCells, sizeOf, typeInfo, hi, hn, storeCells, hl, goInt]
theorem cp_wp {ops : Array Oper} {rest : List Oper} {o : Oper} {a : Act} {Q : Exit → Act → World → Prop} {w : World} (hgd : o.guard = none) (s x : Operand)
    (ho : o.op = .call { callee := .builtin .copy, args := #[s, x], argTypes := #[47, 47] }) (hty : o.type = 3)
    {g : Nat} {cur cs : List Value} (of k : Nat) (T : TypeId) (h : Blk w g T cur) (dc sc dl sl : Nat) (ad : Addr) (hs : a.eval s = .slice (some ⟨g, of, none⟩) dl dc) (hx : a.eval x = .slice (some ad) sl sc)
    (hk : Nat.min sl dl = k) (hn : cs.length = k * 3) (hfit : of + cs.length ≤ cur.length) (h1 : ∀ u ∈ cs, u.oneCell' = true) (hr : ∀ j v, cs[j]? = some v → w.cell? (ad.add j) = some v)
    (go : ∀ w', Hid (Blk w' g T (over cur of cs)) → Hid (Kept (Only g) w w') → wpList Tryz.prog ops Q rest (a.put o.dst (.int .i64 (k : Int))) w') : wpList Tryz.prog ops Q (o :: rest) a w := by
  refine wpList_plain hgd fun K hK => ?_
  obtain ⟨w', hrun, h2, h3⟩ := copy_own w of k T h dc sc dl sl ad hk hn hfit h1 hr
  unfold Oper.wp execOp
  simp only [ho, hty, resolve, invoke, builtin, Sem.run_bind, Sem.run_pure, Result.andThen_ok, List.map_toArray, List.map_cons, List.map_nil, hs, hx, hrun]
  exact hK _ _ (go w' h2 h3)
theorem cp_step {ops : Array Oper} {o : Oper} {a : Act} {K : Act → World → Prop} {Q : Exit → Act → World → Prop} {E : Prop} {w : World} (hgd : o.guard = none) (s x : Operand)
    (ho : o.op = .call { callee := .builtin .copy, args := #[s, x], argTypes := #[47, 47] }) (hty : o.type = 3)
    {g : Nat} {cur cs : List Value} (of k : Nat) (T : TypeId) (h : Blk w g T cur) (dc sc dl sl : Nat) (ad : Addr) (hs : a.eval s = .slice (some ⟨g, of, none⟩) dl dc) (hx : a.eval x = .slice (some ad) sl sc)
    (hk : Nat.min sl dl = k) (hn : cs.length = k * 3) (hfit : of + cs.length ≤ cur.length) (h1 : ∀ u ∈ cs, u.oneCell' = true) (hr : ∀ j v, cs[j]? = some v → w.cell? (ad.add j) = some v)
    (go : ∀ w', Hid (Blk w' g T (over cur of cs)) → Hid (Kept (Only g) w w') → K (a.put o.dst (.int .i64 (k : Int))) w') :
    if Region.wanted o (yielded ops a.tmps) = true then Oper.wp Tryz.prog o a w K Q else E := by
  have hw : Region.wanted o (yielded ops a.tmps) = true := by simp [Region.wanted, hgd]
  rw [if_pos hw]
  obtain ⟨w', hrun, h2, h3⟩ := copy_own w of k T h dc sc dl sl ad hk hn hfit h1 hr
  unfold Oper.wp execOp
  simp only [ho, hty, resolve, invoke, builtin, Sem.run_bind, Sem.run_pure, Result.andThen_ok, List.map_toArray, List.map_cons, List.map_nil, hs, hx, hrun]
  exact go w' h2 h3
/-- The builtin clear of one span. -/
theorem clear_own (w : World) {g : Nat} {cur : List Value} (o dc : Nat) (T : TypeId) (h : Blk w g T cur) (hfit : o + 3 ≤ cur.length) (ty : TypeId) :
    ∃ w', (Builtin.clear_ #[47] ty #[.slice (some ⟨g, o, none⟩) 1 dc]).run Tryz.prog w = .ok (.tuple #[]) w' ∧ Blk w' g T (over cur o (CS [⟨0, 0, 0⟩])) ∧ Kept (Only g) w w' := by
  have hst := run_storeCells_cells (P := Tryz.prog) g o (CS [⟨0, 0, 0⟩]) 0 w (by simpa [CS] using fun j hj => h.mem (by omega)) (by simpa using fun j _ => h.frozen (o + j)) (CS_one _)
  refine ⟨w.setCells g o (CS [⟨0, 0, 0⟩]), ?_, Blk.cells _ cur o w h (by simpa [CS] using hfit), kept_cells _ _ _ _⟩
  obtain ⟨i0, hi, hz0, hz1, hz2⟩ := info_parts Tryz.spanInfo
  have hzc : (Builtin.zeroCells (Value.agg #[.int .i64 0, .int .i64 0, .int .i64 0]).cells 1).toList = CS [⟨0, 0, 0⟩] := by kernel_rfl
  simp only [Nat.add_zero] at hst
  simp [Builtin.clear_, run_underlying Tryz.underlying47, zeroValue, typeInfo, hi, hz0, hzc, hst]
/-- append of a make of k spans where there is no room. -/
theorem zeros_own (w : World) (g i c k : Nat) (cs : List Value) (hcs : cs.length = i * 3) (hold : ∀ j v, cs[j]? = some v → w.cell? ⟨g, j, none⟩ = some v) (hk : 0 < k) (hc : c < i + k) (hb : i + k ≤ 3000) :
    ∃ G rest w', (Builtin.append_ #[47, 3] 47 #[.slice (some ⟨g, 0, none⟩) i c, .int .i64 (k : Int)]).run Tryz.prog w = .ok (.slice (some ⟨w.heap.size, 0, none⟩) (i + k) G) w' ∧
      Blk w' w.heap.size 52 (cs ++ rest) ∧ rest.length = (G - i) * 3 ∧ i + k ≤ G ∧ G ≤ maxLen ∧ Kept Old w w' := by
  obtain ⟨i0, hi, hz0, hz1, hz2⟩ := info_parts Tryz.spanInfo
  have hf : (Builtin.firstCells i0.size i (.slice (some ⟨g, 0, none⟩) i c)).run Tryz.prog w.drew = .ok cs.toArray w.drew := by
    rw [hz1]
    exact run_firstCells_some w.drew 3 i ⟨g, 0, none⟩ i c cs (by omega) (fun j v hj => by rw [addr_add, Nat.zero_add]; exact hold j v hj)
  have h := Lib.run_append_grow_zeros w 47 3 47 52 i0 _ .i64 .i64 Tryz.underlying47 Tryz.underlying3 hi hz0 (some ⟨g, 0, none⟩) i c cs hf k hk (by omega) hc (by omega) (by rw [hz2]; omega) (by rw [hz2]; exact growslice_fits hc (by omega))
  have ea : ∀ (cs : List Value) (x y : Array Value), (cs ++ (x.toList ++ y.toList)).toArray = cs.toArray ++ x ++ y := by intros; apply Array.ext'; simp
  refine ⟨_, (Builtin.zeroCells (Value.agg #[.int .i64 0, .int .i64 0, .int .i64 0]).cells k).toList ++ (Builtin.zeroCells (Value.agg #[.int .i64 0, .int .i64 0, .int .i64 0]).cells (grownCap w (i + k) c 52 - (i + k))).toList, _, h, ?_, ?_, grownCap_ge _ _ _ _, grownCap_le_maxLen _ _ _ _ (by unfold maxLen; omega), ((Kept.refl _ _).drew).alloc _⟩
  · have := Blk.new w.drew 52 (cs ++ ((Builtin.zeroCells (Value.agg #[.int .i64 0, .int .i64 0, .int .i64 0]).cells k).toList ++ (Builtin.zeroCells (Value.agg #[.int .i64 0, .int .i64 0, .int .i64 0]).cells (grownCap w (i + k) c 52 - (i + k))).toList))
    rw [ea] at this
    exact this
  · have := grownCap_ge w (i + k) c 52
    simp [Builtin.zeroCells, Value.cells]
    omega
/-- What is owned, by its block. -/
theorem OwS.blk {w : World} {B : Nat} {v : Value} {n : Nat} {l : List S} (h : OwS w B v n l) : (v = .slice none 0 0 ∧ n = 0) ∨ ∃ g c r, v = .slice (some ⟨g, 0, none⟩) n c ∧ B ≤ g ∧ Blk w g 52 (CS l ++ r) ∧ r.length = (c - n) * 3 ∧ n ≤ c ∧ c ≤ maxLen := by
  have hlen := h.len
  rcases h.row.2 with hv | ⟨g, cap, cur, rfl, hb, hg, hn, hm, hs, ht⟩
  · exact .inl hv
  · refine .inr ⟨g, cap, cur.toList.drop (n * 3), rfl, hb, ?_, by simp; omega, hn, hm⟩
    have : CS l ++ cur.toList.drop (n * 3) = cur.toList := by
      rw [← ht]
      have e : (CS l).length = n * 3 := by rw [CS_length]; omega
      rw [← ht] at e
      rw [List.take_append_drop]
    unfold Blk
    rw [this, hg]
theorem OwS.ofBlk {w : World} {B g n c : Nat} {l : List S} {r : List Value} (hb : B ≤ g) (h : Blk w g 52 (CS l ++ r)) (hl : l.length = n) (hr : r.length = (c - n) * 3) (hn : n ≤ c) (hm : c ≤ maxLen) (hf : ∀ x ∈ l, Fit x) : OwS w B (.slice (some ⟨g, 0, none⟩) n c) n l := by
  have e : (CS l).length = n * 3 := by rw [CS_length]; omega
  refine ⟨⟨by omega, .inr ⟨g, c, (CS l ++ r).toArray, rfl, hb, h, hn, hm, by simp; omega, ?_⟩⟩, hf⟩
  simp [← e]
end Go.Proofs.YtcndilpaijapkaaGreat.Lm
/- What slices.Insert of one span answers of a slice that is owned. Own work; proved by a walk through the library's text as it was turned. -/
namespace Go.Proofs.YtcndilpaijapkaaGreat.Lm
open Go.ChangeShapes Go.WideShapes Go.ChangeAt Go.RowKit
set_option maxRecDepth 100000

/-- What Insert and Delete answer: a slice that is owned, of the list L; nothing but its old block has turned. -/
def Turned (B : Nat) (v : Value) (L : List S) (w : World) (e : Ending) (w' : World) : Prop :=
  ∃ v', e = .returned v' ∧ OwS w' B v' L.length L ∧ Kept (fun k => some k = v.ownBlock) w w' ∧ (v'.ownBlock = v.ownBlock ∨ v'.ownBlock = some w.heap.size)
theorem ins_end (B : Nat) (v : Value) (n : Nat) (l : List S) (x : S) (vb vc : Nat) (w : World) (h : OwS w B v n l) (r : RsS w (some ⟨vb, 0, none⟩) 1 [x]) (hn : n ≤ 1000) (hb : B ≤ w.heap.size) :
    Calls Tryz.prog 58 #[v, .int .i64 (n : Int), .slice (some ⟨vb, 0, none⟩) 1 vc] w (Turned B v (l ++ [x]) w) := by
  have hl := h.len
  have P : ∀ v' w', Hid (OwS w' B v' (n + 1) (l ++ [x])) → Hid (Kept (fun k => some k = v.ownBlock) w w') → Hid (v'.ownBlock = v.ownBlock ∨ v'.ownBlock = some w.heap.size) → Turned B v (l ++ [x]) w (.returned v') w' := fun v' w' h1 h2 h3 => ⟨v', rfl, by simpa [hl] using h1.out, h2.out, h3.out⟩
  have P := Lib.hid P
  have HR := Lib.hid r
  have HO := Lib.hid h
  obtain ⟨A, c, rfl, _, hc, hA⟩ := h.rs
  clear h r hl
  cases A with
  | none =>
    obtain rfl := hA rfl
    obtain rfl : n = 0 := by omega
    clear hA
    go_enter Tryz.func58, Tryz.ntmps58
    go_wp2_with (at_builtin; refine appS_wp rfl (.tmp 23) (.tmp 24) rfl rfl B _ 0 l rfl HO.out _ 1 vc [x] rfl HR.out (fun h => by cases h) hn (by omega) hb _ rfl _ rfl ?_; intro v' w' h1 h2 h3; have P := Lib.hid (P.out v' w' h1 h2 h3))
    go_ret
    exact P.out
  | some ad =>
    obtain ⟨ab, ao, asp⟩ := ad
    clear hA
    go_enter Tryz.func58, Tryz.ntmps58
    go_wp2_with (at_builtin; refine appS_wp rfl (.tmp 23) (.tmp 24) rfl rfl B _ n l rfl HO.out _ 1 vc [x] rfl HR.out (fun h => by cases h) hn (by omega) hb _ rfl _ rfl ?_; intro v' w' h1 h2 h3; have P := Lib.hid (P.out v' w' h1 h2 h3))
    all_goals
      go_ret
      exact P.out
/-- Two copies make room for one, and lay it. -/
theorem shift_cells (i : Nat) (l : List S) (x : S) (r : List Value) (hi : i < l.length) :
    over (over (CS l ++ r) ((i + 1) * 3) (CS (l.drop i))) (i * 3) (CS [x]) = CS (l.take i ++ x :: l.drop i) ++ r.drop 3 := by
  have e : CS l = CS (l.take i) ++ CS (l.drop i) := by rw [← CS_append, List.take_append_drop]
  have ha : (CS (l.take i)).length = i * 3 := by rw [CS_length]; simp; omega
  have hd : 3 ≤ (CS (l.drop i)).length := by rw [CS_length]; simp; omega
  rw [e, CS_append, show CS (x :: l.drop i) = CS [x] ++ CS (l.drop i) from rfl]
  generalize CS (l.take i) = A at *
  generalize CS (l.drop i) = D at *
  have h3 : (CS [x]).length = 3 := rfl
  generalize CS [x] = X at *
  have hA : (A ++ D.take 3).length = (i + 1) * 3 := by simp; omega
  have e1 : A ++ D ++ r = (A ++ D.take 3) ++ D.drop 3 ++ r := by simp
  rw [e1, over_at _ _ _ _ _ hA]
  have e2 : (D.drop 3 ++ r).drop D.length = r.drop 3 := by
    rw [List.drop_append, List.drop_eq_nil_of_le (by simp), List.nil_append]
    congr 1
    simp
    omega
  have h4 : (D.take 3).length = 3 := by simp; omega
  rw [e2, show A ++ D.take 3 ++ D ++ r.drop 3 = A ++ (D.take 3 ++ D) ++ r.drop 3 by simp, over_at _ _ _ _ _ ha, h3, List.append_assoc (D.take 3), List.drop_left' h4]
  simp
theorem overlaps_no (w : World) (a b la ca lb cb o : Nat) (ta tb : TypeId) (xs ys : List Value) (ha : Blk w a ta xs) (hb : Blk w b tb ys) (hne : a ≠ b) (h0 : ys ≠ []) :
    (callFunc 98 #[.slice (some ⟨a, 0, none⟩) la ca, .slice (some ⟨b, o, none⟩) lb cb]).run Tryz.prog w = .ok (.value (.bool false)) w := by
  have sa : w.shape? a = some (ta, xs.length) := by unfold World.shape?; rw [ha]; simp
  have sb : w.shape? b = some (tb, ys.length) := by unfold World.shape?; rw [hb]; simp
  rw [run_callFunc_extern Tryz.func98 (by kernel_rfl) (by kernel_rfl) (by kernel_rfl) (e := Extern.SlicesOverlaps.overlaps #[47, 47] #[4]) (by kernel_rfl),
    Lib.run_overlaps_apart w 47 4 52 Tryz.underlying47 3 (fun w => by kernel_rfl) ⟨a, 0, none⟩ ⟨b, o, none⟩ la ca lb cb hne ta tb _ _ sa sb (by simpa using h0) (ha.frozen _) (ha.frozen _)]
  rfl
set_option maxHeartbeats 2000000 in
theorem ins_shift (B g n c i : Nat) (l : List S) (x : S) (hx : Fit x) (r : List Value) (vb vc : Nat) (T : TypeId) (w : World) (hB : B ≤ g) (h : Blk w g 52 (CS l ++ r)) (hl : l.length = n) (hr : r.length = (c - n) * 3) (hf : ∀ x ∈ l, Fit x) (hc : n + 1 ≤ c) (hm : c ≤ maxLen) (hi : i < n) (hn : n ≤ 1000)
    (b : Blk w vb T [.int .i64 x.a, .int .i64 x.n, .int .i64 x.c]) (hv : vb ≠ g) :
    Calls Tryz.prog 58 #[.slice (some ⟨g, 0, none⟩) n c, .int .i64 (i : Int), .slice (some ⟨vb, 0, none⟩) 1 vc] w (Turned B (.slice (some ⟨g, 0, none⟩) n c) (l.take i ++ x :: l.drop i) w) := by
  have hm' : c ≤ 9223372036854775807 := by simp only [maxLen] at hm; omega
  have ha : (CS l).length = n * 3 := by rw [CS_length]; omega
  have hdl : (CS (l.drop i)).length = (n - i) * 3 := by rw [CS_length]; simp; omega
  have hne : CS l ++ r ≠ [] := fun e => by have := congrArg List.length e; rw [List.length_append, List.length_nil] at this; omega
  have hov := overlaps_no w vb g 1 vc (n - i) (c - (i + 1)) ((i + 1) * 3) T 52 _ _ b h hv hne
  have P : ∀ w1 w2, Hid (Blk w1 g 52 (over (CS l ++ r) ((i + 1) * 3) (CS (l.drop i)))) → Hid (Kept (Only g) w.drew w1) → Hid (Blk w2 g 52 (over (over (CS l ++ r) ((i + 1) * 3) (CS (l.drop i))) (i * 3) (CS [x]))) → Hid (Kept (Only g) w1 w2) →
      Turned B (.slice (some ⟨g, 0, none⟩) n c) (l.take i ++ x :: l.drop i) w (.returned (.slice (some ⟨g, 0, none⟩) (n + 1) c)) w2 := fun w1 w2 _ k1 b2 k2 => by
    have b2 := b2.out
    rw [shift_cells i l x r (by omega)] at b2
    have hL : (l.take i ++ x :: l.drop i).length = n + 1 := by simp; omega
    refine ⟨_, rfl, ?_, ?_, .inl rfl⟩
    · rw [hL]
      exact OwS.ofBlk hB b2 hL (by simp; omega) hc hm (fun y hy => by
        rcases List.mem_append.1 hy with hy | hy
        · exact hf y (List.mem_of_mem_take hy)
        · rcases List.mem_cons.1 hy with rfl | hy
          · exact hx
          · exact hf y (List.mem_of_mem_drop hy))
    · exact ((Kept.refl _ _).drew.trans (k1.out.trans k2.out)).mono fun k e => by rw [e]; rfl
  have P := Lib.hid P
  have HB := Lib.hid h
  have HV := Lib.hid b
  have s1 := Lib.hid (show ∀ j v, (CS (l.drop i))[j]? = some v → w.drew.cell? ((⟨g, i * 3, none⟩ : Addr).add j) = some v from fun j v hj => by
    rw [addr_add]
    show w.cell? _ = _
    rw [h.cell, List.getElem?_append_left (by have := (List.getElem?_eq_some_iff.1 hj).1; omega)]
    rw [C_drop, List.getElem?_drop] at hj
    exact hj)
  have o1 := Lib.hid (CS_one (l.drop i))
  have f1 := Lib.hid (show (i + 1) * 3 + (CS (l.drop i)).length ≤ (CS l ++ r).length from by simp; omega)
  have f2 := Lib.hid (show i * 3 + (CS [x]).length ≤ (over (CS l ++ r) ((i + 1) * 3) (CS (l.drop i))).length from by rw [over_length (by simp; omega)]; simp [CS]; omega)
  have hdl := Lib.hid hdl
  clear h b hr ha hne
  have e1 : ((i : Int) + 1).toNat = i + 1 := by omega
  have e2 : ¬ c = i + 1 := by omega
  have e3 : ¬ c = i := by omega
  have e4 : ((n : Int) + 1).toNat = n + 1 := by omega
  have w1 : IntKind.i64.wrap ((i : Int) + 1) = (i : Int) + 1 := IntWalk.i64_in _ (by omega)
  have b1 : (0 : Int) ≤ (i : Int) + 1 := by omega
  have b2 : i ≤ n := by omega
  have b3 : (i : Int) ≤ (n : Int) + 1 := by omega
  go_enter Tryz.func58, Tryz.ntmps58
  go_wp2_with fail
  go_region_law (refine cp_step rfl (.tmp 73) (.tmp 76) rfl rfl ((i + 1) * 3) (n - i) 52 HB.out (c - (i + 1)) (c - i) (n - i) (n + 1 - i) ⟨g, i * 3, none⟩ (by simp [Act.eval, Act.put]) (by simp [Act.eval, Act.put]) (by simp only [Nat.min_def]; split <;> omega) hdl.out f1.out o1.out s1.out ?_; intro w1 b1 k1)
  have s2 := Lib.hid (show ∀ j v, (CS [x])[j]? = some v → w1.cell? ((⟨vb, 0, none⟩ : Addr).add j) = some v from fun j v hj => by
    rw [addr_add, Nat.zero_add, Blk.cell (Blk.kept (Blk.drew HV.out) k1.out hv)]
    exact hj)
  have P := Lib.hid (fun w2 => P.out w1 w2 b1 k1)
  clear s1 HV
  go_wp2_with (refine cp_wp (cs := CS [x]) rfl (.tmp 80) (.tmp 81) rfl rfl (i * 3) 1 52 b1.out (c - i) vc (n + 1 - i) 1 ⟨vb, 0, none⟩ rfl rfl (by simp only [Nat.min_def]; split <;> omega) rfl f2.out (CS_one _) s2.out ?_; intro w2 b2 k2; have P := Lib.hid (P.out w2 b2 k2))
  go_ret
  exact P.out
theorem az_wp {ops : Array Oper} {rest : List Oper} {o : Oper} {a : Act} {Q : Exit → Act → World → Prop} {w : World} (hgd : o.guard = none) (s x : Operand)
    (ho : o.op = .call { callee := .builtin .append, args := #[s, x], argTypes := #[47, 3] }) (hty : o.type = 47) (v u v' : Value) (w' : World) (hs : a.eval s = v) (hx : a.eval x = u)
    (hrun : (Builtin.append_ #[47, 3] 47 #[v, u]).run Tryz.prog w = .ok v' w') (go : wpList Tryz.prog ops Q rest (a.put o.dst v') w') : wpList Tryz.prog ops Q (o :: rest) a w := by
  refine wpList_plain hgd fun K hK => ?_
  unfold Oper.wp execOp
  simp only [ho, hty, resolve, invoke, builtin, Sem.run_bind, Sem.run_pure, Result.andThen_ok, List.map_toArray, List.map_cons, List.map_nil, hs, hx, hrun]
  exact hK _ _ go
set_option maxHeartbeats 2000000 in
theorem ins_grow (B g n c i : Nat) (l : List S) (x : S) (hx : Fit x) (r : List Value) (vb vc : Nat) (T : TypeId) (w : World) (hB : B ≤ w.heap.size) (h : Blk w g 52 (CS l ++ r)) (hl : l.length = n) (hf : ∀ x ∈ l, Fit x) (hnc : n ≤ c) (hc : c < n + 1) (hi : i < n) (hn : n ≤ 1000)
    (b : Blk w vb T [.int .i64 x.a, .int .i64 x.n, .int .i64 x.c]) :
    Calls Tryz.prog 58 #[.slice (some ⟨g, 0, none⟩) n c, .int .i64 (i : Int), .slice (some ⟨vb, 0, none⟩) 1 vc] w (Turned B (.slice (some ⟨g, 0, none⟩) n c) (l.take i ++ x :: l.drop i) w) := by
  have ht : (CS (l.take i)).length = i * 3 := by rw [CS_length]; simp; omega
  have hd : (CS (l.drop i)).length = (n - i) * 3 := by rw [CS_length]; simp; omega
  have eC : CS l = CS (l.take i) ++ CS (l.drop i) := by rw [← CS_append, List.take_append_drop]
  have hL : (l.take i ++ x :: l.drop i).length = n + 1 := by simp; omega
  obtain ⟨G, rest, w1, hrun, b1, hrl, hG, hGm, k1⟩ := zeros_own w g i c (n + 1 - i) (CS (l.take i)) ht (fun j v hj => by rw [h.cell, eC, List.append_assoc, List.getElem?_append_left (by have := (List.getElem?_eq_some_iff.1 hj).1; omega)]; exact hj) (by omega) (by omega) (by omega)
  rw [show i + (n + 1 - i) = n + 1 by omega] at hrun hG
  rw [show ((n + 1 - i : Nat) : Int) = (n : Int) + 1 - (i : Int) by omega] at hrun
  obtain ⟨N, hN⟩ : ∃ N, N = w.heap.size := ⟨_, rfl⟩
  rw [← hN] at hrun b1
  have hg := h.lt
  have hvb := b.lt
  have o1 : over (CS (l.take i) ++ rest) (i * 3) (CS [x]) = CS (l.take i) ++ CS [x] ++ rest.drop 3 := by
    have := over_at (i * 3) (CS (l.take i)) [] (CS [x]) rest ht
    rw [show (CS [x]).length = 3 from rfl] at this
    simpa using this
  have o2 : over (CS (l.take i) ++ CS [x] ++ rest.drop 3) ((i + 1) * 3) (CS (l.drop i)) = CS (l.take i ++ x :: l.drop i) ++ (rest.drop 3).drop ((n - i) * 3) := by
    have := over_at ((i + 1) * 3) (CS (l.take i) ++ CS [x]) [] (CS (l.drop i)) (rest.drop 3) (by rw [List.length_append, ht]; simp [CS]; omega)
    rw [CS_append, show CS (x :: l.drop i) = CS [x] ++ CS (l.drop i) from rfl]
    simpa [hd] using this
  have P : ∀ w2 w3, Hid (Kept (Only N) w1 w2) → Hid (Kept (Only N) w2.drew w3) → Hid (Blk w3 N 52 (over (CS (l.take i) ++ CS [x] ++ rest.drop 3) ((i + 1) * 3) (CS (l.drop i)))) →
      Turned B (.slice (some ⟨g, 0, none⟩) n c) (l.take i ++ x :: l.drop i) w (.returned (.slice (some ⟨N, 0, none⟩) (n + 1) G)) w3 := fun w2 w3 k2 k3 b3 => by
    have b3 := b3.out
    rw [o2] at b3
    refine ⟨_, rfl, ?_, ?_, .inr (by rw [← hN]; rfl)⟩
    · rw [hL]
      exact OwS.ofBlk (by omega) b3 hL (by simp; omega) hG hGm (fun y hy => by
        rcases List.mem_append.1 hy with hy | hy
        · exact hf y (List.mem_of_mem_take hy)
        · rcases List.mem_cons.1 hy with rfl | hy
          · exact hx
          · exact hf y (List.mem_of_mem_drop hy))
    · exact (k1.join (k2.out.drew.trans k3.out) (fun k hk e => by have : k = N := e; omega)).mono fun _ x => x.elim
  have P := Lib.hid P
  have hgN : g ≠ N := by omega
  have hvN : vb ≠ N := by omega
  have sA := Lib.hid (show ∀ j v, (CS [x])[j]? = some v → w1.cell? ((⟨vb, 0, none⟩ : Addr).add j) = some v from fun j v hj => by
    rw [addr_add, Nat.zero_add, Blk.cell (b.kept k1 (fun x => x))]
    exact hj)
  have sB := Lib.hid (show ∀ w2, Hid (Kept (Only N) w1 w2) → ∀ j v, (CS (l.drop i))[j]? = some v → w2.drew.cell? ((⟨g, i * 3, none⟩ : Addr).add j) = some v from fun w2 k2 j v hj => by
    rw [addr_add]
    show w2.cell? _ = _
    rw [Blk.cell ((h.kept k1 (fun x => x)).kept k2.out hgN), eC, List.append_assoc, List.getElem?_append_right (by omega), show i * 3 + j - (CS (l.take i)).length = j by omega, List.getElem?_append_left (by have := (List.getElem?_eq_some_iff.1 hj).1; omega)]
    exact hj)
  have b1 := Lib.hid b1
  have hd := Lib.hid hd
  have o1 := Lib.hid o1
  have c1 := Lib.hid (CS_one (l.drop i))
  have f1 := Lib.hid (show i * 3 + (CS [x]).length ≤ (CS (l.take i) ++ rest).length from by rw [List.length_append, ht]; simp [CS]; omega)
  have f2 := Lib.hid (show (i + 1) * 3 + (CS (l.drop i)).length ≤ (CS (l.take i) ++ CS [x] ++ rest.drop 3).length from by rw [List.length_append, List.length_append, ht, hd.out]; simp [CS]; omega)
  have hz3 : (c : Int) < (n : Int) + 1 := by omega
  have e0 : ¬ G = i := by omega
  have e1 : ((i : Int) + 1).toNat = i + 1 := by omega
  have e2 : ¬ G = i + 1 := by omega
  have e3 : ¬ c = i := by omega
  have hrun' := Lib.hid hrun
  have q1 : IntKind.i64.wrap ((i : Int) + 1) = (i : Int) + 1 := IntWalk.i64_in _ (by omega)
  have q2 : (0 : Int) ≤ (i : Int) + 1 := by omega
  have q3 : i ≤ n := by omega
  have q4 : (i : Int) ≤ (n : Int) := by omega
  have q5 : (i : Int) ≤ (n : Int) + 1 := by omega
  clear h b ht eC hL hrl o2 k1 hN hg hvb hrun
  go_enter Tryz.func58, Tryz.ntmps58
  go_wp2_with (first
    | (at_builtin; refine az_wp rfl (.tmp 34) (.tmp 39) rfl rfl _ _ _ w1 rfl rfl hrun'.out ?_)
    | (refine cp_wp (cs := CS [x]) rfl (.tmp 43) (.tmp 44) rfl rfl (i * 3) 1 52 b1.out (G - i) vc (n + 1 - i) 1 ⟨vb, 0, none⟩ rfl rfl (by simp only [Nat.min_def]; split <;> omega) rfl f1.out (CS_one _) sA.out ?_; intro w2 b2 k2; rw [o1.out] at b2; have sB := Lib.hid (sB.out w2 k2)))
  go_region_law (refine cp_step rfl (.tmp 50) (.tmp 53) rfl rfl ((i + 1) * 3) (n - i) 52 (Blk.drew b2.out) (G - (i + 1)) (c - i) (n - i) (n - i) ⟨g, i * 3, none⟩ (by simp [Act.eval, Act.put]) (by simp [Act.eval, Act.put]) (Nat.min_self _) hd.out f2.out c1.out sB.out ?_; intro w3 b3 k3)
  have P := Lib.hid (P.out w2 w3 k2 k3 b3)
  go_wp2
  go_ret
  exact P.out
end Go.Proofs.YtcndilpaijapkaaGreat.Lm
/- What slices.Insert and slices.Delete of one span answer of a slice that is owned. Own work; proved by a walk through the library's text as it was turned. -/
namespace Go.Proofs.YtcndilpaijapkaaGreat.Lm
open Go.ChangeShapes Go.WideShapes Go.ChangeAt Go.RowKit
set_option maxRecDepth 100000

/-- Insert, whatever room there is. -/
theorem ins_any (B : Nat) (v : Value) (n i : Nat) (l : List S) (x : S) (hx : Fit x) (vb vc : Nat) (w : World) (h : OwS w B v n l) (b : BxS w vb x) (hv : v.ownBlock ≠ some vb) (hi : i ≤ n) (hn : n ≤ 1000) (hB : B ≤ w.heap.size) :
    Calls Tryz.prog 58 #[v, .int .i64 (i : Int), .slice (some ⟨vb, 0, none⟩) 1 vc] w (Turned B v (l.take i ++ x :: l.drop i) w) := by
  have hl := h.len
  by_cases c : i = n
  · subst c
    have e1 : l.take i = l := List.take_of_length_le (by omega)
    have e2 : l.drop i = [] := List.drop_eq_nil_of_le (by omega)
    rw [e1, e2]
    refine ins_end B v i l x vb vc w h ⟨rfl, fun y hy => by obtain rfl := List.mem_singleton.1 hy; exact hx, fun _ => ⟨vb, 0, rfl, Blk.lt b, fun j y hy => ?_⟩⟩ hn hB
    have hj := (List.getElem?_eq_some_iff.1 hy).1
    obtain rfl : j = 0 := by simpa using hj
    simp only [List.getElem?_cons_zero, Option.some.injEq] at hy
    subst hy
    exact ⟨b.c0, b.c1, b.c2⟩
  · rcases h.blk with ⟨_, rfl⟩ | ⟨g, cp, r, rfl, hb, hg, hr, hc, hm⟩
    · omega
    · by_cases d : n + 1 ≤ cp
      · exact ins_shift B g n cp i l x hx r vb vc _ w hb hg hl hr h.fit d hm (by omega) hn b (fun e => hv (by rw [e]; rfl))
      · exact ins_grow B g n cp i l x hx r vb vc _ w hB hg hl h.fit hc (by omega) (by omega) hn b

theorem ar_step {ops : Array Oper} {o : Oper} {a : Act} {K : Act → World → Prop} {Q : Exit → Act → World → Prop} {E : Prop} {w : World} (hgd : o.guard = none) (s x : Operand)
    (ho : o.op = .call { callee := .builtin .append, args := #[s, x], argTypes := #[47, 47] }) (hty : o.type = 47)
    {g : Nat} {cur cs : List Value} (i m c sc : Nat) (T : TypeId) (h : Blk w g T cur) (ad : Addr) (hs : a.eval s = .slice (some ⟨g, 0, none⟩) i c) (hx : a.eval x = .slice (some ad) m sc)
    (hn : cs.length = m * 3) (hfit : i * 3 + cs.length ≤ cur.length) (hroom : i + m ≤ c) (h1 : ∀ u ∈ cs, u.oneCell' = true) (hr : ∀ j v, cs[j]? = some v → w.cell? (ad.add j) = some v)
    (go : ∀ w', Hid (Blk w' g T (over cur (i * 3) cs)) → Hid (Kept (Only g) w w') → K (a.put o.dst (.slice (some ⟨g, 0, none⟩) (i + m) c)) w') :
    if Region.wanted o (yielded ops a.tmps) = true then Oper.wp Tryz.prog o a w K Q else E := by
  have hw : Region.wanted o (yielded ops a.tmps) = true := by simp [Region.wanted, hgd]
  rw [if_pos hw]
  obtain ⟨i0, hi, hz0, hz1, hz2⟩ := info_parts Tryz.spanInfo
  have hrun := run_append_room_cells (P := Tryz.prog) w 47 47 52 i0 Tryz.underlying47 hi g 0 i c ad m sc cs (by rw [hz1]; exact hn) hr h1 hroom (fun j hj => by rw [hz1, Nat.zero_add]; exact h.mem (by omega)) (fun j hj => h.frozen _)
  rw [hz1, Nat.zero_add] at hrun
  unfold Oper.wp execOp
  simp only [ho, hty, resolve, invoke, builtin, Sem.run_bind, Sem.run_pure, Result.andThen_ok, List.map_toArray, List.map_cons, List.map_nil, hs, hx, hrun]
  exact go _ (Lib.hid (Blk.cells cs cur (i * 3) w h hfit)) (Lib.hid (kept_cells _ _ _ _))
theorem cut_cells (i : Nat) (l : List S) (r : List Value) (hi : i < l.length) : ∃ r', over (over (CS l ++ r) (i * 3) (CS (l.drop (i + 1)))) ((l.length - 1) * 3) (CS [⟨0, 0, 0⟩]) = CS (l.take i ++ l.drop (i + 1)) ++ r' ∧ r'.length = r.length + 3 := by
  have e : CS l = CS (l.take i) ++ (CS [l[i]] ++ CS (l.drop (i + 1))) := by rw [← CS_append, ← CS_append, List.singleton_append, List.getElem_cons_drop, List.take_append_drop]
  have ha : (CS (l.take i)).length = i * 3 := by rw [CS_length]; simp; omega
  have hd : (CS (l.drop (i + 1))).length = (l.length - (i + 1)) * 3 := by rw [CS_length]; simp
  have h3 : (CS [l[i]]).length = 3 := rfl
  have h4 : (CS [⟨0, 0, 0⟩]).length = 3 := rfl
  rw [e, CS_append]
  generalize CS (l.take i) = A at *
  generalize CS (l.drop (i + 1)) = D at *
  generalize CS [l[i]] = X at *
  generalize CS [⟨0, 0, 0⟩] = Z at *
  rw [over_at (i * 3) A (X ++ D) D r ha]
  have := over_at ((l.length - 1) * 3) (A ++ D) [] Z ((X ++ D ++ r).drop D.length) (by rw [List.length_append]; omega)
  rw [List.append_nil, List.nil_append] at this
  rw [this, List.append_assoc]
  exact ⟨_, rfl, by simp; omega⟩
theorem cl_wp {ops : Array Oper} {rest : List Oper} {o : Oper} {a : Act} {Q : Exit → Act → World → Prop} {w : World} (hgd : o.guard = none) (s : Operand)
    (ho : o.op = .call { callee := .builtin .clear, args := #[s], argTypes := #[47] }) {g : Nat} {cur : List Value} (of dc : Nat) (T : TypeId) (h : Blk w g T cur) (hs : a.eval s = .slice (some ⟨g, of, none⟩) 1 dc) (hfit : of + 3 ≤ cur.length)
    (go : ∀ w', Hid (Blk w' g T (over cur of (CS [⟨0, 0, 0⟩]))) → Hid (Kept (Only g) w w') → wpList Tryz.prog ops Q rest (a.put o.dst (.tuple #[])) w') : wpList Tryz.prog ops Q (o :: rest) a w := by
  refine wpList_plain hgd fun K hK => ?_
  obtain ⟨w', hrun, h2, h3⟩ := clear_own w of dc T h hfit o.type
  unfold Oper.wp execOp
  simp only [ho, resolve, invoke, builtin, Sem.run_bind, Sem.run_pure, Result.andThen_ok, List.map_toArray, List.map_cons, List.map_nil, hs, hrun]
  exact hK _ _ (go w' h2 h3)
set_option maxHeartbeats 2000000 in
theorem del_any (B : Nat) (v : Value) (n i : Nat) (l : List S) (w : World) (h : OwS w B v n l) (hi : i < n) (hn : n ≤ 1000) :
    Calls Tryz.prog 66 #[v, .int .i64 (i : Int), .int .i64 ((i : Int) + 1)] w (Turned B v (l.take i ++ l.drop (i + 1)) w) := by
  obtain ⟨k, rfl⟩ : ∃ k, n = k + 1 := ⟨n - 1, by omega⟩
  have hl := h.len
  have hf := h.fit
  rcases h.blk with ⟨_, hz⟩ | ⟨g, c, r, rfl, hB, hg, hr, hc, hm⟩
  · omega
  have hm' : c ≤ 9223372036854775807 := by simp only [maxLen] at hm; omega
  have ha : (CS l).length = (k + 1) * 3 := by rw [CS_length]; omega
  have hd : (CS (l.drop (i + 1))).length = (k - i) * 3 := by rw [CS_length]; simp; omega
  have hL : (l.take i ++ l.drop (i + 1)).length = k := by simp; omega
  obtain ⟨r', hr', hrl⟩ := cut_cells i l r (by omega)
  rw [hl, Nat.add_sub_cancel] at hr'
  have P : ∀ w1 w2, Hid (Kept (Only g) w.drew w1) → Hid (Blk w2 g 52 (over (over (CS l ++ r) (i * 3) (CS (l.drop (i + 1)))) (k * 3) (CS [⟨0, 0, 0⟩]))) → Hid (Kept (Only g) w1 w2) →
      Turned B (.slice (some ⟨g, 0, none⟩) (k + 1) c) (l.take i ++ l.drop (i + 1)) w (.returned (.slice (some ⟨g, 0, none⟩) k c)) w2 := fun w1 w2 k1 b2 k2 => by
    have b2 := b2.out
    rw [hr'] at b2
    refine ⟨_, rfl, ?_, ?_, .inl rfl⟩
    · rw [hL]
      exact OwS.ofBlk hB b2 hL (by omega) (by omega) hm (fun y hy => by
        rcases List.mem_append.1 hy with hy | hy
        · exact hf y (List.mem_of_mem_take hy)
        · exact hf y (List.mem_of_mem_drop hy))
    · exact ((Kept.refl _ _).drew.trans (k1.out.trans k2.out)).mono fun k e => by rw [e]; rfl
  have P := Lib.hid P
  have HB := Lib.hid hg
  obtain ⟨ad, hA, s1⟩ : ∃ ad : Addr, (if c = i + 1 then some (⟨g, 0, none⟩ : Addr) else some ⟨g, (i + 1) * 3, none⟩) = some ad ∧ Hid (∀ j v, (CS (l.drop (i + 1)))[j]? = some v → w.drew.cell? (ad.add j) = some v) := by
    by_cases q : c = i + 1
    · exact ⟨_, if_pos q, Lib.hid fun j v hj => by have := (List.getElem?_eq_some_iff.1 hj).1; omega⟩
    · refine ⟨_, if_neg q, Lib.hid fun j v hj => ?_⟩
      rw [addr_add]
      show w.cell? _ = _
      rw [hg.cell, List.getElem?_append_left (by have := (List.getElem?_eq_some_iff.1 hj).1; omega)]
      rw [C_drop, List.getElem?_drop] at hj
      exact hj
  have o1 := Lib.hid (CS_one (l.drop (i + 1)))
  have f1 := Lib.hid (show i * 3 + (CS (l.drop (i + 1))).length ≤ (CS l ++ r).length from by simp; omega)
  have f2 := Lib.hid (show k * 3 + 3 ≤ (over (CS l ++ r) (i * 3) (CS (l.drop (i + 1)))).length from by rw [over_length f1.out]; simp; omega)
  have hd := Lib.hid hd
  clear h hg hr ha hr' hrl hL
  have e0 : i ≤ c := by omega
  have e9 : ¬ c = k := by omega
  have e10 : (k : Int) ≤ (k : Int) + 1 := by omega
  have e1 : ((i : Int) + 1).toNat = i + 1 := by omega
  have e2 : i + 1 ≤ (k + 1) := by omega
  have e3 : (i : Int) ≤ ((k : Int) + 1) := by omega
  have e4 : (i : Int) + 1 ≤ ((k : Int) + 1) := by omega
  have e5 : (0 : Int) ≤ (i : Int) + 1 := by omega
  have e6 : (i : Int) ≤ (c : Int) := by omega
  have e7 : i ≤ (k + 1) := by omega
  have e8 : i + (k - i) = k := by omega
  go_enter Tryz.func66, Tryz.ntmps66
  go_wp2_with fail
  go_region_law (refine ar_step rfl (.tmp 22) (.tmp 25) rfl rfl i (k - i) c (c - (i + 1)) 52 HB.out ad (by simp [Act.eval, Act.put]) (by simp [Act.eval, Act.put]) hd.out f1.out (by omega) o1.out s1.out ?_; intro w1 b1 k1; rw [e8])
  have P := Lib.hid (fun w2 => P.out w1 w2 k1)
  go_wp2_with (refine cl_wp rfl (.tmp 31) rfl (k * 3) (c - k) 52 b1.out rfl f2.out ?_; intro w2 b2 k2; have P := Lib.hid (P.out w2 b2 k2))
  go_ret
  exact P.out
end Go.Proofs.YtcndilpaijapkaaGreat.Lm
