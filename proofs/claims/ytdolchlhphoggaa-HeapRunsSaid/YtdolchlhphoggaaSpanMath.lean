/-
  Lists of spans as plain data: what a table of spans answers. Own work; no program is walked here.
-/
import Derived.Lib.Hide
namespace Go.Proofs.Ytdolchlhphoggaa

/-- A span: first page, pages, class. -/
@[ext] structure S where
  a : Int
  n : Int
  c : Int
deriving DecidableEq, Inhabited

/-- A span that may lie in a table of P pages. -/
structure Ok (P : Int) (x : S) : Prop where
  a0 : 0 ≤ x.a
  n1 : 1 ≤ x.n
  up : x.a + x.n ≤ P
  c0 : 0 ≤ x.c
  c7 : x.c < 8
abbrev Ahead (x y : S) : Prop := x.a + x.n ≤ y.a
/-- Spans in their order, none over another. -/
structure Good (P : Int) (l : List S) : Prop where
  each : ∀ x ∈ l, Ok P x
  row : l.Pairwise Ahead
theorem Good.nil (P : Int) : Good P [] := ⟨fun _ h => by (cases h), .nil⟩
theorem Ok.mono {P Q : Int} {x : S} (h : Ok P x) (k : P ≤ Q) : Ok Q x := ⟨h.a0, h.n1, Int.le_trans h.up k, h.c0, h.c7⟩
theorem Good.mono {P Q : Int} {l : List S} (h : Good P l) (k : P ≤ Q) : Good Q l := ⟨fun x hx => (h.each x hx).mono k, h.row⟩
theorem Good.at {P : Int} {l : List S} (h : Good P l) {i : Nat} {x : S} (hx : l[i]? = some x) : Ok P x := h.each x (List.mem_of_getElem? hx)
theorem Good.two {P : Int} {l : List S} (h : Good P l) {i j : Nat} {x y : S} (hx : l[i]? = some x) (hy : l[j]? = some y) (k : i < j) : x.a + x.n ≤ y.a := by
  obtain ⟨hi, rfl⟩ := List.getElem?_eq_some_iff.1 hx
  obtain ⟨hj, rfl⟩ := List.getElem?_eq_some_iff.1 hy
  exact List.pairwise_iff_getElem.1 h.row i j hi hj k
theorem Good.sub {P : Int} {l m : List S} (h : Good P l) (k : m.Sublist l) : Good P m := ⟨fun x hx => h.each x (k.subset hx), h.row.sublist k⟩
theorem len_from {P : Int} : ∀ (l : List S) (lo : Int), (∀ x ∈ l, Ok P x) → l.Pairwise Ahead → (∀ x ∈ l, lo ≤ x.a) → lo ≤ P → (l.length : Int) ≤ P - lo
  | [], lo, _, _, _, h => by simp; omega
  | x :: t, lo, h1, h2, h3, h4 => by
    obtain ⟨h5, h6⟩ := List.pairwise_cons.1 h2
    have o := h1 x (List.mem_cons_self ..)
    have b := h3 x (List.mem_cons_self ..)
    have := len_from t (x.a + x.n) (fun y hy => h1 y (List.mem_cons_of_mem _ hy)) h6 h5 o.up
    have := o.n1
    simp only [List.length_cons]
    omega
theorem Good.len {P : Int} {l : List S} (h : Good P l) (hP : 0 ≤ P) : (l.length : Int) ≤ P := by
  have := len_from l 0 h.each h.row (fun x hx => (h.each x hx).a0) hP
  omega

/-- How many spans end at a page or before it. -/
def placeL : List S → Int → Nat
  | [], _ => 0
  | y :: t, p => if y.a + y.n ≤ p then placeL t p + 1 else 0
theorem place_le (l : List S) (p : Int) : placeL l p ≤ l.length := by
  induction l with
  | nil => exact Nat.le_refl _
  | cons y t ih => unfold placeL; split <;> simp <;> omega
theorem place_lo (l : List S) (p : Int) {i : Nat} {y : S} (h : l[i]? = some y) (k : i < placeL l p) : y.a + y.n ≤ p := by
  induction l generalizing i with
  | nil => cases h
  | cons z t ih =>
    unfold placeL at k
    split at k
    · cases i with
      | zero => simp only [List.getElem?_cons_zero, Option.some.injEq] at h; subst h; assumption
      | succ i => exact ih (by simpa using h) (by omega)
    · omega
theorem place_hi (l : List S) (p : Int) {y : S} (h : l[placeL l p]? = some y) : p < y.a + y.n := by
  induction l with
  | nil => cases h
  | cons z t ih =>
    unfold placeL at h
    split at h
    · exact ih (by simpa using h)
    · simp only [List.getElem?_cons_zero, Option.some.injEq] at h; subst h; omega
/-- It is told by what stands there. -/
theorem place_eq {l : List S} {p : Int} {i : Nat} (h0 : i ≤ l.length) (h1 : ∀ j y, l[j]? = some y → j < i → y.a + y.n ≤ p) (h2 : ∀ y, l[i]? = some y → p < y.a + y.n) : placeL l p = i := by
  rcases Nat.lt_trichotomy (placeL l p) i with c | c | c
  · have hl : placeL l p < l.length := by omega
    have e : l[placeL l p]? = some l[placeL l p] := List.getElem?_eq_getElem hl
    have := place_hi l p e
    have := h1 _ _ e c
    omega
  · exact c
  · have hl : i < l.length := by have := place_le l p; omega
    have e : l[i]? = some l[i] := List.getElem?_eq_getElem hl
    have := place_lo l p e c
    have := h2 _ e
    omega
theorem place_in {P : Int} {l : List S} (h : Good P l) {p : Int} {i : Nat} {y : S} (hy : l[i]? = some y) (h1 : y.a ≤ p) (h2 : p < y.a + y.n) : placeL l p = i :=
  place_eq (by have := (List.getElem?_eq_some_iff.1 hy).1; omega) (fun j z hz hj => by have := h.two hz hy hj; omega) (fun z hz => by rw [hy] at hz; obtain rfl := Option.some.inj hz; exact h2)

/-- The span that contains a page. -/
def ofL (l : List S) (p : Int) : Option S := match l[placeL l p]? with
  | some y => if y.a ≤ p then some y else none
  | none => none
theorem of_some {l : List S} {p : Int} {y : S} (h : ofL l p = some y) : l[placeL l p]? = some y ∧ y.a ≤ p ∧ p < y.a + y.n := by
  unfold ofL at h
  split at h
  · rename_i z hz
    split at h
    · obtain rfl := Option.some.inj h
      exact ⟨hz, by assumption, place_hi l p hz⟩
    · cases h
  · cases h
theorem of_at {P : Int} {l : List S} (h : Good P l) {p : Int} {i : Nat} {y : S} (hy : l[i]? = some y) (h1 : y.a ≤ p) (h2 : p < y.a + y.n) : ofL l p = some y := by
  have e := place_in h hy h1 h2
  unfold ofL
  rw [e, hy]
  simp [h1]
theorem of_none {P : Int} {l : List S} (h : Good P l) {p : Int} (k : ofL l p = none) : ∀ (i : Nat) (y : S), l[i]? = some y → ¬ (y.a ≤ p ∧ p < y.a + y.n) := by
  intro i y hy ⟨h1, h2⟩
  rw [of_at h hy h1 h2] at k
  cases k
theorem of_none_at {l : List S} {p : Int} (k : ofL l p = none) {y : S} (h : l[placeL l p]? = some y) : p < y.a := by
  unfold ofL at k
  rw [h] at k
  simp only at k
  split at k
  · cases k
  · omega

/-- Is there a page of x in a span of l? -/
def hitB (l : List S) (x : S) : Bool := match l[placeL l x.a]? with
  | some y => decide (y.a < x.a + x.n)
  | none => false
theorem hit_some {l : List S} {x : S} (h : hitB l x = true) : ∃ y, l[placeL l x.a]? = some y ∧ y.a < x.a + x.n ∧ x.a < y.a + y.n := by
  unfold hitB at h
  split at h
  · rename_i y hy
    exact ⟨y, hy, of_decide_eq_true h, place_hi l _ hy⟩
  · cases h
theorem hit_none {l : List S} {x : S} (h : hitB l x = false) {y : S} (hy : l[placeL l x.a]? = some y) : x.a + x.n ≤ y.a := by
  unfold hitB at h
  rw [hy] at h
  have := of_decide_eq_false h
  omega
theorem miss_all {P : Int} {l : List S} (g : Good P l) {x : S} (h : hitB l x = false) {i : Nat} {y : S} (hy : l[i]? = some y) (k : placeL l x.a ≤ i) : x.a + x.n ≤ y.a := by
  have hl : placeL l x.a < l.length := by have := (List.getElem?_eq_some_iff.1 hy).1; omega
  have e : l[placeL l x.a]? = some l[placeL l x.a] := List.getElem?_eq_getElem hl
  have b := hit_none h e
  rcases Nat.lt_or_ge (placeL l x.a) i with c | c
  · have := g.two e hy c
    have := (g.at e).n1
    omega
  · obtain rfl : i = placeL l x.a := by omega
    rw [e] at hy
    obtain rfl := Option.some.inj hy
    exact b
/-- The list behind an Add. -/
def insL (l : List S) (x : S) : List S := l.take (placeL l x.a) ++ x :: l.drop (placeL l x.a)
theorem ins_len (l : List S) (x : S) : (insL l x).length = l.length + 1 := by
  have := place_le l x.a
  simp [insL]
  omega
theorem mem_take_at {l : List S} {i : Nat} {y : S} (h : y ∈ l.take i) : ∃ j, j < i ∧ l[j]? = some y := by
  obtain ⟨j, hj⟩ := List.mem_iff_getElem?.1 h
  have hl := (List.getElem?_eq_some_iff.1 hj).1
  rw [List.length_take] at hl
  rw [List.getElem?_take, if_pos (by omega)] at hj
  exact ⟨j, by omega, hj⟩
theorem mem_drop_at {l : List S} {i : Nat} {y : S} (h : y ∈ l.drop i) : ∃ j, i ≤ j ∧ l[j]? = some y := by
  obtain ⟨j, hj⟩ := List.mem_iff_getElem?.1 h
  rw [List.getElem?_drop] at hj
  exact ⟨i + j, by omega, hj⟩
theorem Good.ins {P : Int} {l : List S} (g : Good P l) {x : S} (ok : Ok P x) (h : hitB l x = false) : Good P (insL l x) := by
  refine ⟨fun y hy => ?_, ?_⟩
  · simp only [insL, List.mem_append, List.mem_cons] at hy
    rcases hy with hy | rfl | hy
    · exact g.each y (List.mem_of_mem_take hy)
    · exact ok
    · exact g.each y (List.mem_of_mem_drop hy)
  · unfold insL
    refine List.pairwise_append.2 ⟨g.row.sublist (List.take_sublist ..), List.pairwise_cons.2 ⟨fun y hy => ?_, g.row.sublist (List.drop_sublist ..)⟩, fun y hy z hz => ?_⟩
    · obtain ⟨j, hj, e⟩ := mem_drop_at hy
      exact miss_all g h e hj
    · obtain ⟨j, hj, e⟩ := mem_take_at hy
      have b := place_lo l x.a e hj
      rcases List.mem_cons.1 hz with rfl | hz
      · exact b
      · obtain ⟨k, hk, f⟩ := mem_drop_at hz
        exact g.two e f (by omega)
/-- The list behind a Remove. -/
def delL (l : List S) (p : Int) : List S := l.take (placeL l p) ++ l.drop (placeL l p + 1)
theorem Good.del {P : Int} {l : List S} (g : Good P l) (p : Int) : Good P (delL l p) := by
  refine ⟨fun y hy => ?_, ?_⟩
  · rcases List.mem_append.1 hy with hy | hy
    · exact g.each y (List.mem_of_mem_take hy)
    · exact g.each y (List.mem_of_mem_drop hy)
  · refine List.pairwise_append.2 ⟨g.row.sublist (List.take_sublist ..), g.row.sublist (List.drop_sublist ..), fun y hy z hz => ?_⟩
    obtain ⟨j, hj, e⟩ := mem_take_at hy
    obtain ⟨k, hk, f⟩ := mem_drop_at hz
    exact g.two e f (by omega)
/-- The span that begins at a page. -/
def begL (l : List S) (p : Int) : Option S := match ofL l p with
  | some y => if y.a = p then some y else none
  | none => none
theorem beg_some {l : List S} {p : Int} {y : S} (h : begL l p = some y) : ofL l p = some y ∧ y.a = p := by
  unfold begL at h
  split at h
  · rename_i z hz
    split at h
    · obtain rfl := Option.some.inj h
      exact ⟨hz, by assumption⟩
    · cases h
  · cases h
theorem beg_none {l : List S} {p : Int} (h : begL l p = none) : ofL l p = none ∨ ∃ y, ofL l p = some y ∧ y.a ≠ p := by
  unfold begL at h
  split at h
  · rename_i z hz
    split at h
    · cases h
    · exact .inr ⟨z, hz, by assumption⟩
  · exact .inl (by assumption)
theorem beg_at {P : Int} {l : List S} (g : Good P l) {p : Int} {i : Nat} {y : S} (hy : l[i]? = some y) (h : y.a = p) : begL l p = some y := by
  have := (g.at hy).n1
  unfold begL
  rw [of_at g hy (by omega) (by omega)]
  simp [h]
theorem beg_none_all {P : Int} {l : List S} (g : Good P l) {p : Int} (h : begL l p = none) : ∀ (i : Nat) (y : S), l[i]? = some y → y.a ≠ p := by
  intro i y hy e
  rw [beg_at g hy e] at h
  cases h
theorem del_len {l : List S} {p : Int} {y : S} (h : ofL l p = some y) : (delL l p).length + 1 = l.length := by
  have := (List.getElem?_eq_some_iff.1 (of_some h).1).1
  simp [delL]
  omega
end Go.Proofs.Ytdolchlhphoggaa
