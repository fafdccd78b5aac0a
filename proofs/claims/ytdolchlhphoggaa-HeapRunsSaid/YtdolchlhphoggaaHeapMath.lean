/-
  A heap as plain data: free runs and spans of P pages, each page in one of them; what Alloc and Free make of them. Own work; no program is walked here.
-/
import Derived.Test.YtdolchlhphoggaaRunsMath
import Derived.Test.YtdolchlhphoggaaSpanCount
namespace Go.Proofs.Ytdolchlhphoggaa

/-! ### The first run that is long enough -/
def fitAt : List R → Int → Option (Nat × R)
  | [], _ => none
  | y :: t, n => if n ≤ y.2 then some (0, y) else (fitAt t n).map fun p => (p.1 + 1, p.2)
theorem fit_at_some {l : List R} {n : Int} {i : Nat} {x : R} (h : fitAt l n = some (i, x)) : Fits l n i x := by
  induction l generalizing i with
  | nil => cases h
  | cons y t ih =>
    unfold fitAt at h
    by_cases c : n ≤ y.2
    · rw [if_pos c] at h
      injection h with h
      injection h with h1 h2
      subst h1
      subst h2
      exact ⟨rfl, c, by intro z hz; simp at hz⟩
    · rw [if_neg c] at h
      cases e : fitAt t n with
      | none => rw [e] at h; cases h
      | some p =>
        obtain ⟨j, z⟩ := p
        rw [e] at h
        simp only [Option.map_some, Option.some.injEq, Prod.mk.injEq] at h
        obtain ⟨rfl, rfl⟩ := h
        obtain ⟨a, b, d⟩ := ih e
        refine ⟨by simpa using a, b, ?_⟩
        intro u hu
        rw [List.take_succ_cons] at hu
        rcases List.mem_cons.1 hu with rfl | hu
        · omega
        · exact d u hu
theorem fit_at_none {l : List R} {n : Int} (h : fitAt l n = none) : fitB l n = false := by
  induction l with
  | nil => rfl
  | cons y t ih =>
    unfold fitAt at h
    by_cases c : n ≤ y.2
    · rw [if_pos c] at h; cases h
    · rw [if_neg c] at h
      have : fitAt t n = none := by
        cases e : fitAt t n with
        | none => rfl
        | some p => rw [e] at h; cases h
      have := ih this
      simp only [fitB, List.any_cons, decide_eq_false c, Bool.false_or] at this ⊢
      exact this

/-! ### Pages in spans -/
def inS (l : List S) (g : Int) : Prop := ∃ y ∈ l, y.a ≤ g ∧ g < y.a + y.n
theorem of_iff {P : Int} {l : List S} (h : Good P l) (g : Int) : ofB l g = true ↔ inS l g := by
  unfold ofB
  constructor
  · intro c
    cases e : ofL l g with
    | none => rw [e] at c; cases c
    | some y =>
      obtain ⟨a, b, d⟩ := of_some e
      exact ⟨y, List.mem_of_getElem? a, b, d⟩
  · rintro ⟨y, hy, b, d⟩
    obtain ⟨i, hi⟩ := List.mem_iff_getElem?.1 hy
    rw [of_at h hi b d]
theorem mem_ins {l : List S} {x y : S} : y ∈ insL l x ↔ y = x ∨ y ∈ l := by
  unfold insL
  rw [List.mem_append, List.mem_cons]
  conv => rhs; rw [← List.take_append_drop (placeL l x.a) l, List.mem_append]
  constructor
  · rintro (h | h | h)
    · exact .inr (.inl h)
    · exact .inl h
    · exact .inr (.inr h)
  · rintro (h | h | h)
    · exact .inr (.inl h)
    · exact .inl h
    · exact .inr (.inr h)
theorem in_ins {l : List S} {x : S} (g : Int) : inS (insL l x) g ↔ (x.a ≤ g ∧ g < x.a + x.n) ∨ inS l g := by
  unfold inS
  constructor
  · rintro ⟨y, hy, c⟩
    rcases mem_ins.1 hy with rfl | hy
    · exact .inl c
    · exact .inr ⟨y, hy, c⟩
  · rintro (c | ⟨y, hy, c⟩)
    · exact ⟨x, mem_ins.2 (.inl rfl), c⟩
    · exact ⟨y, mem_ins.2 (.inr hy), c⟩
theorem sum_append (a b : List S) : sumN (a ++ b) = sumN a + sumN b := by
  induction a with
  | nil => simp [sumN]
  | cons y t ih => simp only [List.cons_append, sumN, ih]; omega
theorem sum_ins (l : List S) (x : S) : sumN (insL l x) = sumN l + x.n := by
  unfold insL
  rw [sum_append, sumN]
  conv => rhs; rw [← List.take_append_drop (placeL l x.a) l, sum_append]
  omega
theorem splitS_at {l : List S} {k : Nat} {x : S} (h : l[k]? = some x) : l = l.take k ++ x :: l.drop (k + 1) := by
  obtain ⟨hk, rfl⟩ := List.getElem?_eq_some_iff.1 h
  rw [← List.drop_eq_getElem_cons hk, List.take_append_drop]
theorem sum_del {l : List S} {p : Int} {x : S} (h : ofL l p = some x) : sumN (delL l p) = sumN l - x.n := by
  have e := splitS_at (of_some h).1
  unfold delL
  rw [sum_append]
  have := congrArg sumN e
  rw [sum_append, sumN] at this
  omega
theorem in_del {P : Int} {l : List S} (G : Good P l) {p : Int} {x : S} (h : ofL l p = some x) (g : Int) : inS (delL l p) g ↔ inS l g ∧ ¬ (x.a ≤ g ∧ g < x.a + x.n) := by
  have hx := (of_some h).1
  have two := fun (i : Nat) (y : S) (hy : l[i]? = some y) => (fun c : i < placeL l p => G.two hy hx c)
  have two' := fun (i : Nat) (y : S) (hy : l[i]? = some y) => (fun c : placeL l p < i => G.two hx hy c)
  unfold inS
  constructor
  · rintro ⟨y, hy, c⟩
    rcases List.mem_append.1 hy with hy | hy
    · obtain ⟨j, hj, e⟩ := mem_take_at hy
      refine ⟨⟨y, List.mem_of_getElem? e, c⟩, fun d => ?_⟩
      have := two j y e hj
      omega
    · obtain ⟨j, hj, e⟩ := mem_drop_at hy
      refine ⟨⟨y, List.mem_of_getElem? e, c⟩, fun d => ?_⟩
      have := two' j y e (by omega)
      omega
  · rintro ⟨⟨y, hy, c⟩, d⟩
    rw [splitS_at hx] at hy
    rcases List.mem_append.1 hy with hy | hy
    · exact ⟨y, List.mem_append.2 (.inl hy), c⟩
    · rcases List.mem_cons.1 hy with rfl | hy
      · exact absurd c d
      · exact ⟨y, List.mem_append.2 (.inr hy), c⟩
theorem total_front (a n : Int) (t : List R) : totalL (front a n t) = n + totalL t := by
  cases t with
  | nil => simp [front, totalL]
  | cons y t =>
    rw [front_cons]
    split
    · simp only [totalL, List.map_cons, List.sum_cons]; omega
    · simp only [totalL, List.map_cons, List.sum_cons]
theorem total_put (l : List R) (a n : Int) : totalL (putL l a n) = totalL l + n := by
  induction l with
  | nil => simp [putL, totalL]
  | cons x t ih =>
    unfold putL
    split
    · simp only [totalL, List.map_cons, List.sum_cons] at ih ⊢; omega
    · split
      · rw [total_front]; simp only [totalL, List.map_cons, List.sum_cons]; omega
      · rw [total_front]; omega
theorem has_iff {l : List R} {g : Int} : hasB l g = true ↔ ∃ x ∈ l, x.1 ≤ g ∧ g < x.1 + x.2 := by
  simp only [hasB, List.any_eq_true, inR, decide_eq_true_eq]

/-! ### Each page is in one of both -/
structure Whole (P : Int) (rl : List R) (sl : List S) : Prop where
  pages : 1 ≤ P ∧ P ≤ 256
  right : Right P 0 rl
  good : Good P sl
  one : ∀ g, 0 ≤ g → g < P → (hasB rl g = true ↔ ¬ inS sl g)
  sum : totalL rl + sumN sl = P
theorem Whole.wide {P : Int} {rl : List R} {sl : List S} (h : Whole P rl sl) : Right 256 0 rl := h.right.wide h.pages.2
theorem Whole.len {P : Int} {rl : List R} {sl : List S} (h : Whole P rl sl) : rl.length ≤ 257 ∧ sl.length ≤ 256 := by
  have := h.wide.len (by omega)
  have := h.good.len (by have := h.pages; omega)
  have := h.pages
  omega
theorem Whole.new {P : Int} (h1 : 1 ≤ P) (h2 : P ≤ 256) : Whole P [(0, P)] [] := by
  refine ⟨⟨h1, h2⟩, ⟨Int.le_refl _, h1, by show 0 + P ≤ P; omega, Int.le_refl _, trivial⟩, Good.nil P, fun g a b => ⟨fun _ => ?_, fun _ => ?_⟩, by simp [totalL, sumN]⟩
  · rintro ⟨y, hy, _⟩
    cases hy
  · have c1 : (0 : Int) ≤ g := a
    have c2 : g < 0 + P := by omega
    exact has_iff.2 ⟨(0, P), List.mem_singleton.2 rfl, c1, c2⟩
/-- No page of a run is in a span. -/
theorem Whole.apart {P : Int} {rl : List R} {sl : List S} (h : Whole P rl sl) {x : R} (hx : x ∈ rl) {y : S} (hy : y ∈ sl) : x.1 + x.2 ≤ y.a ∨ y.a + y.n ≤ x.1 := by
  have a := h.right.mem hx
  have b := h.good.each y hy
  have b0 := b.a0
  have b1 := b.n1
  have b2 := b.up
  apply Classical.byContradiction
  intro c
  have k : ∃ g, x.1 ≤ g ∧ g < x.1 + x.2 ∧ y.a ≤ g ∧ g < y.a + y.n := by
    rcases Int.le_total x.1 y.a with d | d
    · exact ⟨y.a, by omega, by omega, by omega, by omega⟩
    · exact ⟨x.1, by omega, by omega, by omega, by omega⟩
  obtain ⟨g, g1, g2, g3, g4⟩ := k
  exact (h.one g (by omega) (by omega)).1 (has_iff.2 ⟨x, hx, g1, g2⟩) ⟨y, hy, g3, g4⟩
theorem Whole.alloc {P : Int} {rl : List R} {sl : List S} (h : Whole P rl sl) {n cl : Int} {i : Nat} {x : R} (f : Fits rl n i x) (hn : 1 ≤ n) (c0 : 0 ≤ cl) (c7 : cl < 8) :
    okB ⟨x.1, n, cl⟩ P = true ∧ hitB sl ⟨x.1, n, cl⟩ = false ∧ Whole P (takeL rl n i x) (insL sl ⟨x.1, n, cl⟩) := by
  have hx := List.mem_of_getElem? f.at_
  have a := h.right.mem hx
  have b := f.big
  have ok : Ok P ⟨x.1, n, cl⟩ := ⟨by show 0 ≤ x.1; omega, hn, by show x.1 + n ≤ P; omega, c0, c7⟩
  have hit : hitB sl ⟨x.1, n, cl⟩ = false := by
    cases e : hitB sl ⟨x.1, n, cl⟩ with
    | false => rfl
    | true =>
      obtain ⟨y, hy, e1, e2⟩ := hit_some e
      have := h.apart hx (List.mem_of_getElem? hy)
      simp only at e1 e2
      omega
  refine ⟨of_ok ok, hit, h.pages, right_take h.right f hn, h.good.ins ok hit, fun g g0 g1 => ?_, ?_⟩
  · rw [has_take h.right f hn, in_ins]
    have o := h.one g g0 g1
    show _ ↔ ¬ ((x.1 ≤ g ∧ g < x.1 + n) ∨ inS sl g)
    by_cases d : x.1 ≤ g ∧ g < x.1 + n
    · rw [decide_eq_true d]; simp [d]
    · rw [decide_eq_false d, Bool.not_false, Bool.and_true, o]
      constructor
      · rintro k (m | m)
        · exact d m
        · exact k m
      · exact fun k m => k (.inr m)
  · rw [total_take f, sum_ins]
    have := h.sum
    show totalL rl - n + (sumN sl + n) = P
    omega
theorem Whole.free {P : Int} {rl : List R} {sl : List S} (h : Whole P rl sl) {q : Int} {s : S} (hs : begL sl q = some s) :
    Ok P s ∧ freeB rl s.a s.n = true ∧ Whole P (putL rl s.a s.n) (delL sl q) := by
  obtain ⟨ho, hq⟩ := beg_some hs
  have hm := List.mem_of_getElem? (of_some ho).1
  have ok := h.good.each s hm
  have fr : freeB rl s.a s.n = true := free_of fun x hx => h.apart hx hm
  refine ⟨ok, fr, h.pages, right_put h.right ok.a0 ok.a0 ok.n1 ok.up (free_mem fr), h.good.del q, fun g g0 g1 => ?_, ?_⟩
  · rw [has_put h.right ok.n1, in_del h.good ho]
    have o := h.one g g0 g1
    by_cases d : s.a ≤ g ∧ g < s.a + s.n
    · rw [decide_eq_true d]; simp [d]
    · rw [decide_eq_false d, Bool.or_false, o]
      exact ⟨fun k m => k m.1, fun k m => k ⟨m, d⟩⟩
  · rw [total_put, sum_del ho]
    have := h.sum
    omega
theorem total_first {p f : Int} {x : R} {t : List R} (h : Right p f (x :: t)) : totalL (x :: t) + x.1 ≤ p := by
  obtain ⟨a, b, c, d, e⟩ := h
  have := total_le e (by omega)
  simp only [totalL, List.map_cons, List.sum_cons] at this ⊢
  omega
/-- Where no page is in a span there is one run. -/
theorem Whole.back {P : Int} {rl : List R} (h : Whole P rl []) : rl = [(0, P)] := by
  have s := h.sum
  have r := h.right
  have p := h.pages
  simp only [sumN, Int.add_zero] at s
  cases rl with
  | nil => simp only [totalL, List.map_nil, List.sum_nil] at s; omega
  | cons x t =>
    have f := total_first r
    obtain ⟨a, b, c, d, e⟩ := r
    cases t with
    | nil =>
      simp only [totalL, List.map_cons, List.map_nil, List.sum_cons, List.sum_nil] at s
      obtain ⟨x1, x2⟩ := x
      simp only at *
      obtain rfl : x1 = 0 := by omega
      obtain rfl : x2 = P := by omega
      rfl
    | cons y u =>
      have g := total_first e
      have hy := e.2.2.2.1
      have : totalL (x :: y :: u) = x.2 + totalL (y :: u) := by simp only [totalL, List.map_cons, List.sum_cons]
      omega

/-! ### Alloc and Free -/
structure AnsA where
  x : Int
  e : Int
  rl : List R
  sl : List S
def allocA (rl : List R) (sl : List S) (n cl : Int) : AnsA :=
  if 0 ≤ cl ∧ cl < 8 ∧ 1 ≤ n then match fitAt rl n with
    | some (i, x) => ⟨x.1, 0, takeL rl n i x, insL sl ⟨x.1, n, cl⟩⟩
    | none => ⟨0, 3, rl, sl⟩
  else ⟨0, 1, rl, sl⟩
structure AnsF where
  x : S
  e : Int
  rl : List R
  sl : List S
def freeA (rl : List R) (sl : List S) (q : Int) : AnsF := match begL sl q with
  | some s => ⟨s, 0, putL rl s.a s.n, delL sl q⟩
  | none => ⟨noS, 2, rl, sl⟩
theorem Whole.allocA {P : Int} {rl : List R} {sl : List S} (h : Whole P rl sl) (n cl : Int) : Whole P (allocA rl sl n cl).rl (allocA rl sl n cl).sl := by
  unfold Go.Proofs.Ytdolchlhphoggaa.allocA
  split
  · rename_i c
    split
    · rename_i i x e
      exact (h.alloc (fit_at_some e) c.2.2 c.1 c.2.1).2.2
    · exact h
  · exact h
theorem Whole.freeA {P : Int} {rl : List R} {sl : List S} (h : Whole P rl sl) (q : Int) : Whole P (freeA rl sl q).rl (freeA rl sl q).sl := by
  unfold Go.Proofs.Ytdolchlhphoggaa.freeA
  split
  · rename_i s e
    exact (h.free e).2.2
  · exact h
end Go.Proofs.Ytdolchlhphoggaa
