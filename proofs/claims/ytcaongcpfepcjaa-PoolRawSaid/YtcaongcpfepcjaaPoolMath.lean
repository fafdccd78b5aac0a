/-
  A pool as a list of spans with their free stacks, with no program in sight: what is added, taken, put; which list may be (GoodP); the chains of a list in words (Chs). Own work; nothing is assumed.
-/
import Derived.Test.YtcaongcpfepcjaaRows
import Derived.Test.YtcaongcpfepcjaaSizeMath
import Derived.Test.YtcaongcpfepcjaaChainMath
namespace Go.Proofs.Ytcaongcpfepcjaa.Prt

/-- A span: its first page, its free stacks, the chain's first one first. -/
structure Q where
  page : Nat
  free : List Nat
def wN (c : Nat) : Nat := if c = 0 then 32 else if c = 1 then 64 else if c = 2 then 128 else 256
def perN (c : Nat) : Nat := if c = 0 then 16 else if c = 1 then 8 else if c = 2 then 4 else 2
theorem c_ways {c : Nat} (h : c < 4) : (c = 0 ∧ wN c = 32 ∧ perN c = 16) ∨ (c = 1 ∧ wN c = 64 ∧ perN c = 8) ∨ (c = 2 ∧ wN c = 128 ∧ perN c = 4) ∨ (c = 3 ∧ wN c = 256 ∧ perN c = 2) := by
  rcases (show c = 0 ∨ c = 1 ∨ c = 2 ∨ c = 3 by omega) with rfl | rfl | rfl | rfl
  · exact .inl ⟨rfl, rfl, rfl⟩
  · exact .inr (.inl ⟨rfl, rfl, rfl⟩)
  · exact .inr (.inr (.inl ⟨rfl, rfl, rfl⟩))
  · exact .inr (.inr (.inr ⟨rfl, rfl, rfl⟩))
theorem wordsI_c {c : Nat} (h : c < 4) : wordsI (c : Int) = ((wN c : Nat) : Int) := by
  rcases (show c = 0 ∨ c = 1 ∨ c = 2 ∨ c = 3 by omega) with rfl | rfl | rfl | rfl <;> decide
theorem perI_c {c : Nat} (h : c < 4) : perI (c : Int) = ((perN c : Nat) : Int) := by
  rcases (show c = 0 ∨ c = 1 ∨ c = 2 ∨ c = 3 by omega) with rfl | rfl | rfl | rfl <;> decide
theorem w_pos {c : Nat} (h : c < 4) : 0 < wN c := by rcases c_ways h with ⟨_, e, _⟩ | ⟨_, e, _⟩ | ⟨_, e, _⟩ | ⟨_, e, _⟩ <;> omega
theorem w_le {c : Nat} (h : c < 4) : wN c ≤ 256 := by rcases c_ways h with ⟨_, e, _⟩ | ⟨_, e, _⟩ | ⟨_, e, _⟩ | ⟨_, e, _⟩ <;> omega
theorem per_pos {c : Nat} (h : c < 4) : 0 < perN c ∧ perN c ≤ 16 := by rcases c_ways h with ⟨_, _, e⟩ | ⟨_, _, e⟩ | ⟨_, _, e⟩ | ⟨_, _, e⟩ <;> omega
theorem w_per {c : Nat} (h : c < 4) : perN c * wN c = 512 := by
  rcases (show c = 0 ∨ c = 1 ∨ c = 2 ∨ c = 3 by omega) with rfl | rfl | rfl | rfl <;> decide

/-! ### Where stacks begin -/
/-- Does a stack of the span at page begin at a? -/
def atB (c page : Nat) (a : Int) : Bool := decide (((page * 64 : Nat) : Int) ≤ a ∧ a < ((page * 64 + 512 : Nat) : Int) ∧ (a - ((page * 64 : Nat) : Int)) % ((wN c : Nat) : Int) = 0)
def stk (c page i : Nat) : Nat := page * 64 + i * wN c
theorem mul_lt_of {i n w : Nat} (h : i < n) : i * w + w ≤ n * w := by
  have : (i + 1) * w ≤ n * w := Nat.mul_le_mul_right w h
  rw [Nat.add_mul, Nat.one_mul] at this
  exact this
theorem stk_lt {c page i : Nat} (h : c < 4) (hi : i < perN c) : stk c page i + wN c ≤ page * 64 + 512 := by
  have := mul_lt_of (w := wN c) hi
  have := w_per h
  unfold stk
  omega
theorem at_stk {c page i : Nat} (h : c < 4) (hi : i < perN c) : atB c page ((stk c page i : Nat) : Int) = true := by
  have h1 := stk_lt (page := page) h hi
  have h2 := w_pos h
  refine decide_eq_true ⟨?_, ?_, ?_⟩
  · unfold stk; omega
  · omega
  · unfold stk
    rw [show ((page * 64 + i * wN c : Nat) : Int) - ((page * 64 : Nat) : Int) = ((i * wN c : Nat) : Int) by omega]
    rw [← Int.natCast_emod, Nat.mul_mod_left]
    rfl
theorem of_at {c page : Nat} {a : Int} (h : c < 4) (e : atB c page a = true) : ∃ i, i < perN c ∧ a = ((stk c page i : Nat) : Int) := by
  obtain ⟨h1, h2, h3⟩ := of_decide_eq_true e
  obtain ⟨d, hd⟩ : ∃ d : Nat, a - ((page * 64 : Nat) : Int) = (d : Int) := ⟨(a - ((page * 64 : Nat) : Int)).toNat, by omega⟩
  rw [hd, ← Int.natCast_emod] at h3
  have h4 : d % wN c = 0 := by omega
  have h5 := Nat.div_add_mod d (wN c)
  rw [h4, Nat.add_zero, Nat.mul_comm] at h5
  refine ⟨d / wN c, ?_, by unfold stk; omega⟩
  have := w_per h
  rw [Nat.div_lt_iff_lt_mul (w_pos h)]
  omega
theorem at_range {c page : Nat} {a : Int} (e : atB c page a = true) : ((page * 64 : Nat) : Int) ≤ a ∧ a < ((page * 64 + 512 : Nat) : Int) := by
  obtain ⟨h1, h2, h3⟩ := of_decide_eq_true e
  exact ⟨h1, h2⟩
theorem at_no {c page page' : Nat} {a : Int} (e : atB c page a = true) (h : page + 8 ≤ page' ∨ page' + 8 ≤ page) : atB c page' a = false := by
  have h1 := at_range e
  refine decide_eq_false fun h2 => ?_
  omega
/-- All stacks of a span. -/
def allQ (c page : Nat) : List Nat := (List.range (perN c)).map (stk c page)
theorem allQ_length (c page : Nat) : (allQ c page).length = perN c := by unfold allQ; simp
theorem allQ_at {c page : Nat} (h : c < 4) : ∀ a ∈ allQ c page, atB c page (a : Int) = true := by
  intro a ha
  unfold allQ at ha
  obtain ⟨i, hi, rfl⟩ := List.mem_map.1 ha
  exact at_stk h (List.mem_range.1 hi)
theorem stk_inj {c page i j : Nat} (h : c < 4) (e : stk c page i = stk c page j) : i = j := by
  unfold stk at e
  exact Nat.eq_of_mul_eq_mul_right (w_pos h) (by omega)
theorem nodup_map_on {α β : Type} {f : α → β} : ∀ {l : List α}, l.Nodup → (∀ a ∈ l, ∀ b ∈ l, f a = f b → a = b) → (l.map f).Nodup := by
  intro l
  induction l with
  | nil => intros; exact List.nodup_nil
  | cons x t ih =>
    intro hd hf
    rw [List.map_cons, List.nodup_cons]
    rw [List.nodup_cons] at hd
    refine ⟨fun hm => ?_, ih hd.2 (fun a ha b hb => hf a (List.mem_cons_of_mem _ ha) b (List.mem_cons_of_mem _ hb))⟩
    obtain ⟨y, hy, e⟩ := List.mem_map.1 hm
    have := hf y (List.mem_cons_of_mem _ hy) x List.mem_cons_self e
    subst this
    exact hd.1 hy
theorem allQ_nodup {c page : Nat} (h : c < 4) : (allQ c page).Nodup := nodup_map_on List.nodup_range (fun _ _ _ _ e => stk_inj h e)
/-- As many free ones as there are stacks at most. -/
theorem free_len {c page : Nat} {l : List Nat} (h : c < 4) (hd : l.Nodup) (ha : ∀ a ∈ l, atB c page (a : Int) = true) : l.length ≤ perN c := by
  have hk : ∀ a ∈ l, ∃ i, i < perN c ∧ a = stk c page i := fun a m => by
    obtain ⟨i, hi, e⟩ := of_at h (ha a m)
    exact ⟨i, hi, by exact_mod_cast e⟩
  have e : ∀ i, (stk c page i - page * 64) / wN c = i := fun i => by
    unfold stk
    rw [Nat.add_sub_cancel_left, Nat.mul_div_cancel _ (w_pos h)]
  have := nodup_length (perN c) (l.map fun a => (a - page * 64) / wN c) (nodup_map_on hd fun a m b n f => by
    obtain ⟨i, _, rfl⟩ := hk a m
    obtain ⟨j, _, rfl⟩ := hk b n
    simp only [e] at f
    rw [f]) (fun a m => by
    obtain ⟨b, hb, rfl⟩ := List.mem_map.1 m
    obtain ⟨i, hi, rfl⟩ := hk b hb
    simp only [e]
    exact hi)
  simpa using this

/-! ### Lists that may be -/
structure GoodP (P c : Nat) (L : List Q) : Prop where
  cls : c < 4
  inP : ∀ x ∈ L, x.page + 8 ≤ P
  asc : L.Pairwise (fun x y => x.page + 8 ≤ y.page)
  stks : ∀ x ∈ L, ∀ a ∈ x.free, atB c x.page (a : Int) = true
  nod : ∀ x ∈ L, x.free.Nodup
theorem GoodP.nil {P c : Nat} (h : c < 4) : GoodP P c [] := ⟨h, fun _ h => (by cases h), List.Pairwise.nil, fun _ h => (by cases h), fun _ h => (by cases h)⟩
theorem GoodP.few {P c : Nat} {L : List Q} (g : GoodP P c L) {x : Q} (hx : x ∈ L) : x.free.length ≤ perN c := free_len g.cls (g.nod x hx) (g.stks x hx)
theorem pages_len {P : Nat} : ∀ (L : List Q) (lo : Nat), lo ≤ P → (∀ x ∈ L, lo ≤ x.page ∧ x.page + 8 ≤ P) → L.Pairwise (fun x y => x.page + 8 ≤ y.page) → lo + L.length * 8 ≤ P := by
  intro L
  induction L with
  | nil => intro lo h _ _; simpa using h
  | cons x t ih =>
    intro lo h hx hp
    rw [List.pairwise_cons] at hp
    have h0 := hx x List.mem_cons_self
    have := ih (x.page + 8) h0.2 (fun y hy => ⟨hp.1 y hy, (hx y (List.mem_cons_of_mem _ hy)).2⟩) hp.2
    simp only [List.length_cons]
    omega
theorem GoodP.len {P c : Nat} {L : List Q} (g : GoodP P c L) : L.length * 8 ≤ P := by
  have := pages_len L 0 (Nat.zero_le _) (fun x hx => ⟨Nat.zero_le _, g.inP x hx⟩) g.asc
  omega
theorem GoodP.lt {P c : Nat} {L : List Q} (g : GoodP P c L) {x : Q} (hx : x ∈ L) {a : Nat} (ha : a ∈ x.free) : a < P * 64 := by
  have h1 := at_range (g.stks x hx a ha)
  have h2 := g.inP x hx
  omega
/-- Two spans at unlike places. -/
theorem GoodP.two {P c : Nat} {L : List Q} (g : GoodP P c L) {i j : Nat} {x y : Q} (hx : L[i]? = some x) (hy : L[j]? = some y) (ne : i < j) : x.page + 8 ≤ y.page := by
  obtain ⟨hi, rfl⟩ := List.getElem?_eq_some_iff.1 hx
  obtain ⟨hj, rfl⟩ := List.getElem?_eq_some_iff.1 hy
  exact List.pairwise_iff_getElem.1 g.asc i j hi hj ne
theorem GoodP.apart {P c : Nat} {L : List Q} (g : GoodP P c L) {i j : Nat} {x y : Q} (hx : L[i]? = some x) (hy : L[j]? = some y) (ne : i ≠ j) : x.page + 8 ≤ y.page ∨ y.page + 8 ≤ x.page := by
  rcases Nat.lt_or_ge i j with h | h
  · exact .inl (g.two hx hy h)
  · exact .inr (g.two hy hx (by omega))
theorem mem_set {α : Type} {l : List α} {i : Nat} {v x : α} (h : x ∈ l.set i v) : (x = v ∧ i < l.length) ∨ ∃ j, j ≠ i ∧ l[j]? = some x := by
  obtain ⟨j, hj⟩ := List.getElem?_of_mem h
  rw [List.getElem?_set] at hj
  by_cases e : i = j
  · rw [if_pos e] at hj
    by_cases d : i < l.length
    · rw [if_pos d] at hj
      exact .inl ⟨(Option.some.inj hj).symm, d⟩
    · rw [if_neg d] at hj; cases hj
  · rw [if_neg e] at hj
    exact .inr ⟨j, fun f => e f.symm, hj⟩
/-- Another free list at one place. -/
theorem GoodP.turn {P c : Nat} {L : List Q} (g : GoodP P c L) {i : Nat} {x : Q} (hx : L[i]? = some x) (f : List Nat) (h1 : ∀ a ∈ f, atB c x.page (a : Int) = true) (h2 : f.Nodup) : GoodP P c (L.set i ⟨x.page, f⟩) := by
  have hm := List.mem_of_getElem? hx
  refine ⟨g.cls, fun y hy => ?_, ?_, fun y hy => ?_, fun y hy => ?_⟩
  · rcases mem_set hy with ⟨rfl, _⟩ | ⟨j, _, hj⟩
    · exact g.inP x hm
    · exact g.inP y (List.mem_of_getElem? hj)
  · rw [List.pairwise_iff_getElem]
    intro a b ha hb hab
    have e : ∀ k (hk : k < (L.set i ⟨x.page, f⟩).length), ((L.set i ⟨x.page, f⟩)[k]).page = (L[k]'(by simpa using hk)).page := by
      intro k hk
      rw [List.getElem_set]
      by_cases d : i = k
      · rw [if_pos d]
        subst d
        have : L[i]? = some (L[i]'(by simpa using hk)) := List.getElem?_eq_getElem _
        rw [hx] at this
        rw [← Option.some.inj this]
      · rw [if_neg d]
    rw [e a ha, e b hb]
    exact List.pairwise_iff_getElem.1 g.asc a b (by simpa using ha) (by simpa using hb) hab
  · rcases mem_set hy with ⟨rfl, _⟩ | ⟨j, _, hj⟩
    · exact h1
    · exact g.stks y (List.mem_of_getElem? hj)
  · rcases mem_set hy with ⟨rfl, _⟩ | ⟨j, _, hj⟩
    · exact h2
    · exact g.nod y (List.mem_of_getElem? hj)
theorem GoodP.sub {P c : Nat} {L M : List Q} (g : GoodP P c L) (h : M.Sublist L) : GoodP P c M :=
  ⟨g.cls, fun x hx => g.inP x (h.subset hx), g.asc.sublist h, fun x hx => g.stks x (h.subset hx), fun x hx => g.nod x (h.subset hx)⟩

/-! ### Add -/
/-- Where the span from p on belongs; none: it has a page in common with one. -/
def placeQ (p : Nat) : List Q → Option Nat
  | [] => some 0
  | x :: t => if p + 8 ≤ x.page then some 0 else if p < x.page + 8 then none else (placeQ p t).map (· + 1)
theorem placeQ_some {p : Nat} : ∀ {L : List Q} {i : Nat}, placeQ p L = some i → L.Pairwise (fun x y => x.page + 8 ≤ y.page) → i ≤ L.length ∧ (∀ x ∈ L.take i, x.page + 8 ≤ p) ∧ ∀ x ∈ L.drop i, p + 8 ≤ x.page := by
  intro L
  induction L with
  | nil => intro i h _; obtain rfl := Option.some.inj h; exact ⟨Nat.le_refl _, fun x hx => (by cases hx), fun x hx => (by cases hx)⟩
  | cons x t ih =>
    intro i h hp
    rw [List.pairwise_cons] at hp
    unfold placeQ at h
    split at h
    · rename_i hle
      obtain rfl := Option.some.inj h
      refine ⟨Nat.zero_le _, fun y hy => (by cases hy), fun y hy => ?_⟩
      rcases List.mem_cons.1 hy with rfl | hy
      · exact hle
      · have := hp.1 y hy; omega
    · split at h
      · cases h
      · obtain ⟨j, hj, rfl⟩ := Option.map_eq_some_iff.1 h
        obtain ⟨h1, h2, h3⟩ := ih hj hp.2
        refine ⟨by simp; omega, fun y hy => ?_, fun y hy => h3 y hy⟩
        rw [List.take_succ_cons] at hy
        rcases List.mem_cons.1 hy with rfl | hy
        · omega
        · exact h2 y hy
/-- How far the search has come. -/
theorem placeQ_go {p : Nat} : ∀ {L : List Q} {k : Nat}, k ≤ L.length → (∀ x ∈ L.take k, x.page + 8 ≤ p) → placeQ p L = (placeQ p (L.drop k)).map (· + k) := by
  intro L
  induction L with
  | nil => intro k hk _; simp at hk; subst hk; simp [placeQ]
  | cons x t ih =>
    intro k hk h
    cases k with
    | zero => simp
    | succ k =>
      rw [List.take_succ_cons] at h
      have h0 := h x List.mem_cons_self
      show (if p + 8 ≤ x.page then some 0 else if p < x.page + 8 then none else (placeQ p t).map (· + 1)) = _
      rw [if_neg (by omega), if_neg (by omega), ih (by simpa using hk) (fun y hy => h y (List.mem_cons_of_mem _ hy)), List.drop_succ_cons, Option.map_map]
      congr 1
theorem drop_at {α : Type} {L : List α} {k : Nat} {x : α} (h : L[k]? = some x) : L.drop k = x :: L.drop (k + 1) := by
  obtain ⟨hk, rfl⟩ := List.getElem?_eq_some_iff.1 h
  exact List.drop_eq_getElem_cons hk
theorem take_at {α : Type} {L : List α} {k : Nat} {x : α} (h : L[k]? = some x) : L.take (k + 1) = L.take k ++ [x] := by
  rw [List.take_add_one, h]; rfl
theorem placeQ_here {p k : Nat} {L : List Q} {x : Q} (hx : L[k]? = some x) (h : ∀ y ∈ L.take k, y.page + 8 ≤ p) (hp : p + 8 ≤ x.page) : placeQ p L = some k := by
  rw [placeQ_go (by have := (List.getElem?_eq_some_iff.1 hx).1; omega) h, drop_at hx]
  show Option.map (· + k) (if p + 8 ≤ x.page then some 0 else _) = _
  rw [if_pos hp]
  simp
theorem placeQ_hit {p k : Nat} {L : List Q} {x : Q} (hx : L[k]? = some x) (h : ∀ y ∈ L.take k, y.page + 8 ≤ p) (hp : ¬ p + 8 ≤ x.page) (hq : p < x.page + 8) : placeQ p L = none := by
  rw [placeQ_go (by have := (List.getElem?_eq_some_iff.1 hx).1; omega) h, drop_at hx]
  show Option.map (· + k) (if p + 8 ≤ x.page then some 0 else if p < x.page + 8 then none else _) = _
  rw [if_neg hp, if_pos hq]
  rfl
theorem placeQ_end {p : Nat} {L : List Q} (h : ∀ y ∈ L.take L.length, y.page + 8 ≤ p) : placeQ p L = some L.length := by
  rw [placeQ_go (Nat.le_refl _) h, List.drop_length]
  simp [placeQ]
def insQ (c : Nat) (L : List Q) (i p : Nat) : List Q := L.take i ++ ⟨p, allQ c p⟩ :: L.drop i
theorem GoodP.ins {P c : Nat} {L : List Q} (g : GoodP P c L) {p i : Nat} (hi : placeQ p L = some i) (hp : p + 8 ≤ P) : GoodP P c (insQ c L i p) := by
  obtain ⟨h1, h2, h3⟩ := placeQ_some hi g.asc
  have hm : ∀ x ∈ insQ c L i p, x = ⟨p, allQ c p⟩ ∨ x ∈ L := fun x hx => by
    rcases List.mem_append.1 hx with hx | hx
    · exact .inr (List.mem_of_mem_take hx)
    · rcases List.mem_cons.1 hx with hx | hx
      · exact .inl hx
      · exact .inr (List.mem_of_mem_drop hx)
  refine ⟨g.cls, fun x hx => ?_, ?_, fun x hx => ?_, fun x hx => ?_⟩
  · rcases hm x hx with rfl | hx
    · exact hp
    · exact g.inP x hx
  · refine List.pairwise_append.2 ⟨g.asc.sublist (List.take_sublist _ _), List.pairwise_cons.2 ⟨fun y hy => h3 y hy, g.asc.sublist (List.drop_sublist _ _)⟩, fun x hx y hy => ?_⟩
    rcases List.mem_cons.1 hy with rfl | hy
    · exact h2 x hx
    · have := h2 x hx; have := h3 y hy; omega
  · rcases hm x hx with rfl | hx
    · exact allQ_at g.cls
    · exact g.stks x hx
  · rcases hm x hx with rfl | hx
    · exact allQ_nodup g.cls
    · exact g.nod x hx
/-- Add's code, and the list behind it. -/
def addC (P : Nat) (L : List Q) (p : Int) : Int := if p < 0 ∨ (P : Int) - 8 < p then 1 else match placeQ p.toNat L with | none => 4 | some _ => 0
def addL (P c : Nat) (L : List Q) (p : Int) : List Q := if p < 0 ∨ (P : Int) - 8 < p then L else match placeQ p.toNat L with | none => L | some i => insQ c L i p.toNat
theorem GoodP.add {P c : Nat} {L : List Q} (g : GoodP P c L) (p : Int) : GoodP P c (addL P c L p) := by
  unfold addL
  split
  · exact g
  · rename_i h
    split
    · exact g
    · rename_i i hi
      exact g.ins hi (by omega)

/-! ### Take -/
def takeQ : List Q → Option (Nat × List Q)
  | [] => none
  | x :: t => match x.free with
    | [] => (takeQ t).map fun r => (r.1, x :: r.2)
    | a :: r => some (a, ⟨x.page, r⟩ :: t)
theorem takeQ_none : ∀ {L : List Q}, (∀ x ∈ L, x.free = []) → takeQ L = none := by
  intro L
  induction L with
  | nil => intro _; rfl
  | cons x t ih =>
    intro h
    unfold takeQ
    rw [h x List.mem_cons_self]
    simp only []
    rw [ih (fun y hy => h y (List.mem_cons_of_mem _ hy))]
    rfl
theorem takeQ_at : ∀ {L : List Q} {k p a : Nat} {r : List Nat}, (∀ x ∈ L.take k, x.free = []) → L[k]? = some ⟨p, a :: r⟩ → takeQ L = some (a, L.set k ⟨p, r⟩) := by
  intro L
  induction L with
  | nil => intro k p a r _ h; cases h
  | cons x t ih =>
    intro k p a r h hk
    cases k with
    | zero =>
      simp only [List.getElem?_cons_zero, Option.some.injEq] at hk
      subst hk
      rfl
    | succ k =>
      rw [List.take_succ_cons] at h
      unfold takeQ
      rw [h x List.mem_cons_self]
      simp only []
      rw [ih (fun y hy => h y (List.mem_cons_of_mem _ hy)) (by simpa using hk)]
      rfl
/-- Take's ways. -/
theorem takeQ_ways : ∀ (L : List Q), (takeQ L = none ∧ ∀ x ∈ L, x.free = []) ∨ ∃ k p a r, (∀ x ∈ L.take k, x.free = []) ∧ L[k]? = some ⟨p, a :: r⟩ ∧ takeQ L = some (a, L.set k ⟨p, r⟩) := by
  intro L
  by_cases h : ∀ x ∈ L, x.free = []
  · exact .inl ⟨takeQ_none h, h⟩
  · refine .inr ?_
    have : ∃ k p a r, (∀ x ∈ L.take k, x.free = []) ∧ L[k]? = some (⟨p, a :: r⟩ : Q) := by
      induction L with
      | nil => exact absurd (fun _ h => (by cases h)) h
      | cons x t ih =>
        obtain ⟨p, f⟩ := x
        cases f with
        | cons a r => exact ⟨0, p, a, r, fun _ h => (by cases h), rfl⟩
        | nil =>
          obtain ⟨k, q, a, r, h1, h2⟩ := ih (fun hh => h fun y hy => by
            rcases List.mem_cons.1 hy with rfl | hy
            · rfl
            · exact hh y hy)
          refine ⟨k + 1, q, a, r, fun y hy => ?_, by simpa using h2⟩
          rw [List.take_succ_cons] at hy
          rcases List.mem_cons.1 hy with rfl | hy
          · rfl
          · exact h1 y hy
    obtain ⟨k, p, a, r, h1, h2⟩ := this
    exact ⟨k, p, a, r, h1, h2, takeQ_at h1 h2⟩
def takeA (L : List Q) : Int := match takeQ L with | none => 0 | some r => (r.1 : Nat)
def takeC (L : List Q) : Int := match takeQ L with | none => 2 | some _ => 0
def takeL (L : List Q) : List Q := match takeQ L with | none => L | some r => r.2
theorem GoodP.take {P c : Nat} {L : List Q} (g : GoodP P c L) : GoodP P c (takeL L) := by
  unfold takeL
  rcases takeQ_ways L with ⟨e, _⟩ | ⟨k, p, a, r, _, hk, e⟩
  · rw [e]; exact g
  · rw [e]
    have hm := List.mem_of_getElem? hk
    exact g.turn hk r (fun b hb => g.stks _ hm b (List.mem_cons_of_mem _ hb)) (List.nodup_cons.1 (g.nod _ hm)).2

/-! ### Put -/
def findQ (c : Nat) (a : Int) : List Q → Option Nat
  | [] => none
  | x :: t => if atB c x.page a = true then some 0 else (findQ c a t).map (· + 1)
theorem findQ_none {c : Nat} {a : Int} : ∀ {L : List Q}, (∀ x ∈ L, atB c x.page a = false) → findQ c a L = none := by
  intro L
  induction L with
  | nil => intro _; rfl
  | cons x t ih =>
    intro h
    unfold findQ
    rw [h x List.mem_cons_self, if_neg (by decide), ih (fun y hy => h y (List.mem_cons_of_mem _ hy))]
    rfl
theorem findQ_at {c : Nat} {a : Int} : ∀ {L : List Q} {k : Nat} {x : Q}, (∀ y ∈ L.take k, atB c y.page a = false) → L[k]? = some x → atB c x.page a = true → findQ c a L = some k := by
  intro L
  induction L with
  | nil => intro k x _ h _; cases h
  | cons y t ih =>
    intro k x h hk hx
    cases k with
    | zero =>
      simp only [List.getElem?_cons_zero, Option.some.injEq] at hk
      subst hk
      unfold findQ
      rw [if_pos hx]
    | succ k =>
      rw [List.take_succ_cons] at h
      unfold findQ
      rw [h y List.mem_cons_self, if_neg (by decide), ih (fun z hz => h z (List.mem_cons_of_mem _ hz)) (by simpa using hk) hx]
      rfl
theorem findQ_ways {c : Nat} {a : Int} : ∀ (L : List Q), (findQ c a L = none ∧ ∀ x ∈ L, atB c x.page a = false) ∨ ∃ k x, (∀ y ∈ L.take k, atB c y.page a = false) ∧ L[k]? = some x ∧ atB c x.page a = true ∧ findQ c a L = some k := by
  intro L
  induction L with
  | nil => exact .inl ⟨rfl, fun _ h => (by cases h)⟩
  | cons y t ih =>
    cases h : atB c y.page a with
    | true => exact .inr ⟨0, y, fun _ h => (by cases h), rfl, h, by unfold findQ; rw [if_pos h]⟩
    | false =>
      have e : findQ c a (y :: t) = (findQ c a t).map (· + 1) := by
        show (if atB c y.page a = true then some 0 else (findQ c a t).map (· + 1)) = _
        rw [h]; rfl
      rcases ih with ⟨i1, i2⟩ | ⟨k, x, i1, i2, i3, i4⟩
      · refine .inl ⟨by rw [e, i1]; rfl, fun x hx => ?_⟩
        rcases List.mem_cons.1 hx with rfl | hx
        · exact h
        · exact i2 x hx
      · refine .inr ⟨k + 1, x, fun z hz => ?_, by simpa using i2, i3, by rw [e, i4]; rfl⟩
        rw [List.take_succ_cons] at hz
        rcases List.mem_cons.1 hz with rfl | hz
        · exact h
        · exact i1 z hz
/-- Put's answer: page, gone, code, the list behind it. -/
def putR (c : Nat) (L : List Q) (a : Int) : (Int × Bool × Int) × List Q :=
  match findQ c a L with
  | none => ((0, false, 1), L)
  | some k => match L[k]? with
    | none => ((0, false, 1), L)
    | some x => if a.toNat ∈ x.free then ((0, false, 4), L) else
      if x.free.length + 1 = perN c then ((((x.page : Nat) : Int), true, 0), L.take k ++ L.drop (k + 1)) else ((((x.page : Nat) : Int), false, 0), L.set k ⟨x.page, a.toNat :: x.free⟩)
abbrev putP (c : Nat) (L : List Q) (a : Int) : Int := (putR c L a).1.1
abbrev putG (c : Nat) (L : List Q) (a : Int) : Bool := (putR c L a).1.2.1
abbrev putC (c : Nat) (L : List Q) (a : Int) : Int := (putR c L a).1.2.2
abbrev putL (c : Nat) (L : List Q) (a : Int) : List Q := (putR c L a).2
theorem putR_none {c : Nat} {L : List Q} {a : Int} (h : ∀ x ∈ L, atB c x.page a = false) : putR c L a = ((0, false, 1), L) := by
  unfold putR; rw [findQ_none h]
theorem putR_at {c : Nat} {L : List Q} {a : Int} {k : Nat} {x : Q} (h : ∀ y ∈ L.take k, atB c y.page a = false) (hk : L[k]? = some x) (hx : atB c x.page a = true) :
    putR c L a = if a.toNat ∈ x.free then ((0, false, 4), L) else
      if x.free.length + 1 = perN c then ((((x.page : Nat) : Int), true, 0), L.take k ++ L.drop (k + 1)) else ((((x.page : Nat) : Int), false, 0), L.set k ⟨x.page, a.toNat :: x.free⟩) := by
  unfold putR; rw [findQ_at h hk hx]; simp only [hk]
theorem GoodP.put {P c : Nat} {L : List Q} (g : GoodP P c L) (a : Int) : GoodP P c (putL c L a) := by
  rcases findQ_ways (c := c) (a := a) L with ⟨_, h⟩ | ⟨k, x, h1, h2, h3, _⟩
  · unfold putL; rw [putR_none h]; exact g
  · unfold putL
    rw [putR_at h1 h2 h3]
    split
    · exact g
    · rename_i hn
      split
      · rw [← List.eraseIdx_eq_take_drop_succ]; exact g.sub (List.eraseIdx_sublist _ _)
      · have hm := List.mem_of_getElem? h2
        refine g.turn h2 _ (fun b hb => ?_) (List.nodup_cons.2 ⟨hn, g.nod x hm⟩)
        rcases List.mem_cons.1 hb with rfl | hb
        · have := at_range h3
          rw [show ((a.toNat : Nat) : Int) = a by omega]
          exact h3
        · exact g.stks x hm b hb

/-! ### Chains in words -/
def headQ : List Nat → Nat
  | [] => 0
  | a :: _ => a + 1
theorem Ch_head {ws : List Nat} {h : Nat} {l : List Nat} (c : Ch ws h l) : h = headQ l := by
  cases l with
  | nil => exact c
  | cons a t => exact c.1
/-- Each span's free ones are a chain in the words. -/
def Chs (ws : List Nat) (L : List Q) : Prop := ∀ x ∈ L, Ch ws (headQ x.free) x.free
theorem Chs.nil (ws : List Nat) : Chs ws [] := fun _ h => (by cases h)
theorem Chs.get {ws : List Nat} {L : List Q} (h : Chs ws L) {k : Nat} {x : Q} (hx : L[k]? = some x) : Ch ws (headQ x.free) x.free := h x (List.mem_of_getElem? hx)
/-- One is taken. -/
theorem Chs.take {ws : List Nat} {L : List Q} (h : Chs ws L) {k p a : Nat} {r : List Nat} (hk : L[k]? = some ⟨p, a :: r⟩) : ws[a]? = some (headQ r) ∧ headQ r ≤ ws.length ∧ Chs ws (L.set k ⟨p, r⟩) := by
  obtain ⟨_, x, hx, hl, hc⟩ := h.get hk
  have e := Ch_head hc
  subst e
  refine ⟨hx, hl, fun y hy => ?_⟩
  rcases mem_set hy with ⟨rfl, _⟩ | ⟨j, _, hj⟩
  · exact hc
  · exact h.get hj
/-- One is put. -/
theorem Chs.put {P c : Nat} {ws : List Nat} {L : List Q} (h : Chs ws L) (g : GoodP P c L) (hl : ws.length = P * 64) {k a : Nat} {x : Q} (hk : L[k]? = some x) (ha : atB c x.page (a : Int) = true) (hn : a ∉ x.free) : a < ws.length ∧ headQ x.free ≤ ws.length ∧ Chs (ws.set a (headQ x.free)) (L.set k ⟨x.page, a :: x.free⟩) ∧ Chs (ws.set a (headQ x.free)) (L.take k ++ L.drop (k + 1)) := by
  have hm := List.mem_of_getElem? hk
  have r1 := at_range ha
  have r2 := g.inP x hm
  have hlt : a < ws.length := by omega
  have hj' : ∀ j y, j ≠ k → L[j]? = some y → Ch (ws.set a (headQ x.free)) (headQ y.free) y.free := fun j y hj hy => by
    refine (h.get hy).far fun hay => ?_
    have := at_no ha (g.apart hk hy (fun e => hj e.symm))
    rw [g.stks y (List.mem_of_getElem? hy) a hay] at this
    cases this
  refine ⟨hlt, (h.get hk).le, fun y hy => ?_, fun y hy => ?_⟩
  · rcases mem_set hy with ⟨rfl, _⟩ | ⟨j, hj, hy⟩
    · exact (h.get hk).push hlt hn
    · exact hj' j y hj hy
  · rcases List.mem_append.1 hy with hy | hy
    · obtain ⟨j, hj⟩ := List.getElem?_of_mem hy
      rw [List.getElem?_take] at hj
      by_cases d : j < k
      · rw [if_pos d] at hj; exact hj' j y (by omega) hj
      · rw [if_neg d] at hj; cases hj
    · obtain ⟨j, hj⟩ := List.getElem?_of_mem hy
      rw [List.getElem?_drop] at hj
      exact hj' _ y (by omega) hj
/-- A span's stacks are laid from the last one on: those from k on are a chain; all chains elsewhere stand. -/
structure Laid (c page : Nat) (ws : List Nat) (k : Nat) (vs : List Nat) : Prop where
  len : vs.length = ws.length
  ch : Ch vs (headQ ((allQ c page).drop k)) ((allQ c page).drop k)
  far : ∀ h l, Ch ws h l → (∀ a ∈ l, a < page * 64 ∨ page * 64 + 512 ≤ a) → Ch vs h l
theorem Laid.start (c page : Nat) (ws : List Nat) : Laid c page ws (perN c) ws := by
  have e : (allQ c page).drop (perN c) = [] := List.drop_eq_nil_of_le (by rw [allQ_length]; exact Nat.le_refl _)
  exact ⟨rfl, by rw [e]; rfl, fun h l x _ => x⟩
theorem allQ_get {c page k : Nat} (h : k < perN c) : (allQ c page)[k]? = some (stk c page k) := by
  unfold allQ
  rw [List.getElem?_map, List.getElem?_range h]
  rfl
theorem Laid.step {c page k : Nat} {ws vs : List Nat} (h : Laid c page ws (k + 1) vs) (hc : c < 4) (hk : k < perN c) (hl : page * 64 + 512 ≤ ws.length) :
    stk c page k < vs.length ∧ headQ ((allQ c page).drop (k + 1)) ≤ vs.length ∧ Laid c page ws k (vs.set (stk c page k) (headQ ((allQ c page).drop (k + 1)))) ∧ headQ ((allQ c page).drop k) = stk c page k + 1 := by
  have h1 := stk_lt (page := page) hc hk
  have h2 := w_pos hc
  have hlt : stk c page k < vs.length := by rw [h.len]; omega
  have e := drop_at (allQ_get (page := page) hk)
  have nd := (allQ_nodup (page := page) hc).sublist (List.drop_sublist k _)
  rw [e, List.nodup_cons] at nd
  refine ⟨hlt, h.ch.le, ⟨by rw [List.length_set]; exact h.len, ?_, fun h' l x hx => (h.far h' l x hx).far fun m => ?_⟩, by rw [e]; rfl⟩
  · rw [e]
    exact h.ch.push hlt nd.1
  · have := hx _ m
    unfold stk at this h1
    omega
theorem Laid.chs {P c page i : Nat} {ws vs : List Nat} {L : List Q} (h : Laid c page ws 0 vs) (g : GoodP P c L) (hc : Chs ws L) (hi : placeQ page L = some i) : Chs vs (insQ c L i page) := by
  obtain ⟨h1, h2, h3⟩ := placeQ_some hi g.asc
  have far : ∀ x ∈ L, (x.page + 8 ≤ page ∨ page + 8 ≤ x.page) → Ch vs (headQ x.free) x.free := fun x hx hp => h.far _ _ (hc x hx) fun a ha => by
    have := at_range (g.stks x hx a ha)
    omega
  intro x hx
  rcases List.mem_append.1 hx with hx | hx
  · exact far x (List.mem_of_mem_take hx) (.inl (h2 x hx))
  · rcases List.mem_cons.1 hx with rfl | hx
    · simpa using h.ch
    · exact far x (List.mem_of_mem_drop hx) (.inr (h3 x hx))

/-! ### Spans, Free, Len -/
def freeL (L : List Q) : List Nat := L.flatMap Q.free
def lenL (L : List Q) : Nat := (freeL L).length
theorem freeL_take {L : List Q} {k : Nat} {x : Q} (h : L[k]? = some x) : freeL (L.take (k + 1)) = freeL (L.take k) ++ x.free := by
  unfold freeL; rw [take_at h, List.flatMap_append]; simp
theorem freeL_len {P c : Nat} {L : List Q} (g : GoodP P c L) : (freeL L).length ≤ L.length * 16 := by
  have : ∀ M : List Q, (∀ x ∈ M, x.free.length ≤ 16) → (freeL M).length ≤ M.length * 16 := by
    intro M
    induction M with
    | nil => intro _; simp [freeL]
    | cons x t ih =>
      intro h
      have h1 := ih (fun y hy => h y (List.mem_cons_of_mem _ hy))
      have h2 := h x List.mem_cons_self
      simp only [freeL, List.flatMap_cons, List.length_append, List.length_cons] at h1 ⊢
      omega
  exact this L fun x hx => Nat.le_trans (g.few hx) (per_pos g.cls).2
end Go.Proofs.Ytcaongcpfepcjaa.Prt
