/-
  Queues of pages as lists: whether two spans of eight pages have one in common, what Put, Next and Has answer. Own work; plain mathematics, of no program.
-/
namespace Go.Proofs.Ytjchdkjncfjibaa.Lq

/-- Have the spans at q and p a page in common? -/
def hitI (q p : Int) : Bool := decide (p < q + 8 ∧ q < p + 8)
def overI (l : List Int) (p : Int) : Bool := l.any fun q => hitI q p
/-- All are first pages of spans. -/
def MayL (l : List Int) : Prop := ∀ x ∈ l, 0 ≤ x ∧ x ≤ 248
def mayI (p : Int) : Bool := decide (0 ≤ p ∧ p ≤ 248)
/-- What Put answers. -/
def putC (on : Bool) (l : List Int) (p : Int) : Int := bif !on then 9 else bif !mayI p then 1 else bif overI l p then 4 else 0
def putL (on : Bool) (l : List Int) (p : Int) : List Int := bif on && mayI p && !overI l p then l ++ [p] else []
def putB (on : Bool) (l : List Int) (p : Int) : Bool := on && mayI p && !overI l p
theorem put_ways (on : Bool) (l : List Int) (p : Int) :
    (on = false ∧ putC on l p = 9 ∧ putL on l p = [] ∧ putB on l p = false) ∨
    (on = true ∧ mayI p = false ∧ putC on l p = 1 ∧ putL on l p = [] ∧ putB on l p = false) ∨
    (on = true ∧ mayI p = true ∧ overI l p = true ∧ putC on l p = 4 ∧ putL on l p = [] ∧ putB on l p = false) ∨
    (on = true ∧ mayI p = true ∧ overI l p = false ∧ putC on l p = 0 ∧ putL on l p = l ++ [p] ∧ putB on l p = true) := by
  unfold putC putL putB
  cases on
  · exact .inl ⟨rfl, rfl, rfl, rfl⟩
  · cases mayI p
    · exact .inr (.inl ⟨rfl, rfl, rfl, rfl, rfl⟩)
    · cases overI l p
      · exact .inr (.inr (.inr ⟨rfl, rfl, rfl, rfl, rfl, rfl⟩))
      · exact .inr (.inr (.inl ⟨rfl, rfl, rfl, rfl, rfl, rfl⟩))
/-- What Next answers: nothing of an empty queue. -/
def nextB (on : Bool) : List Int → Bool | [] => false | _ :: _ => on
def nextX : List Int → Int | [] => 0 | x :: _ => x
def nextK : List Int → Bool | [] => false | _ :: _ => true
theorem over_take {l : List Int} {p : Int} {k : Nat} {x : Int} (hx : l[k]? = some x) : overI (l.take (k + 1)) p = (overI (l.take k) p || hitI x p) := by
  unfold overI
  rw [List.take_add_one, hx]
  simp
theorem over_mem {l : List Int} {p x : Int} (hx : x ∈ l) (h : hitI x p = true) : overI l p = true := List.any_eq_true.2 ⟨x, hx, h⟩
theorem over_none {l : List Int} {p : Int} (h : overI l p = false) {x : Int} (hx : x ∈ l) : hitI x p = false := by
  cases e : hitI x p with
  | false => rfl
  | true => rw [over_mem hx e] at h; cases h
theorem hit_no {q p : Int} (h : hitI q p = false) : p + 8 ≤ q ∨ q + 8 ≤ p := by
  have := of_decide_eq_false h
  omega
theorem may_yes {p : Int} (h : mayI p = true) : 0 ≤ p ∧ p ≤ 248 := of_decide_eq_true h
theorem may_no {p : Int} (h : mayI p = false) : p < 0 ∨ 248 < p := by
  have := of_decide_eq_false h
  omega
theorem MayL.nil : MayL [] := fun _ h => by cases h
theorem MayL.put {l : List Int} {p : Int} (h : MayL l) (hp : mayI p = true) : MayL (l ++ [p]) := fun x hx => by
  rcases List.mem_append.1 hx with hx | hx
  · exact h x hx
  · obtain rfl := List.mem_singleton.1 hx; exact may_yes hp
theorem MayL.tail {a : Int} {l : List Int} (h : MayL (a :: l)) : MayL l := fun x hx => h x (List.mem_cons_of_mem _ hx)
theorem MayL.putL {on : Bool} {l : List Int} {p : Int} (h : MayL l) : MayL (putL on l p) := by
  rcases put_ways on l p with ⟨_, _, e, _⟩ | ⟨_, _, _, e, _⟩ | ⟨_, _, _, _, e, _⟩ | ⟨_, m, _, _, e, _⟩
  · rw [e]; exact MayL.nil
  · rw [e]; exact MayL.nil
  · rw [e]; exact MayL.nil
  · rw [e]; exact h.put m

theorem putL_length (on : Bool) (l : List Int) (p : Int) : (putL on l p).length ≤ l.length + 1 := by
  rcases put_ways on l p with ⟨_, _, e, _⟩ | ⟨_, _, _, e, _⟩ | ⟨_, _, _, _, e, _⟩ | ⟨_, _, _, _, e, _⟩ <;> rw [e] <;> simp
/-! ### Queues no two of whose spans have a page in common -/
/-- A right queue: each page is a span's first, no two spans have a page in common. -/
def Apart : List Int → Prop
  | [] => True
  | a :: t => (0 ≤ a ∧ a ≤ 248) ∧ (∀ x ∈ t, hitI a x = false) ∧ Apart t
theorem Apart.may : ∀ {l : List Int}, Apart l → MayL l
  | [], _ => MayL.nil
  | a :: t, h => fun x hx => by
    rcases List.mem_cons.1 hx with rfl | hx
    · exact h.1
    · exact Apart.may h.2.2 x hx
theorem hit_comm (a b : Int) : hitI a b = hitI b a := by
  unfold hitI
  exact decide_eq_decide.mpr ⟨fun h => ⟨h.2, h.1⟩, fun h => ⟨h.2, h.1⟩⟩
theorem Apart.put : ∀ {l : List Int} {p : Int}, Apart l → mayI p = true → overI l p = false → Apart (l ++ [p])
  | [], p, _, m, _ => ⟨may_yes m, fun _ h => by (cases h), trivial⟩
  | a :: t, p, h, m, o => by
    have o1 := over_none o (List.mem_cons_self (a := a) (l := t))
    have o2 : overI t p = false := by
      cases e : overI t p with
      | false => rfl
      | true =>
        obtain ⟨x, hx, hh⟩ := List.any_eq_true.1 e
        rw [over_mem (List.mem_cons_of_mem a hx) hh] at o
        cases o
    refine ⟨h.1, fun x hx => ?_, Apart.put h.2.2 m o2⟩
    rcases List.mem_append.1 hx with hx | hx
    · exact h.2.1 x hx
    · obtain rfl := List.mem_singleton.1 hx; exact o1
theorem hit_self (a : Int) : hitI a a = true := decide_eq_true ⟨by omega, by omega⟩
theorem Apart.notin {a : Int} {t : List Int} (h : Apart (a :: t)) : a ∉ t := fun m => by
  have := h.2.1 a m
  rw [hit_self] at this
  cases this
theorem Apart.nodup : ∀ {l : List Int}, Apart l → l.Nodup
  | [], _ => List.nodup_nil
  | _ :: _, h => List.nodup_cons.2 ⟨Apart.notin h, Apart.nodup h.2.2⟩
theorem Apart.putL {l : List Int} {p : Int} (h : Apart l) : Apart (putL true l p) := by
  rcases put_ways true l p with ⟨_, _, e, _⟩ | ⟨_, _, _, e, _⟩ | ⟨_, _, _, _, e, _⟩ | ⟨_, m, o, _, e, _⟩
  · rw [e]; trivial
  · rw [e]; trivial
  · rw [e]; trivial
  · rw [e]; exact h.put m o
theorem nodup_len : ∀ (n : Nat) (l : List Int), l.Nodup → (∀ a ∈ l, 0 ≤ a ∧ a < (n : Int)) → l.length ≤ n := by
  intro n
  induction n with
  | zero => intro l _ h; cases l with | nil => simp | cons a t => have := h a (by simp); omega
  | succ n ih =>
    intro l hd h
    have hd' := hd.erase (n : Int)
    have := ih (l.erase (n : Int)) hd' (fun a ha => by
      have ne := (hd.mem_erase_iff).1 ha
      have := h a ne.2
      have := ne.1
      omega)
    rw [List.length_erase] at this
    split at this <;> omega
theorem Apart.few {l : List Int} (h : Apart l) : l.length ≤ 249 := nodup_len 249 l h.nodup fun a ha => by have := h.may a ha; omega

/-! ### What numbers make -/
def stepL (l : List Int) (p : Int) : List Int := if putC true l p = 0 then putL true l p else l
def makeL (l : List Int) (ps : List Int) : List Int := ps.foldl stepL l
theorem Apart.step {l : List Int} {p : Int} (h : Apart l) : Apart (stepL l p) := by
  unfold stepL
  split
  · exact h.putL
  · exact h
theorem Apart.make : ∀ (ps : List Int) {l : List Int}, Apart l → Apart (makeL l ps)
  | [], _, h => h
  | p :: t, _, h => Apart.make t (h.step (p := p))
theorem make_take {l ps : List Int} {k : Nat} {x : Int} (hx : ps[k]? = some x) : makeL l (ps.take (k + 1)) = stepL (makeL l (ps.take k)) x := by
  unfold makeL
  rw [List.take_add_one, hx]
  simp
end Go.Proofs.Ytjchdkjncfjibaa.Lq
