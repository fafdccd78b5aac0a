/-
  Which stacks are out, which spans are there: two rows of truth values beside a list of spans (OnceInv), with no program in sight. Own work.
-/
import Derived.Test.YtmkkkifigeaalaaRows
import Derived.Test.YtmkkkifigeaalaaPoolLaw
namespace Go.Proofs.Ytmkkkifigeaalaa.Prt

theorem lenL_append (A B : List Q) : lenL (A ++ B) = lenL A + lenL B := by unfold lenL freeL; rw [List.flatMap_append, List.length_append]
theorem lenL_cons (x : Q) (t : List Q) : lenL (x :: t) = x.free.length + lenL t := by unfold lenL freeL; rw [List.flatMap_cons, List.length_append]
theorem split_at {α : Type} {L : List α} {k : Nat} {x : α} (h : L[k]? = some x) : L = L.take k ++ x :: L.drop (k + 1) := by
  rw [← drop_at h, List.take_append_drop]
theorem set_split {α : Type} {L : List α} {k : Nat} {x : α} (h : L[k]? = some x) (y : α) : L.set k y = L.take k ++ y :: L.drop (k + 1) := by
  have hk := (List.getElem?_eq_some_iff.1 h).1
  rw [List.set_eq_take_append_cons_drop, if_pos hk]
theorem lenL_at {L : List Q} {k : Nat} {x : Q} (h : L[k]? = some x) : lenL L = lenL (L.take k) + x.free.length + lenL (L.drop (k + 1)) := by
  have := congrArg lenL (split_at h)
  rw [lenL_append, lenL_cons] at this
  omega
theorem lenL_set {L : List Q} {k : Nat} {x : Q} (h : L[k]? = some x) (y : Q) : lenL (L.set k y) = lenL (L.take k) + y.free.length + lenL (L.drop (k + 1)) := by
  rw [set_split h, lenL_append, lenL_cons]; omega
theorem lenL_del {L : List Q} {k : Nat} : lenL (L.take k ++ L.drop (k + 1)) = lenL (L.take k) + lenL (L.drop (k + 1)) := lenL_append _ _
theorem lenL_ins {c i p : Nat} {L : List Q} : lenL (insQ c L i p) = lenL L + perN c := by
  unfold insQ
  rw [lenL_append, lenL_cons, allQ_length]
  have := congrArg lenL (List.take_append_drop i L)
  rw [lenL_append] at this
  omega
theorem lenL_le {n : Nat} : ∀ {L : List Q}, (∀ x ∈ L, x.free.length ≤ n) → lenL L ≤ L.length * n := by
  intro L
  induction L with
  | nil => intro _; simp [lenL, freeL]
  | cons x t ih =>
    intro h
    have h1 := ih (fun y hy => h y (List.mem_cons_of_mem _ hy))
    have h2 := h x List.mem_cons_self
    rw [lenL_cons, List.length_cons, Nat.add_mul, Nat.one_mul]
    omega
theorem mem_at {α : Type} {L : List α} {k : Nat} {x : α} (h : L[k]? = some x) (y : α) : y ∈ L ↔ y ∈ L.take k ∨ y = x ∨ y ∈ L.drop (k + 1) := by
  have := congrArg (fun l => y ∈ l) (split_at h)
  simp only [List.mem_append, List.mem_cons] at this
  exact iff_of_eq this
theorem mem_set_at {α : Type} {L : List α} {k : Nat} {x z : α} (h : L[k]? = some x) (y : α) : y ∈ L.set k z ↔ y ∈ L.take k ∨ y = z ∨ y ∈ L.drop (k + 1) := by
  rw [set_split h]
  simp only [List.mem_append, List.mem_cons]
/-- One of a list that is not the k-th stands at another place. -/
theorem GoodP.other {P c : Nat} {L : List Q} (g : GoodP P c L) {k : Nat} {x y : Q} (h : L[k]? = some x) (hy : y ∈ L.take k ∨ y ∈ L.drop (k + 1)) : x.page + 8 ≤ y.page ∨ y.page + 8 ≤ x.page := by
  rcases hy with hy | hy
  · obtain ⟨j, hj⟩ := List.getElem?_of_mem hy
    rw [List.getElem?_take] at hj
    by_cases d : j < k
    · rw [if_pos d] at hj; exact g.apart h hj (by omega)
    · rw [if_neg d] at hj; cases hj
  · obtain ⟨j, hj⟩ := List.getElem?_of_mem hy
    rw [List.getElem?_drop] at hj
    exact g.apart h hj (by omega)
def upd (f : Nat → Bool) (k : Nat) (b : Bool) (i : Nat) : Bool := if i = k then b else f i
structure OnceInv (c : Nat) (L : List Q) (out add : Nat → Bool) (all n : Nat) : Prop where
  m8 : Mul8 L
  added : ∀ j, j < 4 → (add j = true ↔ ∃ x ∈ L, x.page = 8 * j)
  outs : ∀ a, a < 2048 → (out a = true ↔ ∃ x ∈ L, atB c x.page (a : Int) = true ∧ a ∉ x.free)
  sum : n + lenL L = all
  whole : all = L.length * perN c
theorem OnceInv.start (c : Nat) : OnceInv c [] (fun _ => false) (fun _ => false) 0 0 :=
  ⟨fun _ h => (by cases h), fun j _ => by simp, fun a _ => by simp, rfl, by simp⟩
theorem OnceInv.addL {c i j all n : Nat} {L : List Q} {out add : Nat → Bool} (h : OnceInv c L out add all n) (hc : c < 4) (hj : j < 4) : OnceInv c (insQ c L i (8 * j)) out (upd add j true) (all + perN c) n := by
  have hm : ∀ x, x ∈ insQ c L i (8 * j) ↔ x = ⟨8 * j, allQ c (8 * j)⟩ ∨ x ∈ L := fun x => by
    unfold insQ
    rw [List.mem_append, List.mem_cons]
    have := congrArg (fun l => x ∈ l) (List.take_append_drop i L)
    simp only [List.mem_append] at this
    have := iff_of_eq this
    constructor
    · rintro (h | h | h)
      · exact .inr (this.1 (.inl h))
      · exact .inl h
      · exact .inr (this.1 (.inr h))
    · rintro (h | h)
      · exact .inr (.inl h)
      · rcases this.2 h with h | h
        · exact .inl h
        · exact .inr (.inr h)
  refine ⟨fun x hx => ?_, fun k hk => ?_, fun a ha => ?_, ?_, ?_⟩
  · rcases (hm x).1 hx with rfl | hx
    · show 8 * j % 8 = 0; omega
    · exact h.m8 x hx
  · unfold upd
    by_cases e : k = j
    · rw [if_pos e]
      subst e
      exact ⟨fun _ => ⟨_, (hm _).2 (.inl rfl), rfl⟩, fun _ => rfl⟩
    · rw [if_neg e, h.added k hk]
      constructor
      · rintro ⟨x, hx, hp⟩; exact ⟨x, (hm x).2 (.inr hx), hp⟩
      · rintro ⟨x, hx, hp⟩
        rcases (hm x).1 hx with rfl | hx
        · have : 8 * j = 8 * k := hp
          omega
        · exact ⟨x, hx, hp⟩
  · rw [h.outs a ha]
    constructor
    · rintro ⟨x, hx, hp⟩; exact ⟨x, (hm x).2 (.inr hx), hp⟩
    · rintro ⟨x, hx, hp, hn⟩
      rcases (hm x).1 hx with rfl | hx
      · obtain ⟨i, hi, e⟩ := of_at hc hp
        have e : a = stk c (8 * j) i := by exact_mod_cast e
        exact absurd (List.mem_map.2 ⟨i, List.mem_range.2 hi, e.symm⟩) hn
      · exact ⟨x, hx, hp, hn⟩
  · rw [lenL_ins]; have := h.sum; omega
  · have hl : (insQ c L i (8 * j)).length = L.length + 1 := by
      have := congrArg List.length (List.take_append_drop i L)
      unfold insQ
      simp only [List.length_append, List.length_cons] at this ⊢
      omega
    rw [hl, Nat.add_mul, Nat.one_mul, ← h.whole]
theorem w_dvd {c m : Nat} (hc : c < 4) : (512 * m) % wN c = 0 := by
  have := w_per hc
  rw [← this, Nat.mul_comm (perN c), Nat.mul_assoc]
  exact Nat.mul_mod_right _ _
/-- What is known of a stack's address in a span at a multiple of eight pages. -/
theorem at_mul {c pg a : Nat} (hc : c < 4) (h : atB c pg (a : Int) = true) (h8 : pg % 8 = 0) : a % wN c = 0 ∧ a / 512 * 8 = pg := by
  have hr := at_range h
  obtain ⟨i, hi, e⟩ := of_at hc h
  have e : a = stk c pg i := by exact_mod_cast e
  refine ⟨?_, by omega⟩
  rw [e]
  unfold stk
  rw [show pg * 64 = 512 * (pg / 8) by omega, Nat.add_mod, w_dvd hc, Nat.mul_mod_left]
  exact Nat.zero_mod _
theorem OnceInv.takes {c k pg b all n : Nat} {r : List Nat} {L : List Q} {out add : Nat → Bool} (h : OnceInv c L out add all n) (g : GoodP 32 c L) (hk : L[k]? = some ⟨pg, b :: r⟩) :
    b < 2048 ∧ b % wN c = 0 ∧ b / 512 < 4 ∧ out b = false ∧ add (b / 512) = true ∧ n < all ∧ OnceInv c (L.set k ⟨pg, r⟩) (upd out b true) add all (n + 1) := by
  have hm := List.mem_of_getElem? hk
  have hb := g.stks _ hm b List.mem_cons_self
  have lt := g.lt hm List.mem_cons_self
  have nd := List.nodup_cons.1 (g.nod _ hm)
  have am := at_mul g.cls hb (h.m8 _ hm)
  have ln := lenL_at hk
  simp only [List.length_cons] at ln
  have hs := h.sum
  refine ⟨by omega, am.1, by omega, ?_, ?_, by omega, ⟨fun x hx => ?_, fun j hj => ?_, fun a ha => ?_, ?_, ?_⟩⟩
  · cases e : out b with
    | false => rfl
    | true =>
      obtain ⟨x, hx, h1, h2⟩ := (h.outs b (by omega)).1 e
      rcases (mem_at hk x).1 hx with hx | rfl | hx
      · have := at_no hb (g.other hk (.inl hx)); rw [h1] at this; cases this
      · exact absurd List.mem_cons_self h2
      · have := at_no hb (g.other hk (.inr hx)); rw [h1] at this; cases this
  · exact (h.added _ (by omega)).2 ⟨_, hm, by show pg = _; have am2 : b / 512 * 8 = pg := am.2; omega⟩
  · rcases (mem_set_at hk x).1 hx with hx | rfl | hx
    · exact h.m8 x ((mem_at hk x).2 (.inl hx))
    · exact h.m8 (⟨pg, b :: r⟩ : Q) hm
    · exact h.m8 x ((mem_at hk x).2 (.inr (.inr hx)))
  · rw [h.added j hj]
    constructor
    · rintro ⟨x, hx, hp⟩
      rcases (mem_at hk x).1 hx with hx | rfl | hx
      · exact ⟨x, (mem_set_at hk x).2 (.inl hx), hp⟩
      · exact ⟨_, (mem_set_at hk _).2 (.inr (.inl rfl)), hp⟩
      · exact ⟨x, (mem_set_at hk x).2 (.inr (.inr hx)), hp⟩
    · rintro ⟨x, hx, hp⟩
      rcases (mem_set_at hk x).1 hx with hx | rfl | hx
      · exact ⟨x, (mem_at hk x).2 (.inl hx), hp⟩
      · exact ⟨_, hm, hp⟩
      · exact ⟨x, (mem_at hk x).2 (.inr (.inr hx)), hp⟩
  · unfold upd
    by_cases e : a = b
    · rw [if_pos e]
      subst e
      exact ⟨fun _ => ⟨_, (mem_set_at hk _).2 (.inr (.inl rfl)), hb, nd.1⟩, fun _ => rfl⟩
    · rw [if_neg e, h.outs a ha]
      constructor
      · rintro ⟨x, hx, hp, hn⟩
        rcases (mem_at hk x).1 hx with hx | rfl | hx
        · exact ⟨x, (mem_set_at hk x).2 (.inl hx), hp, hn⟩
        · exact ⟨_, (mem_set_at hk _).2 (.inr (.inl rfl)), hp, fun m => hn (List.mem_cons_of_mem _ m)⟩
        · exact ⟨x, (mem_set_at hk x).2 (.inr (.inr hx)), hp, hn⟩
      · rintro ⟨x, hx, hp, hn⟩
        rcases (mem_set_at hk x).1 hx with hx | rfl | hx
        · exact ⟨x, (mem_at hk x).2 (.inl hx), hp, hn⟩
        · exact ⟨_, hm, hp, fun m => by rcases List.mem_cons.1 m with m | m; exact e m; exact hn m⟩
        · exact ⟨x, (mem_at hk x).2 (.inr (.inr hx)), hp, hn⟩
  · rw [lenL_set hk]; simp only []; omega
  · rw [List.length_set]; exact h.whole
/-- A stack that is put. -/
theorem OnceInv.puts {c k a all n : Nat} {x : Q} {L : List Q} {out add : Nat → Bool} (h : OnceInv c L out add all n) (g : GoodP 32 c L) (hk : L[k]? = some x) (ha : atB c x.page (a : Int) = true) (hn : a ∉ x.free) :
    out a = true ∧ a % wN c = 0 ∧ a / 512 < 4 ∧ 0 < n ∧ (x.free.length + 1 ≠ perN c → OnceInv c (L.set k ⟨x.page, a :: x.free⟩) (upd out a false) add all (n - 1)) ∧ (x.free.length + 1 = perN c → perN c ≤ all ∧ OnceInv c (L.take k ++ L.drop (k + 1)) (upd out a false) (upd add (a / 512) false) (all - perN c) (n - 1)) := by
  have hm := List.mem_of_getElem? hk
  have hr := at_range ha
  have hp := g.inP x hm
  have am := at_mul g.cls ha (h.m8 _ hm)
  have ln := lenL_at hk
  have hs := h.sum
  have hw := h.whole
  have hl := (List.getElem?_eq_some_iff.1 hk).1
  have l1 := lenL_le (L := L.take k) (n := perN c) (fun y hy => g.few (List.mem_of_mem_take hy))
  have l2 := lenL_le (L := L.drop (k + 1)) (n := perN c) (fun y hy => g.few (List.mem_of_mem_drop hy))
  have nd : (a :: x.free).Nodup := List.nodup_cons.2 ⟨hn, g.nod x hm⟩
  have hat : ∀ b ∈ a :: x.free, atB c x.page (b : Int) = true := fun b hb => by
    rcases List.mem_cons.1 hb with rfl | hb
    · exact ha
    · exact g.stks x hm b hb
  have fl := free_len g.cls nd hat
  simp only [List.length_cons] at fl
  have lt : (L.take k).length = k := by rw [List.length_take]; omega
  have ld : (L.drop (k + 1)).length = L.length - (k + 1) := List.length_drop
  rw [lt] at l1
  rw [ld] at l2
  have el : L.length * perN c = k * perN c + (L.length - (k + 1)) * perN c + perN c := by
    rw [← Nat.add_mul, ← Nat.succ_mul]
    congr 1
    omega
  refine ⟨(h.outs a (by omega)).2 ⟨x, hm, ha, hn⟩, am.1, by omega, by omega, fun _ => ?_, fun full => ⟨by omega, ?_⟩⟩
  · refine ⟨fun y hy => ?_, fun j hj => ?_, fun b hb => ?_, ?_, ?_⟩
    · rcases (mem_set_at hk y).1 hy with hy | rfl | hy
      · exact h.m8 y ((mem_at hk y).2 (.inl hy))
      · exact h.m8 x hm
      · exact h.m8 y ((mem_at hk y).2 (.inr (.inr hy)))
    · rw [h.added j hj]
      constructor
      · rintro ⟨y, hy, hq⟩
        rcases (mem_at hk y).1 hy with hy | rfl | hy
        · exact ⟨y, (mem_set_at hk y).2 (.inl hy), hq⟩
        · exact ⟨_, (mem_set_at hk _).2 (.inr (.inl rfl)), hq⟩
        · exact ⟨y, (mem_set_at hk y).2 (.inr (.inr hy)), hq⟩
      · rintro ⟨y, hy, hq⟩
        rcases (mem_set_at hk y).1 hy with hy | rfl | hy
        · exact ⟨y, (mem_at hk y).2 (.inl hy), hq⟩
        · exact ⟨_, hm, hq⟩
        · exact ⟨y, (mem_at hk y).2 (.inr (.inr hy)), hq⟩
    · unfold upd
      by_cases e : b = a
      · rw [if_pos e]
        subst e
        refine ⟨fun z => (by cases z), ?_⟩
        rintro ⟨y, hy, hq, hb⟩
        rcases (mem_set_at hk y).1 hy with hy | rfl | hy
        · have := at_no ha (g.other hk (.inl hy)); rw [hq] at this; cases this
        · exact absurd List.mem_cons_self hb
        · have := at_no ha (g.other hk (.inr hy)); rw [hq] at this; cases this
      · rw [if_neg e, h.outs b hb]
        constructor
        · rintro ⟨y, hy, hq, hb⟩
          rcases (mem_at hk y).1 hy with hy | rfl | hy
          · exact ⟨y, (mem_set_at hk y).2 (.inl hy), hq, hb⟩
          · exact ⟨_, (mem_set_at hk _).2 (.inr (.inl rfl)), hq, fun m => by rcases List.mem_cons.1 m with m | m; exact e m; exact hb m⟩
          · exact ⟨y, (mem_set_at hk y).2 (.inr (.inr hy)), hq, hb⟩
        · rintro ⟨y, hy, hq, hb⟩
          rcases (mem_set_at hk y).1 hy with hy | rfl | hy
          · exact ⟨y, (mem_at hk y).2 (.inl hy), hq, hb⟩
          · exact ⟨_, hm, hq, fun m => hb (List.mem_cons_of_mem _ m)⟩
          · exact ⟨y, (mem_at hk y).2 (.inr (.inr hy)), hq, hb⟩
    · rw [lenL_set hk]; simp only [List.length_cons]; omega
    · rw [List.length_set]; exact hw
  · have hmm : ∀ y, y ∈ L.take k ++ L.drop (k + 1) ↔ y ∈ L.take k ∨ y ∈ L.drop (k + 1) := fun y => List.mem_append
    refine ⟨fun y hy => ?_, fun j hj => ?_, fun b hb => ?_, ?_, ?_⟩
    · rcases (hmm y).1 hy with hy | hy
      · exact h.m8 y ((mem_at hk y).2 (.inl hy))
      · exact h.m8 y ((mem_at hk y).2 (.inr (.inr hy)))
    · unfold upd
      by_cases e : j = a / 512
      · rw [if_pos e]
        refine ⟨fun z => (by cases z), ?_⟩
        rintro ⟨y, hy, hq⟩
        have := g.other hk ((hmm y).1 hy)
        omega
      · rw [if_neg e, h.added j hj]
        constructor
        · rintro ⟨y, hy, hq⟩
          rcases (mem_at hk y).1 hy with hy | rfl | hy
          · exact ⟨y, (hmm y).2 (.inl hy), hq⟩
          · omega
          · exact ⟨y, (hmm y).2 (.inr hy), hq⟩
        · rintro ⟨y, hy, hq⟩
          rcases (hmm y).1 hy with hy | hy
          · exact ⟨y, (mem_at hk y).2 (.inl hy), hq⟩
          · exact ⟨y, (mem_at hk y).2 (.inr (.inr hy)), hq⟩
    · unfold upd
      by_cases e : b = a
      · rw [if_pos e]
        subst e
        refine ⟨fun z => (by cases z), ?_⟩
        rintro ⟨y, hy, hq, hb⟩
        have := at_no ha (g.other hk ((hmm y).1 hy))
        rw [hq] at this
        cases this
      · rw [if_neg e, h.outs b hb]
        constructor
        · rintro ⟨y, hy, hq, hb⟩
          rcases (mem_at hk y).1 hy with hy | rfl | hy
          · exact ⟨y, (hmm y).2 (.inl hy), hq, hb⟩
          · exfalso
            have nd2 : (b :: a :: y.free).Nodup := List.nodup_cons.2 ⟨fun m => by rcases List.mem_cons.1 m with m | m; exact e m; exact hb m, nd⟩
            have := free_len g.cls nd2 (page := y.page) (fun z hz => by
              rcases List.mem_cons.1 hz with rfl | hz
              · exact hq
              · exact hat z hz)
            simp only [List.length_cons] at this
            omega
          · exact ⟨y, (hmm y).2 (.inr hy), hq, hb⟩
        · rintro ⟨y, hy, hq, hb⟩
          rcases (hmm y).1 hy with hy | hy
          · exact ⟨y, (mem_at hk y).2 (.inl hy), hq, hb⟩
          · exact ⟨y, (mem_at hk y).2 (.inr (.inr hy)), hq, hb⟩
    · rw [lenL_del]; omega
    · rw [List.length_append, lt, ld, Nat.add_mul]; omega
/-- Of a stack that is not out a put is refused. -/
theorem OnceInv.not_out {c a all n : Nat} {L : List Q} {out add : Nat → Bool} (h : OnceInv c L out add all n) (g : GoodP 32 c L) (ha : a < 2048) (hn : (∀ x ∈ L, atB c x.page (a : Int) = false) ∨ ∃ (k : Nat) (x : Q), L[k]? = some x ∧ atB c x.page (a : Int) = true ∧ a ∈ x.free) : out a = false := by
  cases e : out a with
  | false => rfl
  | true =>
    obtain ⟨x, hx, h1, h2⟩ := (h.outs a ha).1 e
    rcases hn with hn | ⟨k, y, hk, hy, hm⟩
    · rw [hn x hx] at h1; cases h1
    · rcases (mem_at hk x).1 hx with hx | rfl | hx
      · have := at_no hy (g.other hk (.inl hx)); rw [h1] at this; cases this
      · exact absurd hm h2
      · have := at_no hy (g.other hk (.inr hx)); rw [h1] at this; cases this
/-- Put's ways. -/
theorem put_ways {c : Nat} (L : List Q) (a : Nat) : (putC c L a ≠ 0 ∧ putG c L a = false ∧ putL c L a = L ∧ ((∀ x ∈ L, atB c x.page (a : Int) = false) ∨ ∃ (k : Nat) (x : Q), L[k]? = some x ∧ atB c x.page (a : Int) = true ∧ a ∈ x.free)) ∨ ∃ (k : Nat) (x : Q), L[k]? = some x ∧ atB c x.page (a : Int) = true ∧ a ∉ x.free ∧ putP c L a = (x.page : Nat) ∧ putC c L a = 0 ∧ ((x.free.length + 1 = perN c ∧ putG c L a = true ∧ putL c L a = L.take k ++ L.drop (k + 1)) ∨ (x.free.length + 1 ≠ perN c ∧ putG c L a = false ∧ putL c L a = L.set k ⟨x.page, a :: x.free⟩)) := by
  rcases findQ_ways (c := c) (a := (a : Int)) L with ⟨_, hx⟩ | ⟨k, x, h1, h2, h3, _⟩
  · refine .inl ?_
    unfold putC putG putL
    rw [putR_none hx]
    exact ⟨by show (1 : Int) ≠ 0; decide, rfl, rfl, .inl hx⟩
  · have e := putR_at h1 h2 h3
    rw [Int.toNat_natCast] at e
    by_cases hm : a ∈ x.free
    · rw [if_pos hm] at e
      refine .inl ?_
      unfold putC putG putL
      rw [e]
      exact ⟨by show (4 : Int) ≠ 0; decide, rfl, rfl, .inr ⟨k, x, h2, h3, hm⟩⟩
    · rw [if_neg hm] at e
      refine .inr ⟨k, x, h2, h3, hm, ?_⟩
      by_cases d : x.free.length + 1 = perN c
      · rw [if_pos d] at e
        unfold putP putC putG putL
        rw [e]
        exact ⟨rfl, rfl, .inl ⟨d, rfl, rfl⟩⟩
      · rw [if_neg d] at e
        unfold putP putC putG putL
        rw [e]
        exact ⟨rfl, rfl, .inr ⟨d, rfl, rfl⟩⟩
/-- Add's ways. -/
theorem add_ways {P c : Nat} (L : List Q) (q : Nat) : (addC P L (q : Int) ≠ 0 ∧ addL P c L (q : Int) = L) ∨ ∃ i, placeQ q L = some i ∧ q + 8 ≤ P ∧ addC P L (q : Int) = 0 ∧ addL P c L (q : Int) = insQ c L i q := by
  unfold addC addL
  by_cases h : (q : Int) < 0 ∨ (P : Int) - 8 < (q : Int)
  · rw [if_pos h, if_pos h]; exact .inl ⟨by decide, rfl⟩
  · rw [if_neg h, if_neg h, Int.toNat_natCast]
    cases e : placeQ q L with
    | none => exact .inl ⟨by decide, rfl⟩
    | some i => exact .inr ⟨i, rfl, by omega, rfl, rfl⟩
end Go.Proofs.Ytmkkkifigeaalaa.Prt
