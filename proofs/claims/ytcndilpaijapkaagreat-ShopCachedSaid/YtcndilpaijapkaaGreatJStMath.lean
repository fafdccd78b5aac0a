/-
  Joined texts of StMath; own work.
-/
import Derived.Test.YtcndilpaijapkaaGreatJHeap
import Derived.Test.YtcndilpaijapkaaGreatJLive
import Derived.Test.YtcndilpaijapkaaGreatJMath
import Derived.Test.YtcndilpaijapkaaGreatJSize
import Derived.Test.YtcndilpaijapkaaGreatJSpan
/- The parts of an allocator of stacks as plain data: a heap's runs and spans, the pools, the large ones that wait, the spans that are kept back, and what is out; what is so of them at any time (Inv), and that each step keeps it. Own work; no program is walked here. -/
namespace Go.Proofs.YtcndilpaijapkaaGreat.Sto
open Go.RowKit

structure K where
  rl : List R
  sl : List S
  p : Nat → List Prt.Q
  big : List Bg.R
  on : Bool
  back : List Int
abbrev sp (a n c : Int) : S := ⟨a, n, c⟩
/-- What is so at any time. O: the stacks that are out (address, class). -/
structure Inv (P : Nat) (k : K) (O : Int → Int → Prop) : Prop where
  whole : Whole (P : Int) k.rl k.sl
  good : ∀ c, c < 4 → Prt.GoodP P c (k.p c)
  pool : ∀ c, c < 4 → ∀ x ∈ k.p c, sp (x.page : Int) 8 (c : Int) ∈ k.sl
  some_ : ∀ c, c < 4 → ∀ x ∈ k.p c, x.free.length < Prt.perN c
  back : ∀ q ∈ k.back, ∃ c : Nat, c < 4 ∧ sp q 8 (c : Int) ∈ k.sl ∧ ∀ x ∈ k.p c, (x.page : Int) ≠ q
  bnod : k.back.Nodup
  right : Bg.RightL k.big
  big : ∀ b ∈ k.big, sp (b.1 / 64) (pagesI b.2) b.2 ∈ k.sl
  off : k.on = false → k.back = [] ∧ k.big = []
  outS : ∀ a c, O a c → c < 4 → 0 ≤ c ∧ ∃ x ∈ k.p c.toNat, Prt.atB c.toNat x.page a = true ∧ a.toNat ∉ x.free
  outL : ∀ a c, O a c → 4 ≤ c → c ≤ 7 ∧ a % 64 = 0 ∧ sp (a / 64) (pagesI c) c ∈ k.sl ∧ (a, c) ∉ k.big
  cover : ∀ s ∈ k.sl, (0 ≤ s.c ∧ s.c < 4 ∧ s.n = 8 ∧ ((∃ x ∈ k.p s.c.toNat, (x.page : Int) = s.a) ∨ s.a ∈ k.back)) ∨ (4 ≤ s.c ∧ s.c ≤ 7 ∧ s.n = pagesI s.c ∧ ((s.a * 64, s.c) ∈ k.big ∨ O (s.a * 64) s.c))
  stk : ∀ c, c < 4 → ∀ x ∈ k.p c, ∀ a ∈ Prt.allQ c x.page, a ∈ x.free ∨ O (a : Int) (c : Int)

theorem pages_large {c : Int} (h : 4 ≤ c) (h1 : c ≤ 7) : 8 ≤ pagesI c ∧ pagesI c ≤ 64 ∧ wordsI c = pagesI c * 64 := by
  have : c = 4 ∨ c = 5 ∨ c = 6 ∨ c = 7 := by omega
  rcases this with rfl | rfl | rfl | rfl <;> decide
theorem pages_small {c : Int} (h : 0 ≤ c) (h1 : c < 4) : pagesI c = 8 := by
  unfold pagesI
  rw [smallB_in c h h1]
  rfl
/-- Spans that have a page in common are one. -/
theorem span_eq {P : Int} {l : List S} (g : Good P l) {x y : S} (hx : x ∈ l) (hy : y ∈ l) (h : x.a < y.a + y.n) (h1 : y.a < x.a + x.n) : x = y := by
  obtain ⟨i, hi⟩ := List.mem_iff_getElem?.1 hx
  obtain ⟨j, hj⟩ := List.mem_iff_getElem?.1 hy
  rcases Nat.lt_trichotomy i j with e | e | e
  · have := g.two hi hj e; omega
  · subst e; rw [hi] at hj; injection hj
  · have := g.two hj hi e; omega
theorem span_at {P : Int} {l : List S} (g : Good P l) {x y : S} (hx : x ∈ l) (hy : y ∈ l) (h : x.a = y.a) : x = y :=
  span_eq g hx hy (by have := (g.each y hy).n1; omega) (by have := (g.each x hx).n1; omega)
variable {P : Nat} {k : K} {O : Int → Int → Prop}
theorem Inv.ok (h : Inv P k O) {s : S} (hs : s ∈ k.sl) : Ok (P : Int) s := h.whole.good.each s hs
theorem Inv.pages (h : Inv P k O) : 1 ≤ P ∧ P ≤ 256 := by have := h.whole.pages; omega
theorem Inv.pool_page (h : Inv P k O) {c : Nat} (hc : c < 4) {x : Prt.Q} (hx : x ∈ k.p c) : x.page + 8 ≤ P := (h.good c hc).inP x hx
/-- A page is a span's of one pool at most. -/
theorem Inv.pool_one (h : Inv P k O) {c d : Nat} (hc : c < 4) (hd : d < 4) {x y : Prt.Q} (hx : x ∈ k.p c) (hy : y ∈ k.p d) (e : x.page = y.page) : c = d ∧ x = y := by
  have e1 := span_at h.whole.good (h.pool c hc x hx) (h.pool d hd y hy) (by show (x.page : Int) = y.page; omega)
  injection e1 with _ _ e2
  obtain rfl : c = d := by omega
  refine ⟨rfl, ?_⟩
  obtain ⟨i, hi⟩ := List.mem_iff_getElem?.1 hx
  obtain ⟨j, hj⟩ := List.mem_iff_getElem?.1 hy
  by_cases ij : i = j
  · subst ij; rw [hi] at hj; injection hj
  · have := (h.good c hc).apart hi hj ij
    omega
/-- Spans of pools are far from each other. -/
theorem Inv.pool_far (h : Inv P k O) {c d : Nat} (hc : c < 4) (hd : d < 4) (ne : c ≠ d) {x y : Prt.Q} (hx : x ∈ k.p c) (hy : y ∈ k.p d) : x.page + 8 ≤ y.page ∨ y.page + 8 ≤ x.page := by
  apply Classical.byContradiction
  intro q
  have := span_eq h.whole.good (h.pool c hc x hx) (h.pool d hd y hy) (by show (x.page : Int) < y.page + 8; omega) (by show (y.page : Int) < x.page + 8; omega)
  injection this with _ _ e
  omega
theorem at_page {c pg : Nat} {a : Int} (hc : c < 4) (h : Prt.atB c pg a = true) : (pg : Int) ≤ a / 64 ∧ a / 64 < pg + 8 ∧ a % 32 = 0 ∧ 0 ≤ a ∧ a + wordsI (c : Int) ≤ (pg : Int) * 64 + 512 := by
  have r := Prt.at_range h
  obtain ⟨i, hi, e⟩ := Prt.of_at hc h
  have := Prt.stk_lt (page := pg) hc hi
  rw [Prt.wordsI_c hc]
  have w32 : Prt.wN c % 32 = 0 := by rcases Prt.c_ways hc with ⟨_, e, _⟩ | ⟨_, e, _⟩ | ⟨_, e, _⟩ | ⟨_, e, _⟩ <;> omega
  have m32 : (i * Prt.wN c) % 32 = 0 := by rw [Nat.mul_mod, w32, Nat.mul_zero, Nat.zero_mod]
  unfold Prt.stk at *
  refine ⟨by omega, by omega, by omega, by omega, by omega⟩
/-- The span that a stack lies in. -/
theorem Inv.home (h : Inv P k O) {a c : Int} (o : O a c) : ∃ s ∈ k.sl, s.c = c ∧ s.a * 64 ≤ a ∧ a + wordsI c ≤ (s.a + s.n) * 64 ∧ 0 ≤ a ∧ a % 32 = 0 ∧ 0 ≤ c ∧ c ≤ 7 := by
  by_cases c4 : c < 4
  · obtain ⟨c0, x, hx, ha, _⟩ := h.outS a c o c4
    have q := at_page (by omega) ha
    obtain ⟨d, rfl⟩ : ∃ d : Nat, c = (d : Int) := ⟨c.toNat, by omega⟩
    rw [Int.toNat_natCast] at *
    exact ⟨_, h.pool d (by omega) x hx, rfl, by show (x.page : Int) * 64 ≤ a; omega, by show a + _ ≤ ((x.page : Int) + 8) * 64; omega, by omega, by omega, by omega, by omega⟩
  · obtain ⟨c7, m, hs, _⟩ := h.outL a c o (by omega)
    have ok := h.ok hs
    have a0 := ok.a0
    obtain ⟨p0, p1, p2⟩ := pages_large (c := c) (by omega) c7
    simp only at a0
    exact ⟨_, hs, rfl, by show a / 64 * 64 ≤ a; omega, by show a + _ ≤ (a / 64 + pagesI c) * 64; omega, by omega, by omega, by omega, c7⟩
/-- What is out lies within. -/
theorem Inv.lies (h : Inv P k O) {a c : Int} (o : O a c) : Lm.Lies ((P : Int) * 64) a c := by
  obtain ⟨s, hs, _, e1, e2, e3, e4, c0, c7⟩ := h.home o
  have ok := h.ok hs
  have up := ok.up
  rcases Lm.words_ways c with ⟨q, _⟩ | ⟨_, _, w0, w1, w2⟩
  · omega
  · exact ⟨w0, w1, w2, e3, e4, by omega, c0, c7⟩
theorem at_apart {c pg : Nat} {a b : Int} (hc : c < 4) (ha : Prt.atB c pg a = true) (hb : Prt.atB c pg b = true) (ne : a ≠ b) : a + wordsI (c : Int) ≤ b ∨ b + wordsI (c : Int) ≤ a := by
  obtain ⟨i, hi, e⟩ := Prt.of_at hc ha
  obtain ⟨j, hj, f⟩ := Prt.of_at hc hb
  rw [Prt.wordsI_c hc]
  unfold Prt.stk at e f
  have : i ≠ j := fun q => ne (by rw [e, f, q])
  rcases Nat.lt_or_gt_of_ne this with q | q
  · have := Prt.mul_lt_of (w := Prt.wN c) q
    left; omega
  · have := Prt.mul_lt_of (w := Prt.wN c) q
    right; omega
/-- What is out at two places has no word in common. -/
theorem Inv.apart (h : Inv P k O) {a c b d : Int} (o : O a c) (o' : O b d) (ne : ¬ (a = b ∧ c = d)) : a + wordsI c ≤ b ∨ b + wordsI d ≤ a := by
  obtain ⟨s, hs, sc, e1, e2, _, _, c0, c7⟩ := h.home o
  obtain ⟨t, ht, tc, f1, f2, _, _, d0, d7⟩ := h.home o'
  by_cases st : s = t
  · subst st
    obtain rfl : c = d := by omega
    by_cases c4 : c < 4
    · obtain ⟨_, x, hx, ha, _⟩ := h.outS a c o c4
      obtain ⟨_, y, hy, hb, _⟩ := h.outS b c o' c4
      obtain ⟨n, rfl⟩ : ∃ n : Nat, c = (n : Int) := ⟨c.toNat, by omega⟩
      rw [Int.toNat_natCast] at *
      have qa := at_page (by omega) ha
      have qb := at_page (by omega) hb
      have h1 := h.pool n (by omega) x hx
      have h2 := h.pool n (by omega) y hy
      have w32 := (h.lies o).w0
      have z1 := span_eq h.whole.good hs h1 (by show s.a < (x.page : Int) + 8; omega) (by show (x.page : Int) < s.a + s.n; omega)
      have z2 := span_eq h.whole.good hs h2 (by show s.a < (y.page : Int) + 8; omega) (by show (y.page : Int) < s.a + s.n; omega)
      have z3 : (x.page : Int) = (y.page : Int) := by
        have := z1.symm.trans z2
        injection this
      have := (h.pool_one (by omega) (by omega) hx hy (by omega)).2
      subst this
      exact at_apart (by omega) ha hb (fun e => ne ⟨e, rfl⟩)
    · exfalso
      obtain ⟨_, m, h1, _⟩ := h.outL a c o (by omega)
      obtain ⟨_, m', h2, _⟩ := h.outL b c o' (by omega)
      have ok1 := (h.ok h1).n1
      have w32 := (h.lies o).w0
      have w32' := (h.lies o').w0
      have p := pages_large (c := c) (by omega) c7
      have z1 := span_eq h.whole.good hs h1 (by show s.a < a / 64 + pagesI c; omega) (by show a / 64 < s.a + s.n; omega)
      have z2 := span_eq h.whole.good hs h2 (by show s.a < b / 64 + pagesI c; omega) (by show b / 64 < s.a + s.n; omega)
      have z3 : a / 64 = b / 64 := by
        have := z1.symm.trans z2
        injection this
      exact ne ⟨by omega, rfl⟩
  · have : ¬ (s.a < t.a + t.n ∧ t.a < s.a + s.n) := fun q => st (span_eq h.whole.good hs ht q.1 q.2)
    omega
/-- One address, one class. -/
theorem Inv.same (h : Inv P k O) {a c d : Int} (o : O a c) (o' : O a d) : c = d := by
  apply Classical.byContradiction
  intro q
  have := h.apart o o' (fun e => q e.2)
  have := (h.lies o).w0
  have := (h.lies o').w0
  omega
end Go.Proofs.YtcndilpaijapkaaGreat.Sto
/- What each step makes of the parts of an allocator of stacks, and that it keeps what is so of them at any time. Own work; no program is walked here. -/
namespace Go.Proofs.YtcndilpaijapkaaGreat.Sto
open Go.RowKit

theorem mem_cut {α : Type} {l : List α} {i : Nat} {y : α} : y ∈ l.take i ++ l.drop (i + 1) ↔ ∃ j, j ≠ i ∧ l[j]? = some y := by
  rw [List.mem_append]
  constructor
  · rintro (h | h)
    · obtain ⟨j, hj⟩ := List.getElem?_of_mem h
      rw [List.getElem?_take] at hj
      by_cases c : j < i
      · rw [if_pos c] at hj; exact ⟨j, by omega, hj⟩
      · rw [if_neg c] at hj; cases hj
    · obtain ⟨j, hj⟩ := List.getElem?_of_mem h
      rw [List.getElem?_drop] at hj
      exact ⟨_, by omega, hj⟩
  · rintro ⟨j, ne, hj⟩
    by_cases c : j < i
    · exact .inl (List.mem_of_getElem? (i := j) (by rw [List.getElem?_take, if_pos c]; exact hj))
    · exact .inr (List.mem_of_getElem? (i := j - (i + 1)) (by rw [List.getElem?_drop, show i + 1 + (j - (i + 1)) = j by omega]; exact hj))
theorem mem_setq {α : Type} {l : List α} {i : Nat} {v x y : α} (hx : l[i]? = some x) : y ∈ l.set i v ↔ y = v ∨ ∃ j, j ≠ i ∧ l[j]? = some y := by
  have hi := (List.getElem?_eq_some_iff.1 hx).1
  constructor
  · intro h
    obtain ⟨j, hj⟩ := List.getElem?_of_mem h
    rw [List.getElem?_set] at hj
    by_cases e : i = j
    · rw [if_pos e, if_pos hi] at hj; injection hj with hj; exact .inl hj.symm
    · rw [if_neg e] at hj; exact .inr ⟨j, fun q => e q.symm, hj⟩
  · rintro (rfl | ⟨j, ne, hj⟩)
    · exact List.mem_of_getElem? (i := i) (by rw [List.getElem?_set, if_pos rfl, if_pos hi])
    · exact List.mem_of_getElem? (i := j) (by rw [List.getElem?_set, if_neg (fun e => ne e.symm)]; exact hj)
def K.pool (k : K) (c : Nat) (l : List Prt.Q) : K := { k with p := fun d => if d = c then l else k.p d }
theorem K.pool_at (k : K) (c : Nat) (l : List Prt.Q) : (k.pool c l).p c = l := if_pos rfl
theorem K.pool_ne (k : K) {c d : Nat} (l : List Prt.Q) (h : d ≠ c) : (k.pool c l).p d = k.p d := if_neg h
theorem on_no {b : Bool} (h : b = true) (e : b = false) : False := by rw [h] at e; cases e
variable {P : Nat} {k : K} {O : Int → Int → Prop}

theorem Inv.on_ (h : Inv P k O) : Inv P { k with on := true } O := ⟨h.whole, h.good, h.pool, h.some_, h.back, h.bnod, h.right, h.big, (fun e => by cases e), h.outS, h.outL, h.cover, h.stk⟩
theorem Inv.off_ (h : Inv P k O) (h1 : k.back = []) (h2 : k.big = []) (b : Bool) : Inv P { k with on := b } O := ⟨h.whole, h.good, h.pool, h.some_, h.back, h.bnod, h.right, h.big, fun _ => ⟨h1, h2⟩, h.outS, h.outL, h.cover, h.stk⟩
theorem Inv.congr (h : Inv P k O) {O' : Int → Int → Prop} (e : ∀ a c, O' a c ↔ O a c) : Inv P k O' := by
  have : O' = O := by funext a c; exact propext (e a c)
  rw [this]; exact h

/-! ### A span of a pool whose free stacks change -/
theorem Inv.turn (h : Inv P k O) {c : Nat} (hc : c < 4) {i : Nat} {x : Prt.Q} (hx : (k.p c)[i]? = some x) (f : List Nat) (h1 : ∀ a ∈ f, Prt.atB c x.page (a : Int) = true) (h2 : f.Nodup) (h3 : f.length < Prt.perN c) {O' : Int → Int → Prop}
    (hL : ∀ a d, 4 ≤ d → (O' a d ↔ O a d))
    (hS : ∀ a d, d < 4 → O' a d → (d = (c : Int) ∧ Prt.atB c x.page a = true ∧ a.toNat ∉ f) ∨ (O a d ∧ ¬ (d = (c : Int) ∧ Prt.atB c x.page a = true)))
    (hK : ∀ a ∈ Prt.allQ c x.page, a ∈ f ∨ O' (a : Int) (c : Int))
    (hO : ∀ a d, d < 4 → O a d → ¬ (d = (c : Int) ∧ Prt.atB c x.page a = true) → O' a d) :
    Inv P (k.pool c ((k.p c).set i ⟨x.page, f⟩)) O' := by
  have hm := List.mem_of_getElem? hx
  have mem : ∀ d, ∀ y ∈ (k.pool c ((k.p c).set i ⟨x.page, f⟩)).p d, (d = c ∧ y = ⟨x.page, f⟩) ∨ (y ∈ k.p d ∧ (d = c → ∃ j, j ≠ i ∧ (k.p c)[j]? = some y)) := by
    intro d y hy
    by_cases e : d = c
    · subst e
      rw [K.pool_at] at hy
      rcases (mem_setq hx).1 hy with q | ⟨j, ne, hj⟩
      · exact .inl ⟨rfl, q⟩
      · exact .inr ⟨List.mem_of_getElem? hj, fun _ => ⟨j, ne, hj⟩⟩
    · rw [K.pool_ne _ _ e] at hy
      exact .inr ⟨hy, fun q => absurd q e⟩
  have back : ∀ d, ∀ y ∈ k.p d, ∃ y' ∈ (k.pool c ((k.p c).set i ⟨x.page, f⟩)).p d, y'.page = y.page ∧ (y' = y ∨ (d = c ∧ y = x)) := by
    intro d y hy
    by_cases e : d = c
    · subst e
      rw [K.pool_at]
      obtain ⟨j, hj⟩ := List.getElem?_of_mem hy
      by_cases ij : j = i
      · subst ij
        rw [hx] at hj
        injection hj with hj
        exact ⟨⟨x.page, f⟩, (mem_setq hx).2 (.inl rfl), by rw [← hj], .inr ⟨rfl, hj.symm⟩⟩
      · exact ⟨y, (mem_setq hx).2 (.inr ⟨j, ij, hj⟩), rfl, .inl rfl⟩
    · rw [K.pool_ne _ _ e]
      exact ⟨y, hy, rfl, .inl rfl⟩
  have pg : ∀ d, ∀ y ∈ (k.pool c ((k.p c).set i ⟨x.page, f⟩)).p d, ∃ y' ∈ k.p d, y'.page = y.page := by
    intro d y hy
    rcases mem d y hy with ⟨rfl, rfl⟩ | ⟨q, _⟩
    · exact ⟨x, hm, rfl⟩
    · exact ⟨y, q, rfl⟩
  refine ⟨h.whole, fun d hd => ?_, fun d hd y hy => ?_, fun d hd y hy => ?_, fun q hq => ?_, h.bnod, h.right, h.big, h.off, fun a d o d4 => ?_, fun a d o d4 => ?_, fun s hs => ?_, fun d hd y hy a ha => ?_⟩
  · by_cases e : d = c
    · subst e; rw [K.pool_at]; exact (h.good d hd).turn hx f h1 h2
    · rw [K.pool_ne _ _ e]; exact h.good d hd
  · obtain ⟨y', hy', e⟩ := pg d y hy
    rw [← e]; exact h.pool d hd y' hy'
  · rcases mem d y hy with ⟨rfl, rfl⟩ | ⟨q, _⟩
    · exact h3
    · exact h.some_ d hd y q
  · obtain ⟨e, e4, hs, ne⟩ := h.back q hq
    exact ⟨e, e4, hs, fun y hy => by obtain ⟨y', hy', e⟩ := pg _ y hy; rw [← e]; exact ne y' hy'⟩
  · rcases hS a d d4 o with ⟨rfl, q1, q2⟩ | ⟨q1, q2⟩
    · refine ⟨by omega, ⟨x.page, f⟩, ?_, ?_, q2⟩
      · rw [Int.toNat_natCast, K.pool_at]; exact (mem_setq hx).2 (.inl rfl)
      · rw [Int.toNat_natCast]; exact q1
    · obtain ⟨d0, y, hy, at_, nf⟩ := h.outS a d q1 d4
      obtain ⟨y', hy', e, z⟩ := back d.toNat y hy
      rcases z with rfl | ⟨z1, rfl⟩
      · exact ⟨d0, y', hy', at_, nf⟩
      · exact absurd ⟨by omega, by rw [← z1]; exact at_⟩ q2
  · exact h.outL a d ((hL a d d4).1 o) d4
  · rcases h.cover s hs with ⟨c0, c4, n8, q⟩ | ⟨c4, c7, n, q⟩
    · refine .inl ⟨c0, c4, n8, ?_⟩
      rcases q with ⟨y, hy, e⟩ | q
      · obtain ⟨y', hy', e', _⟩ := back _ y hy
        exact .inl ⟨y', hy', by rw [e']; exact e⟩
      · exact .inr q
    · exact .inr ⟨c4, c7, n, q.imp id fun o => (hL _ _ c4).2 o⟩
  · rcases mem d y hy with ⟨rfl, rfl⟩ | ⟨q, z⟩
    · exact hK a ha
    · rcases h.stk d hd y q a ha with m | o
      · exact .inl m
      · refine .inr (hO _ _ (by omega) o fun ⟨e1, e2⟩ => ?_)
        obtain rfl : d = c := by omega
        obtain ⟨j, ne, hj⟩ := z rfl
        have a1 := Prt.allQ_at hd a ha
        have := (h.good d hd).apart hj hx ne
        rw [Prt.at_no a1 this] at e2
        cases e2
/-- A free stack is taken. -/
theorem Inv.take (h : Inv P k O) {c : Nat} (hc : c < 4) {i pg a : Nat} {r : List Nat} (hx : (k.p c)[i]? = some ⟨pg, a :: r⟩) :
    ¬ O (a : Int) (c : Int) ∧ Inv P (k.pool c ((k.p c).set i ⟨pg, r⟩)) fun b d => (b = (a : Int) ∧ d = (c : Int)) ∨ O b d := by
  have hm := List.mem_of_getElem? hx
  have g := h.good c hc
  have nd := List.nodup_cons.1 (g.nod _ hm)
  have at_ : ∀ b ∈ a :: r, Prt.atB c pg (b : Int) = true := g.stks _ hm
  have notO : ∀ b ∈ a :: r, ¬ O (b : Int) (c : Int) := by
    intro b hb o
    obtain ⟨_, y, hy, e1, e2⟩ := h.outS _ _ o (by omega)
    rw [Int.toNat_natCast] at *
    obtain ⟨j, hj⟩ := List.getElem?_of_mem hy
    by_cases ij : j = i
    · subst ij
      rw [hx] at hj
      injection hj with hj
      subst hj
      exact e2 hb
    · have := g.apart hj hx ij
      rw [Prt.at_no (at_ b hb) (show pg + 8 ≤ y.page ∨ y.page + 8 ≤ pg from this.symm)] at e1
      cases e1
  have fw := h.some_ c hc _ hm
  refine ⟨notO a List.mem_cons_self, h.turn hc hx r (fun b hb => at_ b (List.mem_cons_of_mem _ hb)) nd.2 (by simp only [List.length_cons] at fw; omega) (fun b d d4 => ?_) (fun b d d4 o => ?_) (fun b hb => ?_) (fun b d _ o _ => .inr o)⟩
  · exact ⟨fun o => o.resolve_left fun q => by omega, .inr⟩
  · rcases o with ⟨rfl, rfl⟩ | o
    · exact .inl ⟨rfl, at_ a List.mem_cons_self, by rw [Int.toNat_natCast]; exact nd.1⟩
    · by_cases q : d = (c : Int) ∧ Prt.atB c pg b = true
      · obtain ⟨rfl, q⟩ := q
        refine .inl ⟨rfl, q, fun m => notO b.toNat (List.mem_cons_of_mem _ m) ?_⟩
        have := (Prt.at_range q).1
        rw [show ((b.toNat : Nat) : Int) = b by omega]
        exact o
      · exact .inr ⟨o, q⟩
  · rcases h.stk c hc _ hm b hb with m | o
    · rcases List.mem_cons.1 m with rfl | m
      · exact .inr (.inl ⟨rfl, rfl⟩)
      · exact .inl m
    · exact .inr (.inr o)
/-- What is out of a pool: where it lies. -/
theorem Inv.found (h : Inv P k O) {a : Int} {c : Nat} (hc : c < 4) (o : O a (c : Int)) : ∃ (i : Nat) (x : Prt.Q) (m : Nat), a = (m : Int) ∧ (k.p c)[i]? = some x ∧ Prt.atB c x.page (m : Int) = true ∧ m ∉ x.free ∧ (∀ y ∈ (k.p c).take i, Prt.atB c y.page (m : Int) = false) := by
  obtain ⟨_, x, hx, e1, e2⟩ := h.outS _ _ o (by omega)
  rw [Int.toNat_natCast] at *
  have a0 := (Prt.at_range e1).1
  obtain ⟨i, hi⟩ := List.getElem?_of_mem hx
  refine ⟨i, x, a.toNat, by omega, hi, by rw [show ((a.toNat : Nat) : Int) = a by omega]; exact e1, e2, fun y hy => ?_⟩
  obtain ⟨j, hj⟩ := List.getElem?_of_mem hy
  rw [List.getElem?_take] at hj
  by_cases ji : j < i
  · rw [if_pos ji] at hj
    rw [show ((a.toNat : Nat) : Int) = a by omega]
    exact Prt.at_no e1 ((h.good c hc).apart hj hi (by omega)).symm
  · rw [if_neg ji] at hj; cases hj
/-- One is put back, and its span stays. -/
theorem Inv.put (h : Inv P k O) {c : Nat} (hc : c < 4) {i a : Nat} {x : Prt.Q} (hx : (k.p c)[i]? = some x) (ha : Prt.atB c x.page (a : Int) = true) (hn : a ∉ x.free) (hl : x.free.length + 1 ≠ Prt.perN c) :
    Inv P (k.pool c ((k.p c).set i ⟨x.page, a :: x.free⟩)) fun b d => O b d ∧ ¬ (b = (a : Int) ∧ d = (c : Int)) := by
  have hm := List.mem_of_getElem? hx
  have g := h.good c hc
  have fw := h.some_ c hc _ hm
  refine h.turn hc hx (a :: x.free) (fun b hb => ?_) (List.nodup_cons.2 ⟨hn, g.nod _ hm⟩) (by simp only [List.length_cons]; omega) (fun b d d4 => ?_) (fun b d d4 o => ?_) (fun b hb => ?_) (fun b d _ o q => ⟨o, fun e => ?_⟩)
  · rcases List.mem_cons.1 hb with rfl | hb
    · exact ha
    · exact g.stks _ hm b hb
  · exact ⟨fun o => o.1, fun o => ⟨o, fun e => by omega⟩⟩
  · obtain ⟨o, ne⟩ := o
    by_cases q : d = (c : Int) ∧ Prt.atB c x.page b = true
    · obtain ⟨rfl, q⟩ := q
      have b0 := (Prt.at_range q).1
      refine .inl ⟨rfl, q, fun m => ?_⟩
      rcases List.mem_cons.1 m with e | m
      · exact ne ⟨by omega, rfl⟩
      · obtain ⟨_, y, hy, e1, e2⟩ := h.outS _ _ o d4
        rw [Int.toNat_natCast] at *
        obtain ⟨j, hj⟩ := List.getElem?_of_mem hy
        by_cases ij : j = i
        · subst ij
          rw [hx] at hj
          injection hj with hj
          subst hj
          exact e2 m
        · have := g.apart hj hx ij
          rw [Prt.at_no q this.symm] at e1
          cases e1
    · exact .inr ⟨o, q⟩
  · rcases h.stk c hc _ hm b hb with m | o
    · exact .inl (List.mem_cons_of_mem _ m)
    · by_cases e : b = a
      · exact .inl (by rw [e]; exact List.mem_cons_self)
      · exact .inr ⟨o, fun q => e (by omega)⟩
  · exact q ⟨e.2, by rw [e.1]; exact ha⟩
/-- Behind the last one that is out all are free. -/
theorem all_free {c pg a : Nat} {f : List Nat} (hc : c < 4) (h1 : ∀ b ∈ f, Prt.atB c pg (b : Int) = true) (h2 : f.Nodup) (ha : Prt.atB c pg (a : Int) = true) (hn : a ∉ f) (hl : f.length + 1 = Prt.perN c) {b : Nat} (hb : Prt.atB c pg (b : Int) = true) : b = a ∨ b ∈ f := by
  apply Classical.byContradiction
  intro q
  have q1 : b ≠ a := fun e => q (.inl e)
  have q2 : b ∉ f := fun e => q (.inr e)
  have := Prt.free_len (l := b :: a :: f) (page := pg) hc (List.nodup_cons.2 ⟨fun m => by rcases List.mem_cons.1 m with e | e; exact q1 e; exact q2 e, List.nodup_cons.2 ⟨hn, h2⟩⟩) (fun z hz => by
    rcases List.mem_cons.1 hz with rfl | hz
    · exact hb
    · rcases List.mem_cons.1 hz with rfl | hz
      · exact ha
      · exact h1 z hz)
  simp only [List.length_cons] at this
  omega
/-- The last one is put back: its span is kept back. -/
theorem Inv.leave (h : Inv P k O) (on : k.on = true) {c : Nat} (hc : c < 4) {i a : Nat} {x : Prt.Q} (hx : (k.p c)[i]? = some x) (ha : Prt.atB c x.page (a : Int) = true) (hn : a ∉ x.free) (hl : x.free.length + 1 = Prt.perN c) :
    (x.page : Int) ∉ k.back ∧ Inv P { k.pool c ((k.p c).take i ++ (k.p c).drop (i + 1)) with back := k.back ++ [(x.page : Int)] } fun b d => O b d ∧ ¬ (b = (a : Int) ∧ d = (c : Int)) := by
  have hm := List.mem_of_getElem? hx
  have g := h.good c hc
  have hsp := h.pool c hc x hm
  have nb : (x.page : Int) ∉ k.back := fun q => by
    obtain ⟨e, e4, hs, ne⟩ := h.back _ q
    have := span_at h.whole.good hs hsp rfl
    injection this with _ _ e2
    obtain rfl : e = c := by omega
    exact ne x hm rfl
  have mem : ∀ d, ∀ y ∈ (k.pool c ((k.p c).take i ++ (k.p c).drop (i + 1))).p d, y ∈ k.p d ∧ (d = c → ∃ j, j ≠ i ∧ (k.p c)[j]? = some y) := by
    intro d y hy
    by_cases e : d = c
    · subst e
      rw [K.pool_at] at hy
      obtain ⟨j, ne, hj⟩ := mem_cut.1 hy
      exact ⟨List.mem_of_getElem? hj, fun _ => ⟨j, ne, hj⟩⟩
    · rw [K.pool_ne _ _ e] at hy
      exact ⟨hy, fun q => absurd q e⟩
  have keep : ∀ d, ∀ y ∈ k.p d, y ∈ (k.pool c ((k.p c).take i ++ (k.p c).drop (i + 1))).p d ∨ (d = c ∧ y = x) := by
    intro d y hy
    by_cases e : d = c
    · subst e
      rw [K.pool_at]
      obtain ⟨j, hj⟩ := List.getElem?_of_mem hy
      by_cases ij : j = i
      · subst ij; rw [hx] at hj; injection hj with hj; exact .inr ⟨rfl, hj.symm⟩
      · exact .inl (mem_cut.2 ⟨j, ij, hj⟩)
    · rw [K.pool_ne _ _ e]; exact .inl hy
  refine ⟨nb, h.whole, fun d hd => ?_, fun d hd y hy => h.pool d hd y (mem d y hy).1, fun d hd y hy => h.some_ d hd y (mem d y hy).1, fun q hq => ?_, ?_, h.right, h.big, fun e => ?_, fun b d o d4 => ?_, fun b d o d4 => h.outL b d o.1 d4, fun s hs => ?_, fun d hd y hy b hb => ?_⟩
  · show Prt.GoodP P d ((k.pool c _).p d)
    by_cases e : d = c
    · subst e; rw [K.pool_at, ← List.eraseIdx_eq_take_drop_succ]; exact (h.good d hd).sub (List.eraseIdx_sublist _ _)
    · rw [K.pool_ne _ _ e]; exact h.good d hd
  · rcases List.mem_append.1 hq with hq | hq
    · obtain ⟨e, e4, hs, ne⟩ := h.back q hq
      exact ⟨e, e4, hs, fun y hy => ne y (mem _ y hy).1⟩
    · obtain rfl := List.mem_singleton.1 hq
      refine ⟨c, hc, hsp, fun y hy => ?_⟩
      obtain ⟨_, z⟩ := mem c y hy
      obtain ⟨j, ne, hj⟩ := z rfl
      have := g.apart hj hx ne
      omega
  · rw [List.nodup_append]
    exact ⟨h.bnod, by simp, fun u hu v hv e => by rw [List.mem_singleton.1 hv] at e; exact nb (e ▸ hu)⟩
  · exact (on_no (b := k.on) on e).elim
  · obtain ⟨o, ne⟩ := o
    obtain ⟨d0, y, hy, at_, nf⟩ := h.outS b d o d4
    rcases keep _ y hy with z | ⟨z1, rfl⟩
    · exact ⟨d0, y, z, at_, nf⟩
    · exfalso
      rw [z1] at at_
      have b0 := (Prt.at_range at_).1
      rcases all_free hc (g.stks _ hm) (g.nod _ hm) ha hn hl (b := b.toNat) (by rw [show ((b.toNat : Nat) : Int) = b by omega]; exact at_) with e | e
      · exact ne ⟨by omega, by omega⟩
      · exact nf e
  · rcases h.cover s hs with ⟨c0, c4, n8, q⟩ | ⟨c4, c7, n, q⟩
    · refine .inl ⟨c0, c4, n8, ?_⟩
      rcases q with ⟨y, hy, e⟩ | q
      · rcases keep _ y hy with z | ⟨_, rfl⟩
        · exact .inl ⟨y, z, e⟩
        · exact .inr (List.mem_append.2 (.inr (List.mem_singleton.2 e.symm)))
      · exact .inr (List.mem_append.2 (.inl q))
    · exact .inr ⟨c4, c7, n, q.imp id fun o => ⟨o, fun e => by omega⟩⟩
  · obtain ⟨q, z⟩ := mem d y hy
    rcases h.stk d hd y q b hb with m | o
    · exact .inl m
    · refine .inr ⟨o, fun ⟨e1, e2⟩ => ?_⟩
      obtain rfl : d = c := by omega
      obtain ⟨j, ne, hj⟩ := z rfl
      have a1 := Prt.allQ_at hd b hb
      have := g.apart hj hx ne
      rw [show b = a by omega, ] at a1
      rw [Prt.at_no a1 this] at ha
      cases ha
end Go.Proofs.YtcndilpaijapkaaGreat.Sto
/- Spans that are taken from the heap, adopted by a pool, put to the large ones, freed: each keeps what is so of the parts at any time. Own work; no program is walked here. -/
namespace Go.Proofs.YtcndilpaijapkaaGreat.Sto
open Go.RowKit
variable {P : Nat} {k : K} {O : Int → Int → Prop}

theorem del_mem {P : Int} {l : List S} (g : Good P l) {s : S} (hs : s ∈ l) {t : S} : t ∈ delL l s.a ↔ t ∈ l ∧ t ≠ s := by
  obtain ⟨i, hi⟩ := List.mem_iff_getElem?.1 hs
  have n1 := (g.each s hs).n1
  have e : placeL l s.a = i := place_in g hi (by omega) (by omega)
  unfold delL
  rw [e, mem_cut]
  constructor
  · rintro ⟨j, ne, hj⟩
    refine ⟨List.mem_of_getElem? hj, fun q => ?_⟩
    subst q
    rcases Nat.lt_or_gt_of_ne ne with z | z
    · have := g.two hj hi z; omega
    · have := g.two hi hj z; omega
  · rintro ⟨ht, ne⟩
    obtain ⟨j, hj⟩ := List.mem_iff_getElem?.1 ht
    exact ⟨j, fun q => by subst q; rw [hi] at hj; injection hj with hj; exact ne hj.symm, hj⟩
/-- A span that is there is freed. -/
theorem Inv.freed (h : Inv P k O) {s : S} (hs : s ∈ k.sl) : freeA k.rl k.sl s.a = ⟨s, 0, putL k.rl s.a s.n, delL k.sl s.a⟩ ∧ Whole (P : Int) (putL k.rl s.a s.n) (delL k.sl s.a) := by
  obtain ⟨i, hi⟩ := List.mem_iff_getElem?.1 hs
  have e := beg_at h.whole.good hi rfl
  refine ⟨?_, (h.whole.free e).2.2⟩
  unfold freeA
  rw [e]
theorem big_nodup {l : List Bg.R} (h : Bg.RightL l) : l.Nodup := by
  have := (Bg.right_pw.1 h).2
  refine this.imp fun {a b} q e => ?_
  subst e
  have := of_decide_eq_true q.1
  omega
theorem nodup_mid {α : Type} {l1 l2 : List α} {q x : α} (h : (l1 ++ q :: l2).Nodup) (hx : x ∈ l1 ++ l2) : x ≠ q := by
  rintro rfl
  rw [List.nodup_append] at h
  obtain ⟨_, h2, h3⟩ := h
  rcases List.mem_append.1 hx with z | z
  · exact h3 x z x List.mem_cons_self rfl
  · exact (List.nodup_cons.1 h2).1 z
theorem mid_mem {α : Type} {l1 l2 : List α} {q x : α} (h : x ∈ l1 ++ q :: l2) (ne : x ≠ q) : x ∈ l1 ++ l2 := by
  rcases List.mem_append.1 h with z | z
  · exact List.mem_append.2 (.inl z)
  · rcases List.mem_cons.1 z with z | z
    · exact absurd z ne
    · exact List.mem_append.2 (.inr z)
theorem mid_in {α : Type} {l1 l2 : List α} {q x : α} (h : x ∈ l1 ++ l2) : x ∈ l1 ++ q :: l2 := by
  rcases List.mem_append.1 h with z | z
  · exact List.mem_append.2 (.inl z)
  · exact List.mem_append.2 (.inr (List.mem_cons_of_mem _ z))
theorem mid_sub {α : Type} (l1 l2 : List α) (q : α) : (l1 ++ l2).Sublist (l1 ++ q :: l2) := (List.Sublist.refl l1).append (List.sublist_cons_self q l2)
/-- A large one that waits, as a span. -/
theorem Inv.big_may (h : Inv P k O) {b : Bg.R} (hb : b ∈ k.big) : 4 ≤ b.2 ∧ b.2 ≤ 7 ∧ 0 ≤ b.1 ∧ b.1 % 64 = 0 := by
  have := of_decide_eq_true (h.right.may hb)
  omega
/-- A span that was kept back is freed. -/
theorem Inv.emptyBack (h : Inv P k O) (on : k.on = true) {l1 l2 : List Int} {q : Int} (hb : k.back = l1 ++ q :: l2) :
    (freeA k.rl k.sl q).e = 0 ∧ Inv P { k with rl := (freeA k.rl k.sl q).rl, sl := (freeA k.rl k.sl q).sl, back := l1 ++ l2 } O := by
  obtain ⟨c, c4, hs, ne⟩ := h.back q (by rw [hb]; simp)
  obtain ⟨e, wh⟩ := h.freed hs
  have e : freeA k.rl k.sl q = _ := e
  rw [e]
  have nd := h.bnod
  rw [hb] at nd
  have del : ∀ {t : S}, t ∈ k.sl → t ≠ sp q 8 (c : Int) → t ∈ delL k.sl q := fun ht n => (del_mem h.whole.good hs).2 ⟨ht, n⟩
  refine ⟨rfl, wh, h.good, fun d hd x hx => del (h.pool d hd x hx) fun z => ?_, h.some_, fun q' hq => ?_, nd.sublist (mid_sub _ _ _), h.right, fun b hb' => del (h.big b hb') fun z => ?_, (fun z => (on_no (b := k.on) on z).elim), h.outS, fun a d o d4 => ?_, fun t ht => ?_, h.stk⟩
  · injection z with z1 _ z2
    obtain rfl : d = c := by omega
    exact ne x hx z1
  · obtain ⟨d, d4, ht, n⟩ := h.back q' (by rw [hb]; exact mid_in hq)
    refine ⟨d, d4, del ht fun z => ?_, n⟩
    injection z with z1
    exact nodup_mid nd hq z1
  · injection z with _ _ z2
    have := h.big_may hb'
    omega
  · obtain ⟨c7, m, ht, n⟩ := h.outL a d o d4
    refine ⟨c7, m, del ht fun z => ?_, n⟩
    injection z with _ _ z2
    omega
  · obtain ⟨ht, n⟩ := (del_mem h.whole.good hs).1 ht
    rcases h.cover t ht with ⟨c0, c4', n8, z⟩ | z
    · refine .inl ⟨c0, c4', n8, z.imp id fun z => ?_⟩
      rw [hb] at z
      refine mid_mem z fun w => n (span_at h.whole.good ht hs ?_)
      exact w
    · exact .inr z
/-- A large one that waits is freed. -/
theorem Inv.emptyBig (h : Inv P k O) (on : k.on = true) {l1 l2 : List Bg.R} {b : Bg.R} (hb : k.big = l1 ++ b :: l2) :
    (freeA k.rl k.sl (b.1 / 64)).e = 0 ∧ Inv P { k with rl := (freeA k.rl k.sl (b.1 / 64)).rl, sl := (freeA k.rl k.sl (b.1 / 64)).sl, big := l1 ++ l2 } O := by
  have hm : b ∈ k.big := by rw [hb]; simp
  have hs := h.big b hm
  have mb := h.big_may hm
  obtain ⟨e, wh⟩ := h.freed hs
  have e : freeA k.rl k.sl (b.1 / 64) = _ := e
  rw [e]
  have nd := big_nodup h.right
  rw [hb] at nd
  have del : ∀ {t : S}, t ∈ k.sl → t ≠ sp (b.1 / 64) (pagesI b.2) b.2 → t ∈ delL k.sl (b.1 / 64) := fun ht n => (del_mem h.whole.good hs).2 ⟨ht, n⟩
  refine ⟨rfl, wh, h.good, fun d hd x hx => del (h.pool d hd x hx) fun z => ?_, h.some_, fun q hq => ?_, h.bnod, h.right.sub (by rw [hb]; exact mid_sub _ _ _), fun b' hb' => ?_, (fun z => (on_no (b := k.on) on z).elim), h.outS, fun a d o d4 => ?_, fun t ht => ?_, h.stk⟩
  · injection z with _ _ z2
    omega
  · obtain ⟨d, d4, ht, n⟩ := h.back q hq
    refine ⟨d, d4, del ht fun z => ?_, n⟩
    injection z with _ _ z2
    omega
  · have hm' : b' ∈ k.big := by rw [hb]; exact mid_in hb'
    refine del (h.big b' hm') fun z => nodup_mid nd hb' ?_
    injection z with z1 _ z2
    have := h.big_may hm'
    exact Prod.ext (by omega) z2
  · obtain ⟨c7, m, ht, n⟩ := h.outL a d o d4
    refine ⟨c7, m, del ht fun z => n ?_, fun w => n (by rw [hb]; exact mid_in w)⟩
    injection z with z1 _ z2
    rw [show (a, d) = b from Prod.ext (by show a = b.1; omega) z2]
    exact hm
  · obtain ⟨ht, n⟩ := (del_mem h.whole.good hs).1 ht
    rcases h.cover t ht with z | ⟨c4, c7, np, z⟩
    · exact .inl z
    · refine .inr ⟨c4, c7, np, z.imp (fun z => ?_) id⟩
      rw [hb] at z
      refine mid_mem z fun w => n (span_at h.whole.good ht hs ?_)
      show t.a = b.1 / 64
      have : t.a * 64 = b.1 := congrArg Prod.fst w
      omega
/-- A large one is put to those that wait. -/
theorem Inv.giveBig (h : Inv P k O) (on : k.on = true) {a c : Int} (o : O a c) (c4 : 4 ≤ c) :
    Bg.mayB (a, c) = true ∧ Bg.anyB k.big (a, c) = false ∧ Inv P { k with big := Bg.insL k.big (a, c) } fun b d => O b d ∧ ¬ (b = a ∧ d = c) := by
  obtain ⟨c7, m, hs, nb⟩ := h.outL a c o c4
  have ly := h.lies o
  have pp := h.pages
  have fit := ly.fit
  have a0 := ly.a0
  have w := pages_large c4 c7
  have may : Bg.mayB (a, c) = true := decide_eq_true ⟨c4, c7, a0, m, by show a + wordsI c ≤ 16384; omega⟩
  have any : Bg.anyB k.big (a, c) = false := by
    cases e : Bg.anyB k.big (a, c) with
    | false => rfl
    | true =>
      obtain ⟨x, hx, z⟩ := List.any_eq_true.1 e
      have mx := h.big_may hx
      have hx' := h.big x hx
      have wx := pages_large mx.1 mx.2.1
      have z := of_decide_eq_true z
      simp only at z
      have := span_eq h.whole.good hx' hs (by show x.1 / 64 < a / 64 + pagesI c; omega) (by show a / 64 < x.1 / 64 + pagesI x.2; omega)
      injection this with z1 _ z2
      exact absurd (by rw [show (a, c) = x from Prod.ext (by show a = x.1; omega) z2.symm]; exact hx) nb
  refine ⟨may, any, h.whole, h.good, h.pool, h.some_, h.back, h.bnod, Bg.right_ins h.right may any, fun b hb => ?_, (fun z => (on_no (b := k.on) on z).elim), fun b d o' d4 => h.outS b d o'.1 d4, fun b d o' d4 => ?_, fun t ht => ?_, fun d hd x hx b hb => ?_⟩
  · rcases (Bg.ins_mem _ _ _).1 hb with rfl | hb
    · exact hs
    · exact h.big b hb
  · obtain ⟨d7, m', ht, n⟩ := h.outL b d o'.1 d4
    refine ⟨d7, m', ht, fun z => ?_⟩
    rcases (Bg.ins_mem _ _ _).1 z with z | z
    · exact o'.2 ⟨congrArg Prod.fst z, congrArg Prod.snd z⟩
    · exact n z
  · rcases h.cover t ht with z | ⟨t4, t7, np, z⟩
    · exact .inl z
    · refine .inr ⟨t4, t7, np, ?_⟩
      rcases z with z | z
      · exact .inl ((Bg.ins_mem _ _ _).2 (.inr z))
      · by_cases e : t.a * 64 = a ∧ t.c = c
        · exact .inl ((Bg.ins_mem _ _ _).2 (.inl (by rw [e.1, e.2])))
        · exact .inr ⟨z, e⟩
  · exact (h.stk d hd x hx b hb).imp id fun o' => ⟨o', fun e => by omega⟩
/-- A large one that waits is taken. -/
theorem Inv.takeBig (h : Inv P k O) {l1 l2 : List Bg.R} {b : Bg.R} (hb : k.big = l1 ++ b :: l2) :
    ¬ O b.1 b.2 ∧ Inv P { k with big := l1 ++ l2 } fun a d => (a = b.1 ∧ d = b.2) ∨ O a d := by
  have hm : b ∈ k.big := by rw [hb]; simp
  have mb := h.big_may hm
  have nd := big_nodup h.right
  rw [hb] at nd
  refine ⟨fun o => (h.outL _ _ o mb.1).2.2.2 hm, h.whole, h.good, h.pool, h.some_, h.back, h.bnod, h.right.sub (by rw [hb]; exact mid_sub _ _ _), fun b' hb' => h.big b' (by rw [hb]; exact mid_in hb'), fun z => ?_, fun a d o d4 => ?_, fun a d o d4 => ?_, fun t ht => ?_, fun d hd x hx a ha => (h.stk d hd x hx a ha).imp id .inr⟩
  · have := (h.off z).2
    rw [hb] at this
    simp at this
  · rcases o with ⟨_, e⟩ | o
    · omega
    · exact h.outS a d o d4
  · rcases o with ⟨rfl, rfl⟩ | o
    · exact ⟨mb.2.1, mb.2.2.2, h.big b hm, fun z => nodup_mid nd z rfl⟩
    · obtain ⟨c7, m, ht, n⟩ := h.outL a d o d4
      exact ⟨c7, m, ht, fun z => n (by rw [hb]; exact mid_in z)⟩
  · rcases h.cover t ht with z | ⟨t4, t7, np, z⟩
    · exact .inl z
    · refine .inr ⟨t4, t7, np, ?_⟩
      rcases z with z | z
      · by_cases e : (t.a * 64, t.c) = b
        · exact .inr (.inl ⟨congrArg Prod.fst e, congrArg Prod.snd e⟩)
        · rw [hb] at z; exact .inl (mid_mem z e)
      · exact .inr (.inr z)
/-- What is taken from the heap is no span's. -/
theorem Inv.fresh (h : Inv P k O) {n : Int} {i : Nat} {x : R} (f : Fits k.rl n i x) (_ : 1 ≤ n) {t : S} (ht : t ∈ k.sl) : x.1 + n ≤ t.a ∨ t.a + t.n ≤ x.1 := by
  have := h.whole.apart (List.mem_of_getElem? f.at_) ht
  have := f.big
  omega
/-- Pages for a small class: kept back for the moment. -/
theorem Inv.allocBack (h : Inv P k O) (on : k.on = true) {c : Nat} (hc : c < 4) {i : Nat} {x : R} (f : Fits k.rl 8 i x) :
    Inv P { k with rl := takeL k.rl 8 i x, sl := insL k.sl (sp x.1 8 (c : Int)), back := k.back ++ [x.1] } O := by
  have al := (h.whole.alloc (cl := (c : Int)) f (by omega) (by omega) (by omega)).2.2
  have fr := fun {t : S} (ht : t ∈ k.sl) => h.fresh f (by omega) ht
  have nb : x.1 ∉ k.back := fun q => by
    obtain ⟨d, _, ht, _⟩ := h.back _ q
    have := fr ht
    simp only at this
    omega
  refine ⟨al, h.good, fun d hd y hy => mem_ins.2 (.inr (h.pool d hd y hy)), h.some_, fun q hq => ?_, ?_, h.right, fun b hb => mem_ins.2 (.inr (h.big b hb)), (fun z => (on_no (b := k.on) on z).elim), h.outS, fun a d o d4 => ?_, fun t ht => ?_, h.stk⟩
  · rcases List.mem_append.1 hq with hq | hq
    · obtain ⟨d, d4, ht, n⟩ := h.back q hq
      exact ⟨d, d4, mem_ins.2 (.inr ht), n⟩
    · obtain rfl := List.mem_singleton.1 hq
      refine ⟨c, hc, mem_ins.2 (.inl rfl), fun y hy => ?_⟩
      have := fr (h.pool c hc y hy)
      simp only at this
      omega
  · rw [List.nodup_append]
    exact ⟨h.bnod, by simp, fun u hu v hv e => by rw [List.mem_singleton.1 hv] at e; exact nb (e ▸ hu)⟩
  · obtain ⟨c7, m, ht, n⟩ := h.outL a d o d4
    exact ⟨c7, m, mem_ins.2 (.inr ht), n⟩
  · rcases mem_ins.1 ht with rfl | ht
    · exact .inl ⟨by show (0 : Int) ≤ (c : Int); omega, by show (c : Int) < 4; omega, rfl, .inr (List.mem_append.2 (.inr (List.mem_singleton.2 rfl)))⟩
    · rcases h.cover t ht with ⟨c0, c4, n8, z⟩ | z
      · exact .inl ⟨c0, c4, n8, z.imp id fun z => List.mem_append.2 (.inl z)⟩
      · exact .inr z
/-- Pages for a large class. -/
theorem Inv.allocLarge (h : Inv P k O) {c : Int} (c4 : 4 ≤ c) (c7 : c ≤ 7) {i : Nat} {x : R} (f : Fits k.rl (pagesI c) i x) :
    ¬ O (x.1 * 64) c ∧ Inv P { k with rl := takeL k.rl (pagesI c) i x, sl := insL k.sl (sp x.1 (pagesI c) c) } fun a d => (a = x.1 * 64 ∧ d = c) ∨ O a d := by
  have w := pages_large c4 c7
  have al := (h.whole.alloc (cl := c) f (by omega) (by omega) (by omega)).2.2
  have fr := fun {t : S} (ht : t ∈ k.sl) => h.fresh f (by omega) ht
  have nO : ∀ b : Bg.R, b = (x.1 * 64, c) → b ∉ k.big := fun b e hb => by
    have := fr (h.big b hb)
    subst e
    simp only at this
    omega
  refine ⟨fun o => ?_, al, h.good, fun d hd y hy => mem_ins.2 (.inr (h.pool d hd y hy)), h.some_, fun q hq => ?_, h.bnod, h.right, fun b hb => mem_ins.2 (.inr (h.big b hb)), h.off, fun a d o d4 => ?_, fun a d o d4 => ?_, fun t ht => ?_, fun d hd y hy a ha => (h.stk d hd y hy a ha).imp id .inr⟩
  · obtain ⟨_, _, ht, _⟩ := h.outL _ _ o c4
    have := fr ht
    simp only at this
    omega
  · obtain ⟨d, d4, ht, n⟩ := h.back q hq
    exact ⟨d, d4, mem_ins.2 (.inr ht), n⟩
  · rcases o with ⟨_, e⟩ | o
    · omega
    · exact h.outS a d o d4
  · rcases o with ⟨rfl, rfl⟩ | o
    · exact ⟨c7, by omega, mem_ins.2 (.inl (by rw [show x.1 * 64 / 64 = x.1 by omega])), nO _ rfl⟩
    · obtain ⟨d7, m, ht, n⟩ := h.outL a d o d4
      exact ⟨d7, m, mem_ins.2 (.inr ht), n⟩
  · rcases mem_ins.1 ht with rfl | ht
    · exact .inr ⟨c4, c7, rfl, .inr (.inl ⟨rfl, rfl⟩)⟩
    · rcases h.cover t ht with z | ⟨t4, t7, np, z⟩
      · exact .inl z
      · exact .inr ⟨t4, t7, np, z.imp id .inr⟩
/-- A span that was kept back becomes a pool's, and its first stack is out. -/
theorem Inv.adopt (h : Inv P k O) {l1 l2 : List Int} {pg c : Nat} (hc : c < 4) (hb : k.back = l1 ++ (pg : Int) :: l2) (hs : sp (pg : Int) 8 (c : Int) ∈ k.sl) {i : Nat} (hi : Prt.placeQ pg (k.p c) = some i) {r : List Nat} (hr : Prt.allQ c pg = (pg * 64) :: r) :
    ¬ O ((pg * 64 : Nat) : Int) (c : Int) ∧ Inv P { k.pool c ((k.p c).take i ++ ⟨pg, r⟩ :: (k.p c).drop i) with back := l1 ++ l2 } fun b d => (b = ((pg * 64 : Nat) : Int) ∧ d = (c : Int)) ∨ O b d := by
  have ok := h.ok hs
  have up : pg + 8 ≤ P := by have := ok.up; simp only at this; omega
  obtain ⟨hil, p1, p2⟩ := Prt.placeQ_some hi (h.good c hc).asc
  have nd := h.bnod
  rw [hb] at nd
  obtain ⟨c', c4', hs', ne⟩ := h.back pg (by rw [hb]; simp)
  obtain rfl : c' = c := by have := span_at h.whole.good hs' hs rfl; injection this with _ _ z; omega
  have pp := Prt.per_pos hc
  have anod := Prt.allQ_nodup (page := pg) hc
  rw [hr] at anod
  have an := List.nodup_cons.1 anod
  have a0 : Prt.atB c' pg ((pg * 64 : Nat) : Int) = true := Prt.allQ_at hc _ (by rw [hr]; exact List.mem_cons_self)
  have al := Prt.allQ_length c' pg
  rw [hr, List.length_cons] at al
  have rat : ∀ b ∈ r, Prt.atB c' pg (b : Int) = true := fun b hb => Prt.allQ_at hc _ (by rw [hr]; exact List.mem_cons_of_mem _ hb)
  have old : ∀ y ∈ k.p c', Prt.atB c' y.page ((pg * 64 : Nat) : Int) = false := fun y hy => by
    refine Prt.at_no a0 ?_
    have e := h.pool c' hc y hy
    apply Classical.byContradiction
    intro q
    have := span_eq h.whole.good e hs (by show (y.page : Int) < (pg : Int) + 8; omega) (by show (pg : Int) < (y.page : Int) + 8; omega)
    injection this with z
    exact ne y hy z
  have nO : ¬ O ((pg * 64 : Nat) : Int) (c' : Int) := fun o => by
    obtain ⟨_, y, hy, e1, _⟩ := h.outS _ _ o (by omega)
    rw [Int.toNat_natCast] at *
    rw [old y hy] at e1
    cases e1
  have gi := (h.good c' hc).ins hi up
  have gL : Prt.GoodP P c' ((k.p c').take i ++ ⟨pg, r⟩ :: (k.p c').drop i) := by
    have hx : (Prt.insQ c' (k.p c') i pg)[i]? = some ⟨pg, Prt.allQ c' pg⟩ := by
      unfold Prt.insQ
      rw [List.getElem?_append_right (by rw [List.length_take]; omega), List.length_take, Nat.min_eq_left hil, Nat.sub_self]
      rfl
    have := gi.turn hx r rat an.2
    unfold Prt.insQ at this
    rwa [List.set_append_right _ _ (by rw [List.length_take]; omega), List.length_take, Nat.min_eq_left hil, Nat.sub_self, List.set_cons_zero] at this
  have mem : ∀ d, ∀ y ∈ (k.pool c' ((k.p c').take i ++ ⟨pg, r⟩ :: (k.p c').drop i)).p d, (d = c' ∧ y = ⟨pg, r⟩) ∨ y ∈ k.p d := by
    intro d y hy
    by_cases e : d = c'
    · subst e
      rw [K.pool_at] at hy
      rcases List.mem_append.1 hy with z | z
      · exact .inr (List.mem_of_mem_take z)
      · rcases List.mem_cons.1 z with z | z
        · exact .inl ⟨rfl, z⟩
        · exact .inr (List.mem_of_mem_drop z)
    · rw [K.pool_ne _ _ e] at hy; exact .inr hy
  have keep : ∀ d, ∀ y ∈ k.p d, y ∈ (k.pool c' ((k.p c').take i ++ ⟨pg, r⟩ :: (k.p c').drop i)).p d := by
    intro d y hy
    by_cases e : d = c'
    · subst e
      rw [K.pool_at]
      rw [← List.take_append_drop i (k.p d)] at hy
      rcases List.mem_append.1 hy with z | z
      · exact List.mem_append.2 (.inl z)
      · exact List.mem_append.2 (.inr (List.mem_cons_of_mem _ z))
    · rw [K.pool_ne _ _ e]; exact hy
  have new : (⟨pg, r⟩ : Prt.Q) ∈ (k.pool c' ((k.p c').take i ++ ⟨pg, r⟩ :: (k.p c').drop i)).p c' := by rw [K.pool_at]; simp
  refine ⟨nO, h.whole, fun d hd => ?_, fun d hd y hy => ?_, fun d hd y hy => ?_, fun q hq => ?_, nd.sublist (mid_sub _ _ _), h.right, h.big, fun z => ?_, fun b d o d4 => ?_, fun b d o d4 => ?_, fun t ht => ?_, fun d hd y hy b hb' => ?_⟩
  · show Prt.GoodP P d ((k.pool c' _).p d)
    by_cases e : d = c'
    · subst e; rw [K.pool_at]; exact gL
    · rw [K.pool_ne _ _ e]; exact h.good d hd
  · rcases mem d y hy with ⟨rfl, rfl⟩ | z
    · exact hs
    · exact h.pool d hd y z
  · rcases mem d y hy with ⟨rfl, rfl⟩ | z
    · show r.length < _; omega
    · exact h.some_ d hd y z
  · obtain ⟨d, d4, ht, n⟩ := h.back q (by rw [hb]; exact mid_in hq)
    refine ⟨d, d4, ht, fun y hy => ?_⟩
    rcases mem d y hy with ⟨_, rfl⟩ | z
    · exact fun e => nodup_mid nd hq e.symm
    · exact n y z
  · have := (h.off z).1
    rw [hb] at this
    simp at this
  · rcases o with ⟨rfl, rfl⟩ | o
    · refine ⟨by omega, ⟨pg, r⟩, ?_, ?_, ?_⟩
      · rw [Int.toNat_natCast]; exact new
      · rw [Int.toNat_natCast]; exact a0
      · rw [Int.toNat_natCast]; exact an.1
    · obtain ⟨d0, y, hy, e1, e2⟩ := h.outS b d o d4
      exact ⟨d0, y, keep _ y hy, e1, e2⟩
  · rcases o with ⟨_, e⟩ | o
    · omega
    · exact h.outL b d o d4
  · rcases h.cover t ht with ⟨c0, c4, n8, z⟩ | ⟨t4, t7, np, z⟩
    · refine .inl ⟨c0, c4, n8, ?_⟩
      rcases z with ⟨y, hy, e⟩ | z
      · exact .inl ⟨y, keep _ y hy, e⟩
      · by_cases e : t.a = (pg : Int)
        · have : t = sp (pg : Int) 8 (c' : Int) := span_at h.whole.good ht hs e
          refine .inl ⟨⟨pg, r⟩, ?_, e.symm⟩
          rw [this]
          show _ ∈ (k.pool c' _).p ((c' : Int)).toNat
          rw [Int.toNat_natCast]
          exact new
        · rw [hb] at z; exact .inr (mid_mem z e)
    · exact .inr ⟨t4, t7, np, z.imp id .inr⟩
  · rcases mem d y hy with ⟨rfl, rfl⟩ | z
    · simp only [hr] at hb'
      rcases List.mem_cons.1 hb' with rfl | m
      · exact .inr (.inl ⟨rfl, rfl⟩)
      · exact .inl m
    · exact (h.stk d hd y z b hb').imp id .inr
end Go.Proofs.YtcndilpaijapkaaGreat.Sto
/- An allocator's steps as the program takes them (a small stack, a large one, each given back, the phase turned), in ways: what each callee answers, and what is so behind it. Own work; no program is walked here. -/
namespace Go.Proofs.YtcndilpaijapkaaGreat.Sto
open Go.RowKit
variable {P : Nat} {k : K} {O : Int → Int → Prop}

def Plus (O : Int → Int → Prop) (a c : Int) : Int → Int → Prop := fun b d => (b = a ∧ d = c) ∨ O b d
def Minus (O : Int → Int → Prop) (a c : Int) : Int → Int → Prop := fun b d => O b d ∧ ¬ (b = a ∧ d = c)
theorem split_at {α : Type} {l : List α} {i : Nat} {x : α} (h : l[i]? = some x) : l = l.take i ++ x :: l.drop (i + 1) := by
  obtain ⟨hk, rfl⟩ := List.getElem?_eq_some_iff.1 h
  rw [← List.drop_eq_getElem_cons hk, List.take_append_drop]
/-- The phase does not tell where nothing is kept back and nothing waits. -/
theorem Inv.phase {rl : List R} {sl : List S} {p : Nat → List Prt.Q} {big : List Bg.R} {on : Bool} {back : List Int} (h : Inv P ⟨rl, sl, p, big, true, back⟩ O) (e : on = false → back = [] ∧ big = []) : Inv P ⟨rl, sl, p, big, on, back⟩ O := by
  cases on with
  | true => exact h
  | false => exact h.off_ (e rfl).1 (e rfl).2 false
theorem all_head {c pg : Nat} (hc : c < 4) : ∃ r, Prt.allQ c pg = (pg * 64) :: r := by
  have pp := Prt.per_pos hc
  have e := Prt.drop_at (Prt.allQ_get (c := c) (page := pg) (k := 0) pp.1)
  rw [List.drop_zero] at e
  refine ⟨(Prt.allQ c pg).drop 1, e.trans ?_⟩
  unfold Prt.stk
  rw [Nat.zero_mul, Nat.add_zero]
/-- A stack of a small class. -/
inductive TakeS (P : Nat) (k : K) (O : Int → Int → Prop) (c : Nat) : Prop
  | has (a : Nat) (h1 : Prt.takeC (k.p c) = 0) (h2 : Prt.takeA (k.p c) = (a : Int)) (h3 : ¬ O (a : Int) (c : Int)) (h4 : Inv P (k.pool c (Prt.takeL (k.p c))) (Plus O (a : Int) (c : Int)))
  | none (h1 : Prt.takeC (k.p c) = 2) (h2 : Prt.takeA (k.p c) = 0) (h3 : Prt.takeL (k.p c) = k.p c) (h4 : allocA k.rl k.sl 8 (c : Int) = ⟨0, 3, k.rl, k.sl⟩)
  | new (pg : Nat) (rl : List R) (sl : List S) (h1 : Prt.takeC (k.p c) = 2) (h2 : Prt.takeA (k.p c) = 0) (h3 : Prt.takeL (k.p c) = k.p c) (h4 : allocA k.rl k.sl 8 (c : Int) = ⟨(pg : Int), 0, rl, sl⟩) (h5 : Prt.addC P (k.p c) (pg : Int) = 0) (h6 : Prt.takeC (Prt.addL P c (k.p c) (pg : Int)) = 0) (h7 : Prt.takeA (Prt.addL P c (k.p c) (pg : Int)) = ((pg * 64 : Nat) : Int)) (h8 : ¬ O ((pg * 64 : Nat) : Int) (c : Int)) (h9 : Inv P (({ k with rl := rl, sl := sl } : K).pool c (Prt.takeL (Prt.addL P c (k.p c) (pg : Int)))) (Plus O ((pg * 64 : Nat) : Int) (c : Int))) (h10 : pg + 8 ≤ P) (h11 : ∀ d, d < 4 → ∀ y ∈ k.p d, y.page + 8 ≤ pg ∨ pg + 8 ≤ y.page)
theorem Inv.takeS (h : Inv P k O) {c : Nat} (hc : c < 4) : TakeS P k O c := by
  rcases Prt.takeQ_ways (k.p c) with ⟨e, none_⟩ | ⟨i, pg, a, r, _, hx, e⟩
  · have h1 : Prt.takeC (k.p c) = 2 := by unfold Prt.takeC; rw [e]
    have h2 : Prt.takeA (k.p c) = 0 := by unfold Prt.takeA; rw [e]
    have h3 : Prt.takeL (k.p c) = k.p c := by unfold Prt.takeL; rw [e]
    cases f : fitAt k.rl 8 with
    | none => exact .none h1 h2 h3 (allocA_full ⟨by omega, by omega, by omega⟩ f)
    | some ix =>
      obtain ⟨i, x⟩ := ix
      have fi := fit_at_some f
      have hx := h.whole.right.mem (List.mem_of_getElem? fi.at_)
      have big := fi.big
      obtain ⟨pg, hpg⟩ : ∃ pg : Nat, x.1 = (pg : Int) := ⟨x.1.toNat, by omega⟩
      have al := allocA_ok (sl := k.sl) (cl := (c : Int)) ⟨by omega, by omega, by omega⟩ f
      have ha := h.on_.allocBack (c := c) rfl hc fi
      rw [hpg] at al ha
      have up : pg + 8 ≤ P := by omega
      have hs : sp (pg : Int) 8 (c : Int) ∈ insL k.sl (sp (pg : Int) 8 (c : Int)) := mem_ins.2 (.inl rfl)
      have pl : ∃ j, Prt.placeQ pg (k.p c) = some j := by
        cases q : Prt.placeQ pg (k.p c) with
        | some j => exact ⟨j, rfl⟩
        | none =>
          exfalso
          have far : ∀ y ∈ k.p c, y.page + 8 ≤ pg ∨ pg + 8 ≤ y.page := fun y hy => by
            have := h.fresh fi (by omega) (h.pool c hc y hy)
            simp only [hpg] at this
            omega
          have asc := (h.good c hc).asc
          generalize k.p c = L at q far asc
          induction L with
          | nil => cases q
          | cons y t ih =>
            rcases far y List.mem_cons_self with z | z
            · have st : Prt.placeQ pg (y :: t) = (Prt.placeQ pg ((y :: t).drop 1)).map (· + 1) := Prt.placeQ_go (by simp) (fun w hw => by simp at hw; rw [hw]; exact z)
              rw [q] at st
              cases q2 : Prt.placeQ pg t with
              | none => exact ih q2 (fun w hw => far w (List.mem_cons_of_mem _ hw)) (List.pairwise_cons.1 asc).2
              | some j => rw [List.drop_one, List.tail_cons, q2] at st; cases st
            · have := Prt.placeQ_here (L := y :: t) (k := 0) (x := y) rfl (fun w hw => by simp at hw) z
              rw [q] at this
              cases this
      obtain ⟨j, pl⟩ := pl
      obtain ⟨r, hr⟩ := all_head (pg := pg) hc
      obtain ⟨nO, ad⟩ := ha.adopt (l1 := k.back) (l2 := []) hc rfl hs pl hr
      have hadd : Prt.addL P c (k.p c) (pg : Int) = Prt.insQ c (k.p c) j pg := by
        unfold Prt.addL
        rw [if_neg (by omega), Int.toNat_natCast, pl]
      have hjl := (Prt.placeQ_some pl (h.good c hc).asc).1
      have hget : (Prt.insQ c (k.p c) j pg)[j]? = some ⟨pg, (pg * 64) :: r⟩ := by
        unfold Prt.insQ
        rw [hr, List.getElem?_append_right (by rw [List.length_take]; omega), List.length_take, Nat.min_eq_left hjl, Nat.sub_self]
        rfl
      have htake := Prt.takeQ_at (L := Prt.insQ c (k.p c) j pg) (fun y hy => by
        unfold Prt.insQ at hy
        rw [List.take_append_of_le_length (by rw [List.length_take]; omega)] at hy
        exact none_ y (List.mem_of_mem_take (List.mem_of_mem_take hy))) hget
      have hset : (Prt.insQ c (k.p c) j pg).set j ⟨pg, r⟩ = (k.p c).take j ++ ⟨pg, r⟩ :: (k.p c).drop j := by
        unfold Prt.insQ
        rw [List.set_append_right _ _ (by rw [List.length_take]; omega), List.length_take, Nat.min_eq_left hjl, Nat.sub_self, List.set_cons_zero]
      refine .new pg _ _ h1 h2 h3 al ?_ ?_ ?_ nO ?_ up (fun d hd y hy => by
        have := h.fresh fi (by omega) (h.pool d hd y hy)
        simp only [hpg] at this
        omega)
      · unfold Prt.addC
        rw [if_neg (by omega), Int.toNat_natCast, pl]
      · rw [hadd]; unfold Prt.takeC; rw [htake]
      · rw [hadd]; unfold Prt.takeA; rw [htake]
      · rw [hadd]
        have : Prt.takeL (Prt.insQ c (k.p c) j pg) = (k.p c).take j ++ ⟨pg, r⟩ :: (k.p c).drop j := by unfold Prt.takeL; rw [htake, ← hset]
        rw [this]
        obtain ⟨krl, ksl, kp, kbig, kon, kback⟩ := k
        simp only [List.append_nil] at ad
        exact Inv.phase (on := kon) ad h.off
  · have hT := h.take hc hx
    refine .has a ?_ ?_ hT.1 ?_
    · unfold Prt.takeC; rw [e]
    · unfold Prt.takeA; rw [e]
    · have : Prt.takeL (k.p c) = (k.p c).set i ⟨pg, r⟩ := by unfold Prt.takeL; rw [e]
      rw [this]
      exact hT.2
/-- A stack of a large class. -/
inductive TakeB (P : Nat) (k : K) (O : Int → Int → Prop) (c : Int) : Prop
  | has (h1 : Bg.takeC k.big c = 0) (h3 : ¬ O (Bg.takeA k.big c) c) (h4 : Inv P { k with big := Bg.takeL k.big c } (Plus O (Bg.takeA k.big c) c))
  | none (h1 : Bg.takeC k.big c = 2) (h4 : allocA k.rl k.sl (pagesI c) c = ⟨0, 3, k.rl, k.sl⟩)
  | new (pg : Nat) (rl : List R) (sl : List S) (h1 : Bg.takeC k.big c = 2) (h4 : allocA k.rl k.sl (pagesI c) c = ⟨(pg : Int), 0, rl, sl⟩) (h8 : ¬ O ((pg : Int) * 64) c) (h9 : Inv P { k with rl := rl, sl := sl } (Plus O ((pg : Int) * 64) c)) (h10 : pg < P)
theorem Inv.takeB (h : Inv P k O) {c : Int} (c4 : 4 ≤ c) (c7 : c ≤ 7) : TakeB P k O c := by
  have w := pages_large c4 c7
  rcases Bg.take_ways k.big c with ⟨_, _, h1, _, _⟩ | ⟨x, hx, hc, _, h1, hL, hA⟩
  · cases f : fitAt k.rl (pagesI c) with
    | none => exact .none h1 (allocA_full ⟨by omega, by omega, by omega⟩ f)
    | some ix =>
      obtain ⟨i, x⟩ := ix
      have fi := fit_at_some f
      have hx := h.whole.right.mem (List.mem_of_getElem? fi.at_)
      have big := fi.big
      obtain ⟨pg, hpg⟩ : ∃ pg : Nat, x.1 = (pg : Int) := ⟨x.1.toNat, by omega⟩
      have al := allocA_ok (sl := k.sl) (cl := c) ⟨by omega, by omega, by omega⟩ f
      have ha := h.allocLarge c4 c7 fi
      rw [hpg] at al ha
      exact .new pg _ _ h1 al ha.1 ha.2 (by omega)
  · have t := h.takeBig (split_at hx)
    rw [← hL, ← hA, hc] at t
    exact .has h1 t.1 t.2
/-- A stack of a small class is given back. -/
inductive GiveS (P : Nat) (k : K) (O : Int → Int → Prop) (a : Int) (c : Nat) : Prop
  | stay (pg : Int) (h1 : Prt.putR c (k.p c) a = ((pg, false, 0), Prt.putL c (k.p c) a)) (h4 : Inv P (k.pool c (Prt.putL c (k.p c) a)) (Minus O a (c : Int)))
  | back (pg : Int) (h1 : Prt.putR c (k.p c) a = ((pg, true, 0), Prt.putL c (k.p c) a)) (h2 : k.on = true) (h3 : Lq.putC true k.back pg = 0) (h5 : Lq.putL true k.back pg = k.back ++ [pg]) (h4 : Inv P { k.pool c (Prt.putL c (k.p c) a) with back := k.back ++ [pg] } (Minus O a (c : Int)))
  | gone (pg : Int) (h1 : Prt.putR c (k.p c) a = ((pg, true, 0), Prt.putL c (k.p c) a)) (h2 : k.on = false) (h3 : (freeA k.rl k.sl pg).e = 0) (h4 : Inv P { k.pool c (Prt.putL c (k.p c) a) with rl := (freeA k.rl k.sl pg).rl, sl := (freeA k.rl k.sl pg).sl } (Minus O a (c : Int)))
theorem Inv.giveS (h : Inv P k O) {c : Nat} (hc : c < 4) {a : Int} (o : O a (c : Int)) : GiveS P k O a c := by
  obtain ⟨i, x, m, rfl, hx, ha, hn, hb⟩ := h.found hc o
  have hr := Prt.putR_at hb hx ha
  rw [Int.toNat_natCast, if_neg hn] at hr
  by_cases d : x.free.length + 1 = Prt.perN c
  · rw [if_pos d] at hr
    have hL : Prt.putL c (k.p c) (m : Int) = (k.p c).take i ++ (k.p c).drop (i + 1) := by unfold Prt.putL; rw [hr]
    have hR : Prt.putR c (k.p c) (m : Int) = (((x.page : Int), true, 0), Prt.putL c (k.p c) (m : Int)) := by rw [hL, hr]
    have up := h.pool_page hc (List.mem_of_getElem? hx)
    have pp := h.pages
    cases on : k.on with
    | true =>
      obtain ⟨nb, lv⟩ := h.leave on hc hx ha hn d
      have may : Lq.mayI (x.page : Int) = true := decide_eq_true (by omega)
      have ov : Lq.overI k.back (x.page : Int) = false := by
        cases e : Lq.overI k.back (x.page : Int) with
        | false => rfl
        | true =>
          obtain ⟨q, hq, z⟩ := List.any_eq_true.1 e
          obtain ⟨d', d4, hs, _⟩ := h.back q hq
          have z := of_decide_eq_true z
          have := span_eq h.whole.good hs (h.pool c hc x (List.mem_of_getElem? hx)) (by show q < (x.page : Int) + 8; omega) (by show (x.page : Int) < q + 8; omega)
          injection this with z1
          exact absurd (z1 ▸ hq) nb
      rw [← hL] at lv
      refine .back (x.page : Int) hR on ?_ ?_ lv
      · unfold Lq.putC; rw [may, ov]; rfl
      · unfold Lq.putL; rw [may, ov]; rfl
    | false =>
      obtain ⟨nb, lv⟩ := h.on_.leave rfl hc hx ha hn d
      obtain ⟨b0, g0⟩ := h.off on
      have e1 : ({ k with on := true } : K).p c = k.p c := rfl
      rw [e1, ← hL] at lv
      obtain ⟨e0, em⟩ := lv.emptyBack (l1 := []) (l2 := []) (q := (x.page : Int)) rfl (by show k.back ++ [(x.page : Int)] = _; rw [b0])
      refine .gone (x.page : Int) hR on e0 ?_
      clear hL hR hr
      obtain ⟨krl, ksl, kp, kbig, kon, kback⟩ := k
      simp only at on b0 g0
      subst on; subst b0; subst g0
      exact Inv.phase (on := false) em (fun _ => ⟨rfl, rfl⟩)
  · rw [if_neg d] at hr
    have hL : Prt.putL c (k.p c) (m : Int) = (k.p c).set i ⟨x.page, m :: x.free⟩ := by unfold Prt.putL; rw [hr]
    have pt := h.put hc hx ha hn d
    rw [← hL] at pt
    exact .stay (x.page : Int) (by rw [hL, hr]) pt
/-- A stack of a large class is given back. -/
inductive GiveB (P : Nat) (k : K) (O : Int → Int → Prop) (a c : Int) : Prop
  | back (h2 : k.on = true) (h3 : Bg.putC k.big (a, c) = 0) (h4 : Inv P { k with big := Bg.putL k.big (a, c) } (Minus O a c))
  | gone (h2 : k.on = false) (h3 : (freeA k.rl k.sl (a / 64)).e = 0) (h4 : Inv P { k with rl := (freeA k.rl k.sl (a / 64)).rl, sl := (freeA k.rl k.sl (a / 64)).sl } (Minus O a c))
theorem Inv.giveB (h : Inv P k O) {a c : Int} (o : O a c) (c4 : 4 ≤ c) : GiveB P k O a c := by
  cases on : k.on with
  | true =>
    obtain ⟨m, n, g⟩ := h.giveBig on o c4
    have hL : Bg.putL k.big (a, c) = Bg.insL k.big (a, c) := by unfold Bg.putL; rw [if_pos m, if_neg (by rw [n]; simp)]
    exact .back on (by unfold Bg.putC; rw [if_pos m, if_neg (by rw [n]; simp)]) (by rw [hL]; exact g)
  | false =>
    obtain ⟨b0, g0⟩ := h.off on
    obtain ⟨m, n, g⟩ := h.on_.giveBig rfl o c4
    have hi : Bg.insL k.big (a, c) = [(a, c)] := by rw [g0]; rfl
    obtain ⟨e0, em⟩ := g.emptyBig (l1 := []) (l2 := []) (b := (a, c)) rfl hi
    refine .gone on e0 ?_
    obtain ⟨krl, ksl, kp, kbig, kon, kback⟩ := k
    simp only at on b0 g0
    subst on; subst b0; subst g0
    exact Inv.phase (on := false) em (fun _ => ⟨rfl, rfl⟩)
/-! ### The same as plain functions -/
def takeSR (P : Nat) (k : K) (c : Nat) : K × Int × Int :=
  if Prt.takeC (k.p c) = 0 then (k.pool c (Prt.takeL (k.p c)), Prt.takeA (k.p c), 0)
  else if (allocA k.rl k.sl 8 (c : Int)).e = 0 then (({ k with rl := (allocA k.rl k.sl 8 (c : Int)).rl, sl := (allocA k.rl k.sl 8 (c : Int)).sl } : K).pool c (Prt.takeL (Prt.addL P c (k.p c) (allocA k.rl k.sl 8 (c : Int)).x)), Prt.takeA (Prt.addL P c (k.p c) (allocA k.rl k.sl 8 (c : Int)).x), 0)
  else (k, 0, 3)
def takeLR (k : K) (c : Int) : K × Int × Int :=
  if Bg.takeC k.big c = 0 then ({ k with big := Bg.takeL k.big c }, Bg.takeA k.big c, 0)
  else if (allocA k.rl k.sl (pagesI c) c).e = 0 then ({ k with rl := (allocA k.rl k.sl (pagesI c) c).rl, sl := (allocA k.rl k.sl (pagesI c) c).sl }, (allocA k.rl k.sl (pagesI c) c).x * 64, 0)
  else (k, 0, 3)
def giveSR (k : K) (a : Int) (c : Nat) : K :=
  if (Prt.putG c (k.p c) a) then
    if k.on then { k.pool c (Prt.putL c (k.p c) a) with back := Lq.putL true k.back (Prt.putP c (k.p c) a) }
    else { k.pool c (Prt.putL c (k.p c) a) with rl := (freeA k.rl k.sl (Prt.putP c (k.p c) a)).rl, sl := (freeA k.rl k.sl (Prt.putP c (k.p c) a)).sl }
  else k.pool c (Prt.putL c (k.p c) a)
def giveLR (k : K) (a c : Int) : K :=
  if k.on then { k with big := Bg.putL k.big (a, c) } else { k with rl := (freeA k.rl k.sl (a / 64)).rl, sl := (freeA k.rl k.sl (a / 64)).sl }
/-- A stack is taken, or there is no room. -/
structure Took (P : Nat) (k : K) (O : Int → Int → Prop) (c : Int) (r : K × Int × Int) : Prop where
  way : (r.2.2 = 0 ∧ ¬ O r.2.1 c ∧ Inv P r.1 (Plus O r.2.1 c)) ∨ (r.2.2 = 3 ∧ r.2.1 = 0 ∧ r.1 = k)
theorem Inv.tookS (h : Inv P k O) {c : Nat} (hc : c < 4) : Took P k O (c : Int) (takeSR P k c) := by
  unfold takeSR
  cases h.takeS hc with
  | has a h1 h2 h3 h4 =>
    rw [if_pos h1, h2]
    exact ⟨.inl ⟨rfl, h3, h4⟩⟩
  | none h1 h2 h3 h4 =>
    rw [if_neg (by omega), h4, if_neg (show ¬ (3 : Int) = 0 by decide)]
    exact ⟨.inr ⟨rfl, rfl, rfl⟩⟩
  | new pg rl sl h1 h2 h3 h4 h5 h6 h7 h8 h9 h10 h11 =>
    rw [if_neg (by omega), h4, if_pos rfl]
    simp only [h7]
    exact ⟨.inl ⟨rfl, h8, h9⟩⟩
theorem Inv.tookL (h : Inv P k O) {c : Int} (c4 : 4 ≤ c) (c7 : c ≤ 7) : Took P k O c (takeLR k c) := by
  unfold takeLR
  cases h.takeB c4 c7 with
  | has h1 h3 h4 =>
    rw [if_pos h1]
    exact ⟨.inl ⟨rfl, h3, h4⟩⟩
  | none h1 h4 =>
    rw [if_neg (by omega), h4, if_neg (show ¬ (3 : Int) = 0 by decide)]
    exact ⟨.inr ⟨rfl, rfl, rfl⟩⟩
  | new pg rl sl h1 h4 h8 h9 h10 =>
    rw [if_neg (by omega), h4, if_pos rfl]
    exact ⟨.inl ⟨rfl, h8, h9⟩⟩
theorem Inv.gaveS (h : Inv P k O) {c : Nat} (hc : c < 4) {a : Int} (o : O a (c : Int)) : Inv P (giveSR k a c) (Minus O a (c : Int)) := by
  unfold giveSR Prt.putG Prt.putP
  cases h.giveS hc o with
  | stay pg h1 h4 =>
    rw [h1, if_neg (by simp)]
    exact h4
  | back pg h1 h2 h3 h5 h4 =>
    rw [h1, if_pos rfl, if_pos h2]
    simp only [h5]
    exact h4
  | gone pg h1 h2 h3 h4 =>
    rw [h1, if_pos rfl, if_neg (by rw [h2]; simp)]
    exact h4
theorem Inv.gaveL (h : Inv P k O) {a c : Int} (o : O a c) (c4 : 4 ≤ c) : Inv P (giveLR k a c) (Minus O a c) := by
  unfold giveLR
  cases h.giveB o c4 with
  | back h2 h3 h4 => rw [if_pos h2]; exact h4
  | gone h2 h3 h4 => rw [if_neg (by rw [h2]; simp)]; exact h4
/-! ### The phase is turned off -/
def freeAll (rl : List R) (sl : List S) : List Int → List R × List S
  | [] => (rl, sl)
  | q :: t => freeAll (freeA rl sl q).rl (freeA rl sl q).sl t
def bigPages (l : List Bg.R) : List Int := l.map fun b => b.1 / 64
/-- One of those that are kept back, the first one, is freed. -/
theorem Inv.dropBack {rl : List R} {sl : List S} {p : Nat → List Prt.Q} {big : List Bg.R} {q : Int} {t : List Int} (h : Inv P ⟨rl, sl, p, big, true, q :: t⟩ O) : (freeA rl sl q).e = 0 ∧ Inv P ⟨(freeA rl sl q).rl, (freeA rl sl q).sl, p, big, true, t⟩ O := h.emptyBack (l1 := []) rfl rfl
theorem Inv.dropBig {rl : List R} {sl : List S} {p : Nat → List Prt.Q} {back : List Int} {b : Bg.R} {t : List Bg.R} (h : Inv P ⟨rl, sl, p, b :: t, true, back⟩ O) : (freeA rl sl (b.1 / 64)).e = 0 ∧ Inv P ⟨(freeA rl sl (b.1 / 64)).rl, (freeA rl sl (b.1 / 64)).sl, p, t, true, back⟩ O := h.emptyBig (l1 := []) rfl rfl
theorem Inv.drainBack {p : Nat → List Prt.Q} {big : List Bg.R} : ∀ {back : List Int} {rl : List R} {sl : List S}, Inv P ⟨rl, sl, p, big, true, back⟩ O → Inv P ⟨(freeAll rl sl back).1, (freeAll rl sl back).2, p, big, true, []⟩ O
  | [], _, _, h => h
  | q :: t, rl, sl, h => by
    show Inv P ⟨(freeAll (freeA rl sl q).rl (freeA rl sl q).sl t).1, (freeAll (freeA rl sl q).rl (freeA rl sl q).sl t).2, p, big, true, []⟩ O
    exact Inv.drainBack h.dropBack.2
theorem Inv.drainBig {p : Nat → List Prt.Q} {back : List Int} : ∀ {big : List Bg.R} {rl : List R} {sl : List S}, Inv P ⟨rl, sl, p, big, true, back⟩ O → Inv P ⟨(freeAll rl sl (bigPages big)).1, (freeAll rl sl (bigPages big)).2, p, [], true, back⟩ O
  | [], _, _, h => h
  | b :: t, rl, sl, h => by
    show Inv P ⟨(freeAll (freeA rl sl (b.1 / 64)).rl (freeA rl sl (b.1 / 64)).sl (bigPages t)).1, (freeAll (freeA rl sl (b.1 / 64)).rl (freeA rl sl (b.1 / 64)).sl (bigPages t)).2, p, [], true, back⟩ O
    exact Inv.drainBig h.dropBig.2
def gcK (k : K) (on : Bool) : K := if on then { k with on := true } else
  let s := freeAll k.rl k.sl k.back
  let t := freeAll s.1 s.2 (bigPages k.big)
  ⟨t.1, t.2, k.p, [], false, []⟩
theorem Inv.gc (h : Inv P k O) (on : Bool) : Inv P (gcK k on) O := by
  unfold gcK
  cases on with
  | true => rw [if_pos rfl]; exact h.on_
  | false =>
    rw [if_neg (by simp)]
    obtain ⟨krl, ksl, kp, kbig, kon, kback⟩ := k
    have d := h.on_.drainBack.drainBig
    exact Inv.phase (on := false) d (fun _ => ⟨rfl, rfl⟩)
/-- Where nothing is out, and the phase is off, there is one run. -/
theorem Inv.quiet (h : Inv P k O) (on : k.on = false) (none_ : ∀ a c, ¬ O a c) : k.rl = [(0, (P : Int))] ∧ k.sl = [] ∧ k.big = [] ∧ k.back = [] ∧ ∀ c, c < 4 → k.p c = [] := by
  obtain ⟨b0, g0⟩ := h.off on
  have pools : ∀ c, c < 4 → k.p c = [] := fun c hc => by
    cases e : k.p c with
    | nil => rfl
    | cons x t =>
      exfalso
      have hx : x ∈ k.p c := by rw [e]; exact List.mem_cons_self
      have all : ∀ a ∈ Prt.allQ c x.page, a ∈ x.free := fun a ha => (h.stk c hc x hx a ha).resolve_right (none_ _ _)
      have fw := h.some_ c hc x hx
      have nd := Prt.allQ_nodup (page := x.page) hc
      have len := Prt.allQ_length c x.page
      have : ∀ (l m : List Nat), l.Nodup → (∀ a ∈ l, a ∈ m) → l.length ≤ m.length := by
        intro l
        induction l with
        | nil => intro m _ _; simp
        | cons a t ih =>
          intro m nd sub
          have nd := List.nodup_cons.1 nd
          have ha := sub a List.mem_cons_self
          have := ih (m.erase a) nd.2 (fun b hb => (List.mem_erase_of_ne (fun e => by subst e; exact nd.1 hb)).2 (sub b (List.mem_cons_of_mem _ hb)))
          rw [List.length_erase_of_mem ha] at this
          have : 0 < m.length := List.length_pos_of_mem ha
          simp only [List.length_cons]
          omega
      have := this _ _ nd all
      omega
  have spans : k.sl = [] := by
    cases e : k.sl with
    | nil => rfl
    | cons s t =>
      exfalso
      rcases h.cover s (by rw [e]; exact List.mem_cons_self) with ⟨c0, c4, _, q⟩ | ⟨_, _, _, q⟩
      · rcases q with ⟨x, hx, _⟩ | q
        · rw [pools _ (by omega)] at hx; cases hx
        · rw [b0] at q; cases q
      · rcases q with q | q
        · rw [g0] at q; cases q
        · exact none_ _ _ q
  refine ⟨?_, spans, g0, b0, pools⟩
  have w := h.whole
  rw [spans] at w
  exact w.back
end Go.Proofs.YtcndilpaijapkaaGreat.Sto
/- A store's live stacks beside its parts: what an alloc and a free make of them, and that what is so at any time stays so; an alloc is one that a model accepts. Own work; no program is walked here. -/
namespace Go.Proofs.YtcndilpaijapkaaGreat.Sto
open Go.RowKit
variable {P : Nat} {k : K} {live : List Lm.S}

def outOf (live : List Lm.S) (a c : Int) : Prop := ∃ x ∈ live, x.a = a ∧ x.n = c
structure Sv (P : Nat) (k : K) (live : List Lm.S) : Prop where
  inv : Inv P k (outOf live)
  val : Lm.Valid ((P : Int) * 64) live
  own : ∀ x ∈ live, x.c = -1
theorem lins_mem {l : List Lm.S} {x y : Lm.S} : y ∈ Lm.insL l x ↔ y = x ∨ y ∈ l := by
  unfold Lm.insL
  rw [List.mem_append, List.mem_cons]
  conv => rhs; rw [← List.take_append_drop (Lm.placeL l x.a) l, List.mem_append]
  constructor
  · rintro (h | h | h)
    · exact .inr (.inl h)
    · exact .inl h
    · exact .inr (.inr h)
  · rintro (h | h | h)
    · exact .inr (.inl h)
    · exact .inl h
    · exact .inr (.inr h)
/-- A class, small or large, of what is asked for. -/
theorem class_ways {n : Int} (h : classB n = true) : (smallB (classI n) = true ∧ ∃ c : Nat, classI n = (c : Int) ∧ c < 4) ∨ (smallB (classI n) = false ∧ 4 ≤ classI n ∧ classI n ≤ 7) := by
  have b := of_decide_eq_true h
  have u := class_up n b.1 b.2
  by_cases c : classI n < 4
  · exact .inl ⟨smallB_in _ u.1 c, (classI n).toNat, by omega, by omega⟩
  · exact .inr ⟨smallB_out _ (by omega), by omega, u.2.1⟩
def tookR (P : Nat) (k : K) (c : Int) : K × Int × Int := if smallB c then takeSR P k c.toNat else takeLR k c
def allocR (P : Nat) (k : K) (live : List Lm.S) (n : Int) : K × List Lm.S × Int × Int :=
  if classB n then (if (tookR P k (classI n)).2.2 = 0 then ((tookR P k (classI n)).1, Lm.insL live (Lm.newS n (tookR P k (classI n)).2.1), (tookR P k (classI n)).2.1, 0) else (k, live, 0, 3))
  else (k, live, 0, 1)
theorem Sv.took (h : Sv P k live) {n : Int} (hn : classB n = true) : Took P k (outOf live) (classI n) (tookR P k (classI n)) := by
  unfold tookR
  rcases class_ways hn with ⟨s, c, e, hc⟩ | ⟨s, c4, c7⟩
  · rw [if_pos s, e, Int.toNat_natCast]
    exact h.inv.tookS hc
  · rw [if_neg (by rw [s]; simp)]
    exact h.inv.tookL c4 c7
/-- What was taken lies apart from all that is live; with it all is as it should be. -/
theorem Sv.alloc (h : Sv P k live) {n : Int} (hn : classB n = true) (h0 : (tookR P k (classI n)).2.2 = 0) :
    Lm.roomB ((P : Int) * 64) live n (tookR P k (classI n)).2.1 = true ∧ Sv P (tookR P k (classI n)).1 (Lm.insL live (Lm.newS n (tookR P k (classI n)).2.1)) := by
  rcases (h.took hn).way with ⟨_, nO, iv⟩ | ⟨e, _⟩
  · generalize (tookR P k (classI n)).2.1 = a at *
    generalize (tookR P k (classI n)).1 = k' at *
    have ly := iv.lies (a := a) (c := classI n) (.inl ⟨rfl, rfl⟩)
    have room : Lm.roomB ((P : Int) * 64) live n a = true := by
      unfold Lm.roomB Lm.fitB
      rw [hn, ly.yes]
      have : Lm.anyB live a (wordsI (classI n)) = false := by
        cases e : Lm.anyB live a (wordsI (classI n)) with
        | false => rfl
        | true =>
          obtain ⟨x, hx, z⟩ := List.any_eq_true.1 e
          have z := of_decide_eq_true z
          have o : outOf live x.a x.n := ⟨x, hx, rfl, rfl⟩
          have ap := iv.apart (a := a) (c := classI n) (b := x.a) (d := x.n) (.inl ⟨rfl, rfl⟩) (.inr o) (fun q => nO (by rw [q.1, q.2]; exact o))
          unfold Lm.endI at z
          omega
      rw [this]
      rfl
    refine ⟨room, ⟨iv.congr fun b d => ?_, h.val.ins room, fun x hx => ?_⟩⟩
    · constructor
      · rintro ⟨x, hx, rfl, rfl⟩
        rcases lins_mem.1 hx with rfl | hx
        · exact .inl ⟨rfl, rfl⟩
        · exact .inr ⟨x, hx, rfl, rfl⟩
      · rintro (⟨rfl, rfl⟩ | ⟨x, hx, rfl, rfl⟩)
        · exact ⟨_, lins_mem.2 (.inl rfl), rfl, rfl⟩
        · exact ⟨x, lins_mem.2 (.inr hx), rfl, rfl⟩
    · rcases lins_mem.1 hx with rfl | hx
      · rfl
      · exact h.own x hx
  · omega
theorem Sv.allocR (h : Sv P k live) (n : Int) : Sv P (allocR P k live n).1 (allocR P k live n).2.1 := by
  unfold Sto.allocR
  by_cases hn : classB n = true
  · rw [if_pos hn]
    by_cases h0 : (tookR P k (classI n)).2.2 = 0
    · rw [if_pos h0]; exact (h.alloc hn h0).2
    · rw [if_neg h0]; exact h
  · rw [if_neg hn]; exact h
/-! ### Free -/
def classAt (live : List Lm.S) (a : Int) : Int := (live.getD (Lm.placeL live a) ⟨0, 0, 0⟩).n
def gaveR (k : K) (a c : Int) : K := if smallB c then giveSR k a c.toNat else giveLR k a c
def freeR (k : K) (live : List Lm.S) (a : Int) : K × List Lm.S × Int := if Lm.hasB live a then (gaveR k a (classAt live a), Lm.delL live a, 0) else (k, live, 2)
theorem Sv.at_ (_ : Sv P k live) {a : Int} (ha : Lm.hasB live a = true) : ∃ x, live[Lm.placeL live a]? = some x ∧ x.a = a ∧ x.n = classAt live a ∧ Lm.placeL live a < live.length ∧ outOf live a (classAt live a) := by
  obtain ⟨x, hx, e, hl⟩ := Lm.has_at ha
  have : classAt live a = x.n := by unfold classAt; rw [List.getD_eq_getElem?_getD, hx]; rfl
  exact ⟨x, hx, e, this.symm, hl, x, List.mem_of_getElem? hx, e, this.symm⟩
theorem Sv.free (h : Sv P k live) {a : Int} (ha : Lm.hasB live a = true) : Sv P (gaveR k a (classAt live a)) (Lm.delL live a) := by
  obtain ⟨x, hx, e, en, hl, o⟩ := h.at_ ha
  have ly := h.inv.lies o
  have c0 := ly.c0
  have c7 := ly.c7
  have iv : Inv P (gaveR k a (classAt live a)) (Minus (outOf live) a (classAt live a)) := by
    unfold gaveR
    generalize classAt live a = c at *
    by_cases c4 : c < 4
    · rw [if_pos (smallB_in c c0 c4)]
      obtain ⟨d, rfl⟩ : ∃ d : Nat, c = (d : Int) := ⟨c.toNat, by omega⟩
      rw [Int.toNat_natCast]
      exact h.inv.gaveS (by omega) o
    · rw [if_neg (by rw [smallB_out c (by omega)]; simp)]
      exact h.inv.gaveL o (by omega)
  refine ⟨iv.congr fun b d => ?_, h.val.del a, fun y hy => h.own y ((Lm.del_sub live a).subset hy)⟩
  unfold Lm.delL
  constructor
  · rintro ⟨y, hy, rfl, rfl⟩
    obtain ⟨j, ne, hj⟩ := mem_cut.1 hy
    refine ⟨⟨y, List.mem_of_getElem? hj, rfl, rfl⟩, fun ⟨z, _⟩ => ?_⟩
    rcases Nat.lt_or_gt_of_ne ne with q | q
    · have := h.val.lt hj hx q; omega
    · have := h.val.lt hx hj q; omega
  · rintro ⟨⟨y, hy, rfl, rfl⟩, n⟩
    obtain ⟨j, hj⟩ := List.getElem?_of_mem hy
    refine ⟨y, mem_cut.2 ⟨j, fun q => ?_, hj⟩, rfl, rfl⟩
    subst q
    rw [hx] at hj
    injection hj with hj
    subst hj
    exact n ⟨e, en⟩
theorem Sv.freeR (h : Sv P k live) (a : Int) : Sv P (freeR k live a).1 (freeR k live a).2.1 := by
  unfold Sto.freeR
  by_cases ha : Lm.hasB live a = true
  · rw [if_pos ha]; exact h.free ha
  · rw [if_neg ha]; exact h
theorem Sv.gc (h : Sv P k live) (on : Bool) : Sv P (gcK k on) live := ⟨h.inv.gc on, h.val, h.own⟩
theorem Sv.new (h1 : 1 ≤ P) (h2 : P ≤ 256) : Sv P ⟨[(0, (P : Int))], [], fun _ => [], [], false, []⟩ [] := by
  refine ⟨⟨Whole.new (by omega) (by omega), fun c hc => Prt.GoodP.nil hc, fun _ _ _ h => (by cases h), fun _ _ _ h => (by cases h), fun _ h => (by cases h), List.nodup_nil, Bg.RightL.nil, fun _ h => (by cases h), fun _ => ⟨rfl, rfl⟩, fun a c o => ?_, fun a c o => ?_, fun _ h => (by cases h), fun _ _ _ h => (by cases h)⟩, Lm.Valid.nil (by omega) (by omega), fun _ h => by cases h⟩
  · obtain ⟨x, hx, _⟩ := o; cases hx
  · obtain ⟨x, hx, _⟩ := o; cases hx
end Go.Proofs.YtcndilpaijapkaaGreat.Sto
/- Small facts on the parts of an allocator of stacks. Own work; no program is walked here. -/
namespace Go.Proofs.YtcndilpaijapkaaGreat.Sto
open Go.RowKit
variable {P : Nat} {k : K} {O : Int → Int → Prop}
theorem pool_pool (k : K) (c : Nat) (l m : List Prt.Q) : (k.pool c l).pool c m = k.pool c m := by
  unfold K.pool
  congr 1
  funext d
  show (if d = c then m else if d = c then l else k.p d) = if d = c then m else k.p d
  by_cases e : d = c
  · rw [if_pos e, if_pos e]
  · rw [if_neg e, if_neg e, if_neg e]
theorem pool_good {k : K} {c : Nat} {L : List Prt.Q} (h : ∀ d, d < 4 → Prt.GoodP P d (k.p d)) (hL : Prt.GoodP P c L) : ∀ d, d < 4 → Prt.GoodP P d ((k.pool c L).p d) := by
  intro d hd
  by_cases e : d = c
  · subst e
    rw [K.pool_at]
    exact hL
  · rw [K.pool_ne _ _ e]
    exact h d hd
theorem pool_same (k : K) (c : Nat) : k.pool c (k.p c) = k := by
  obtain ⟨a, b, p, d, e, f⟩ := k
  unfold K.pool
  congr 1
  funext d
  by_cases e : d = c
  · rw [if_pos e, e]
  · rw [if_neg e]
theorem big_len {l : List Bg.R} (h : Bg.RightL l) : l.length ≤ 32 := by
  obtain ⟨may, pw⟩ := Bg.right_pw.1 h
  have nd : (l.map fun b => b.1 / 512).Nodup := by
    rw [List.nodup_iff_pairwise_ne] at *
    refine List.pairwise_map.2 (pw.imp_of_mem fun {a b} ha hb q e => ?_)
    have ma := Bg.may_of (may a ha)
    have mb := Bg.may_of (may b hb)
    have hn := of_decide_eq_false q.2
    have := ma.w0
    have := mb.w0
    omega
  have lim := Lq.nodup_len 32 _ nd (fun x hx => by
    obtain ⟨b, hb, rfl⟩ := List.mem_map.1 hx
    have mb := Bg.may_of (may b hb)
    have := of_decide_eq_true (may b hb)
    have := mb.w0
    omega)
  simpa using lim
theorem Inv.back_may (v : Inv P k O) : Lq.MayL k.back := fun q hq => by
  obtain ⟨c, _, hs, _⟩ := v.back q hq
  have ok := v.ok hs
  have pp := v.pages
  have := ok.a0
  have := ok.up
  simp only at *
  omega
theorem Inv.back_len (v : Inv P k O) : k.back.length ≤ 249 := Lq.nodup_len 249 _ v.bnod fun a ha => by have := v.back_may a ha; omega
theorem slice_nil {A : Option Addr} {n c : Nat} (h : n ≤ c) (z : A = none → c = 0) : A = none → n = 0 ∧ c = 0 := fun e => by have := z e; omega
end Go.Proofs.YtcndilpaijapkaaGreat.Sto
/- The pieces that an allocator's words are parted into: each two are apart, each word is in one, together they are all words; one order of addresses. Own work; no program is walked here. -/
namespace Go.Proofs.YtcndilpaijapkaaGreat.Sto
open Go.RowKit

abbrev Pc := Int × Int
abbrev Dis (x y : Pc) : Prop := x.1 + x.2 ≤ y.1 ∨ y.1 + y.2 ≤ x.1
theorem Dis.symm {x y : Pc} (h : Dis x y) : Dis y x := Or.symm h
/-- A list in ascending order of addresses. -/
structure SortOf (L M : List Pc) : Prop where
  perm : M.Perm L
  asc : M.Pairwise (fun x y => x.1 < y.1)
theorem SortOf.one {L M N : List Pc} (h : SortOf L M) (k : SortOf L N) : M = N :=
  List.Perm.eq_of_pairwise (le := fun x y => x.1 < y.1) (fun a b _ _ h1 h2 => by omega) h.asc k.asc (h.perm.trans k.perm.symm)
def runsP (rl : List R) : List Pc := rl.map fun r => (r.1 * 64, r.2 * 64)
def poolC (c : Nat) (L : List Prt.Q) : List Pc := (Prt.freeL L).map fun (a : Nat) => ((a : Int), wordsI (c : Int))
def poolP (p : Nat → List Prt.Q) : List Pc := poolC 0 (p 0) ++ (poolC 1 (p 1) ++ (poolC 2 (p 2) ++ poolC 3 (p 3)))
def outP (l : List (Int × Int)) : List Pc := l.map fun x => (x.1, wordsI x.2)
def lateP (l : List Int) : List Pc := l.map fun q => (q * 64, 512)
def liveC (l : List Lm.S) : List (Int × Int) := l.map fun x => (x.a, x.n)
def liveP (l : List Lm.S) : List Pc := l.map fun x => (x.a, wordsI x.n)
theorem liveP_out (l : List Lm.S) : liveP l = outP (liveC l) := by unfold liveP outP liveC; rw [List.map_map]; rfl
def allP (k : K) (outs : List (Int × Int)) : List Pc := runsP k.rl ++ (poolP k.p ++ (outP k.big ++ (lateP k.back ++ outP outs)))
def sumP : List Pc → Int
  | [] => 0
  | x :: t => x.2 + sumP t
theorem sumP_append (a b : List Pc) : sumP (a ++ b) = sumP a + sumP b := by
  induction a with
  | nil => simp [sumP]
  | cons x t ih => simp only [List.cons_append, sumP, ih]; omega
theorem sumP_perm {a b : List Pc} (h : a.Perm b) : sumP a = sumP b := by
  induction h with
  | nil => rfl
  | cons x _ ih => simp only [sumP, ih]
  | swap x y l => simp only [sumP]; omega
  | trans _ _ h1 h2 => exact h1.trans h2
/-! ### Words counted -/
def ind (x : Pc) (j : Nat) : Nat := if x.1 ≤ (j : Int) ∧ (j : Int) < x.1 + x.2 then 1 else 0
def cnt : List Pc → Nat → Nat
  | [], _ => 0
  | x :: t, j => ind x j + cnt t j
def tot (f : Nat → Nat) : Nat → Nat
  | 0 => 0
  | n + 1 => tot f n + f n
theorem tot_ind (x : Pc) (h0 : 0 ≤ x.1) (h1 : 0 ≤ x.2) : ∀ n : Nat, (tot (ind x) n : Int) = if (n : Int) ≤ x.1 then 0 else if (n : Int) ≤ x.1 + x.2 then n - x.1 else x.2 := by
  intro n
  induction n with
  | zero => rw [if_pos (by simpa using h0)]; rfl
  | succ n ih =>
    unfold tot ind
    unfold ind at ih
    split at ih <;> split <;> split <;> omega
theorem tot_cnt : ∀ (L : List Pc), (∀ x ∈ L, 0 ≤ x.1 ∧ 1 ≤ x.2) → ∀ n : Nat, (∀ x ∈ L, x.1 + x.2 ≤ (n : Int)) → (tot (cnt L) n : Int) = sumP L
  | [], _, n, _ => by
    have : ∀ n, tot (cnt []) n = 0 := by
      intro n
      induction n with
      | zero => rfl
      | succ n ih => unfold tot; rw [ih]; rfl
    rw [this]; rfl
  | x :: t, h, n, hn => by
    have a := tot_cnt t (fun y hy => h y (List.mem_cons_of_mem _ hy)) n (fun y hy => hn y (List.mem_cons_of_mem _ hy))
    have hx := h x List.mem_cons_self
    have hnx := hn x List.mem_cons_self
    have b := tot_ind x hx.1 (by omega) n
    have e : ∀ m, tot (cnt (x :: t)) m = tot (ind x) m + tot (cnt t) m := by
      intro m
      induction m with
      | zero => rfl
      | succ m ih =>
        show tot (cnt (x :: t)) m + cnt (x :: t) m = (tot (ind x) m + ind x m) + (tot (cnt t) m + cnt t m)
        rw [ih]
        show _ + (ind x m + cnt t m) = _
        omega
    rw [e, show sumP (x :: t) = x.2 + sumP t from rfl, ← a]
    rw [if_neg (by omega), ] at b
    by_cases q : (n : Int) ≤ x.1 + x.2
    · rw [if_pos q] at b; omega
    · rw [if_neg q] at b; omega
theorem cnt_le {L : List Pc} (h : L.Pairwise Dis) (j : Nat) : cnt L j ≤ 1 := by
  induction L with
  | nil => exact Nat.zero_le _
  | cons x t ih =>
    obtain ⟨h1, h2⟩ := List.pairwise_cons.1 h
    have := ih h2
    show ind x j + cnt t j ≤ 1
    by_cases c : x.1 ≤ (j : Int) ∧ (j : Int) < x.1 + x.2
    · have z : cnt t j = 0 := by
        clear ih this h2 h
        induction t with
        | nil => rfl
        | cons y s ih =>
          have d := h1 y List.mem_cons_self
          have := ih (fun z hz => h1 z (List.mem_cons_of_mem _ hz))
          show ind y j + cnt s j = 0
          rw [this]
          unfold ind
          rw [if_neg (by omega)]
      rw [z]
      unfold ind
      split <;> omega
    · unfold ind
      rw [if_neg c]
      omega
theorem cnt_pos {L : List Pc} {j : Nat} : (∃ x ∈ L, x.1 ≤ (j : Int) ∧ (j : Int) < x.1 + x.2) → 1 ≤ cnt L j := by
  induction L with
  | nil => rintro ⟨x, hx, _⟩; cases hx
  | cons y t ih =>
    rintro ⟨x, hx, c⟩
    show 1 ≤ ind y j + cnt t j
    rcases List.mem_cons.1 hx with rfl | hx
    · unfold ind; rw [if_pos c]; omega
    · have := ih ⟨x, hx, c⟩; omega
/-- Pieces apart from each other, in which each word is: their words are all. -/
theorem sum_all {L : List Pc} {N : Nat} (pw : L.Pairwise Dis) (fit : ∀ x ∈ L, 0 ≤ x.1 ∧ 1 ≤ x.2 ∧ x.1 + x.2 ≤ (N : Int)) (cov : ∀ j : Nat, j < N → ∃ x ∈ L, x.1 ≤ (j : Int) ∧ (j : Int) < x.1 + x.2) : sumP L = (N : Int) := by
  have e := tot_cnt L (fun x hx => ⟨(fit x hx).1, (fit x hx).2.1⟩) N (fun x hx => (fit x hx).2.2)
  have o : ∀ n, n ≤ N → tot (cnt L) n = n := by
    intro n
    induction n with
    | zero => intro _; rfl
    | succ n ih =>
      intro hn
      have := ih (by omega)
      have a := cnt_le pw n
      have b := cnt_pos (cov n (by omega))
      show tot (cnt L) n + cnt L n = n + 1
      omega
  rw [← e, o N (Nat.le_refl _)]
/-! ### Where each piece is at home -/
def In (s : S) (x : Pc) : Prop := s.a * 64 ≤ x.1 ∧ x.1 + x.2 ≤ (s.a + s.n) * 64
theorem span_dis {P : Int} {l : List S} (g : Good P l) {s t : S} (hs : s ∈ l) (ht : t ∈ l) (ne : s ≠ t) {x y : Pc} (hx : In s x) (hy : In t y) : Dis x y := by
  have q : ¬ (s.a < t.a + t.n ∧ t.a < s.a + s.n) := fun q => ne (span_eq g hs ht q.1 q.2)
  unfold In at hx hy
  show _ ∨ _
  omega
variable {P : Nat} {k : K} {O : Int → Int → Prop}
theorem Inv.inPool (h : Inv P k O) {c : Nat} (hc : c < 4) {x : Prt.Q} (hx : x ∈ k.p c) {a : Nat} (ha : a ∈ x.free) : In (sp (x.page : Int) 8 (c : Int)) ((a : Int), wordsI (c : Int)) := by
  have q := at_page hc ((h.good c hc).stks x hx a ha)
  exact ⟨by show (x.page : Int) * 64 ≤ (a : Int); omega, by show (a : Int) + wordsI (c : Int) ≤ ((x.page : Int) + 8) * 64; omega⟩
theorem Inv.inBig (h : Inv P k O) {b : Bg.R} (hb : b ∈ k.big) : sp (b.1 / 64) (pagesI b.2) b.2 ∈ k.sl ∧ In (sp (b.1 / 64) (pagesI b.2) b.2) (b.1, wordsI b.2) ∧ 4 ≤ b.2 ∧ b.2 ≤ 7 ∧ b.1 % 64 = 0 := by
  have m := Bg.may_of ((Bg.right_pw.1 h.right).1 b hb)
  have w := pages_large m.c0 m.c1
  have a1 := m.a1
  exact ⟨h.big b hb, ⟨by show b.1 / 64 * 64 ≤ b.1; omega, by show b.1 + wordsI b.2 ≤ (b.1 / 64 + pagesI b.2) * 64; omega⟩, m.c0, m.c1, a1⟩
theorem in_late (q c : Int) : In (sp q 8 c) (q * 64, 512) := ⟨by show q * 64 ≤ q * 64; omega, by show q * 64 + 512 ≤ (q + 8) * 64; omega⟩
theorem runs_pw {p : Int} : ∀ {rl : List R} {f : Int}, Right p f rl → rl.Pairwise (fun x y => x.1 + x.2 ≤ y.1)
  | [], _, _ => .nil
  | x :: t, _, h => by
    obtain ⟨_, _, _, _, h5⟩ := h
    exact List.pairwise_cons.2 ⟨fun y hy => by have := (h5.mem hy).1; omega, runs_pw h5⟩
theorem mem_poolP {p : Nat → List Prt.Q} {y : Pc} (h : y ∈ poolP p) : ∃ c : Nat, c < 4 ∧ ∃ x ∈ p c, ∃ a ∈ x.free, y = ((a : Int), wordsI (c : Int)) := by
  have one : ∀ c : Nat, c < 4 → y ∈ poolC c (p c) → ∃ c : Nat, c < 4 ∧ ∃ x ∈ p c, ∃ a ∈ x.free, y = ((a : Int), wordsI (c : Int)) := fun c hc hy => by
    obtain ⟨a, ha, rfl⟩ := List.mem_map.1 hy
    obtain ⟨x, hx, ha⟩ := List.mem_flatMap.1 ha
    exact ⟨c, hc, x, hx, a, ha, rfl⟩
  unfold poolP at h
  simp only [List.mem_append] at h
  rcases h with h | h | h | h
  · exact one 0 (by omega) h
  · exact one 1 (by omega) h
  · exact one 2 (by omega) h
  · exact one 3 (by omega) h
theorem poolP_mem {p : Nat → List Prt.Q} {c : Nat} (hc : c < 4) {x : Prt.Q} (hx : x ∈ p c) {a : Nat} (ha : a ∈ x.free) : ((a : Int), wordsI (c : Int)) ∈ poolP p := by
  have m : ((a : Int), wordsI (c : Int)) ∈ poolC c (p c) := List.mem_map.2 ⟨a, List.mem_flatMap.2 ⟨x, hx, ha⟩, rfl⟩
  unfold poolP
  simp only [List.mem_append]
  rcases (show c = 0 ∨ c = 1 ∨ c = 2 ∨ c = 3 by omega) with rfl | rfl | rfl | rfl
  · exact .inl m
  · exact .inr (.inl m)
  · exact .inr (.inr (.inl m))
  · exact .inr (.inr (.inr m))
theorem Inv.pool_dis (h : Inv P k O) {c d : Nat} (hc : c < 4) (hd : d < 4) {x y : Prt.Q} (hx : x ∈ k.p c) (hy : y ∈ k.p d) (ne : x.page + 8 ≤ y.page ∨ y.page + 8 ≤ x.page) {a b : Nat} (ha : a ∈ x.free) (hb : b ∈ y.free) : Dis ((a : Int), wordsI (c : Int)) ((b : Int), wordsI (d : Int)) := by
  have i : (x.page : Int) * 64 ≤ (a : Int) ∧ (a : Int) + wordsI (c : Int) ≤ ((x.page : Int) + 8) * 64 := h.inPool hc hx ha
  have j : (y.page : Int) * 64 ≤ (b : Int) ∧ (b : Int) + wordsI (d : Int) ≤ ((y.page : Int) + 8) * 64 := h.inPool hd hy hb
  show (a : Int) + wordsI (c : Int) ≤ (b : Int) ∨ (b : Int) + wordsI (d : Int) ≤ (a : Int)
  omega
theorem Inv.poolC_pw (h : Inv P k O) {c : Nat} (hc : c < 4) : (poolC c (k.p c)).Pairwise Dis := by
  unfold poolC Prt.freeL
  rw [List.pairwise_map, List.pairwise_flatMap]
  refine ⟨fun x hx => ?_, ?_⟩
  · refine ((h.good c hc).nod x hx).imp_of_mem ?_
    intro a b ha hb ne
    exact at_apart hc ((h.good c hc).stks x hx a ha) ((h.good c hc).stks x hx b hb) (by omega)
  · refine ((h.good c hc).asc).imp_of_mem ?_
    intro x y hx hy e a ha b hb
    exact h.pool_dis hc hc hx hy (.inl e) ha hb
theorem Inv.poolCD (h : Inv P k O) {c d : Nat} (hc : c < 4) (hd : d < 4) (ne : c ≠ d) : ∀ x ∈ poolC c (k.p c), ∀ y ∈ poolC d (k.p d), Dis x y := by
  intro x hx y hy
  obtain ⟨a, ha, rfl⟩ := List.mem_map.1 hx
  obtain ⟨u, hu, ha⟩ := List.mem_flatMap.1 ha
  obtain ⟨b, hb, rfl⟩ := List.mem_map.1 hy
  obtain ⟨v, hv, hb⟩ := List.mem_flatMap.1 hb
  exact h.pool_dis hc hd hu hv (h.pool_far hc hd ne hu hv) ha hb
theorem Inv.pool_pw (h : Inv P k O) : (poolP k.p).Pairwise Dis := by
  unfold poolP
  refine List.pairwise_append.2 ⟨h.poolC_pw (by omega), List.pairwise_append.2 ⟨h.poolC_pw (by omega), List.pairwise_append.2 ⟨h.poolC_pw (by omega), h.poolC_pw (by omega), h.poolCD (by omega) (by omega) (by omega)⟩, fun x hx y hy => ?_⟩, fun x hx y hy => ?_⟩
  · rcases List.mem_append.1 hy with hy | hy
    · exact h.poolCD (by omega) (by omega) (by omega) x hx y hy
    · exact h.poolCD (by omega) (by omega) (by omega) x hx y hy
  · rcases List.mem_append.1 hy with hy | hy
    · exact h.poolCD (by omega) (by omega) (by omega) x hx y hy
    · rcases List.mem_append.1 hy with hy | hy
      · exact h.poolCD (by omega) (by omega) (by omega) x hx y hy
      · exact h.poolCD (by omega) (by omega) (by omega) x hx y hy
/-- What is out, as pairs. -/
structure Outs (O : Int → Int → Prop) (outs : List (Int × Int)) : Prop where
  mem : ∀ a c, O a c ↔ (a, c) ∈ outs
  nod : outs.Nodup
theorem ne_class {a b n m c d : Int} (h : c ≠ d) : sp a n c ≠ sp b m d := fun e => by injection e with _ _ e; exact h e
theorem Inv.pieces (h : Inv P k O) {outs : List (Int × Int)} (o : Outs O outs) : (allP k outs).Pairwise Dis := by
  have g := h.whole.good
  unfold allP
  refine List.pairwise_append.2 ⟨?_, List.pairwise_append.2 ⟨h.pool_pw, List.pairwise_append.2 ⟨?_, List.pairwise_append.2 ⟨?_, ?_, ?_⟩, ?_⟩, ?_⟩, ?_⟩
  · unfold runsP
    rw [List.pairwise_map]
    exact (runs_pw h.whole.right).imp fun {a b} e => by show a.1 * 64 + a.2 * 64 ≤ b.1 * 64 ∨ _; omega
  · unfold outP
    rw [List.pairwise_map]
    refine (Bg.right_pw.1 h.right).2.imp ?_
    intro a b e
    have z := of_decide_eq_false e.2
    show a.1 + wordsI a.2 ≤ b.1 ∨ b.1 + wordsI b.2 ≤ a.1
    omega
  · unfold lateP
    rw [List.pairwise_map]
    refine h.bnod.imp_of_mem ?_
    intro q r hq hr ne
    obtain ⟨c, _, hs, _⟩ := h.back q hq
    obtain ⟨d, _, ht, _⟩ := h.back r hr
    exact span_dis g hs ht (fun e => by injection e with e; exact ne e) (in_late q c) (in_late r d)
  · unfold outP
    rw [List.pairwise_map]
    refine o.nod.imp_of_mem ?_
    intro x y hx hy ne
    exact h.apart ((o.mem _ _).2 hx) ((o.mem _ _).2 hy) (fun e => ne (Prod.ext e.1 e.2))
  · intro x hx y hy
    obtain ⟨q, hq, rfl⟩ := List.mem_map.1 hx
    obtain ⟨⟨a, c⟩, hb, rfl⟩ := List.mem_map.1 hy
    obtain ⟨d, d4, hs, far⟩ := h.back q hq
    have oc := (o.mem a c).2 hb
    by_cases c4 : c < 4
    · obtain ⟨c0, z, hz, ha, _⟩ := h.outS a c oc c4
      obtain ⟨n, rfl⟩ : ∃ n : Nat, c = (n : Int) := ⟨c.toNat, by omega⟩
      rw [Int.toNat_natCast] at hz ha
      have w := at_page (by omega) ha
      refine span_dis g hs (h.pool n (by omega) z hz) (fun e => ?_) (in_late q d) ⟨by show (z.page : Int) * 64 ≤ a; omega, by show a + wordsI (n : Int) ≤ ((z.page : Int) + 8) * 64; omega⟩
      injection e with e1 _ e2
      obtain rfl : d = n := by omega
      exact far z hz e1.symm
    · obtain ⟨c7, m, ht, _⟩ := h.outL a c oc (by omega)
      have w := pages_large (c := c) (by omega) c7
      exact span_dis g hs ht (ne_class (by omega)) (in_late q d) ⟨by show a / 64 * 64 ≤ a; omega, by show a + wordsI c ≤ (a / 64 + pagesI c) * 64; omega⟩
  · intro x hx y hy
    obtain ⟨b, hb, rfl⟩ := List.mem_map.1 hx
    obtain ⟨hs, ib, b4, b7, bm⟩ := h.inBig hb
    rcases List.mem_append.1 hy with hy | hy
    · obtain ⟨q, hq, rfl⟩ := List.mem_map.1 hy
      obtain ⟨d, d4, ht, _⟩ := h.back q hq
      exact span_dis g hs ht (ne_class (by omega)) ib (in_late q d)
    · obtain ⟨⟨a, c⟩, ho, rfl⟩ := List.mem_map.1 hy
      have oc := (o.mem a c).2 ho
      by_cases c4 : c < 4
      · obtain ⟨s, hs', sc, e1, e2, _⟩ := h.home oc
        exact span_dis g hs hs' (fun e => by rw [← e] at sc; have : b.2 = c := sc; omega) ib ⟨e1, e2⟩
      · obtain ⟨c7, m, ht, nb⟩ := h.outL a c oc (by omega)
        have w := pages_large (c := c) (by omega) c7
        refine span_dis g hs ht (fun e => ?_) ib ⟨by show a / 64 * 64 ≤ a; omega, by show a + wordsI c ≤ (a / 64 + pagesI c) * 64; omega⟩
        injection e with e1 _ e2
        have : b = (a, c) := Prod.ext (by show b.1 = a; omega) e2
        exact nb (this ▸ hb)
  · intro x hx y hy
    obtain ⟨c, hc, u, hu, a, ha, rfl⟩ := mem_poolP hx
    have hs := h.pool c hc u hu
    have ip := h.inPool hc hu ha
    rcases List.mem_append.1 hy with hy | hy
    · obtain ⟨b, hb, rfl⟩ := List.mem_map.1 hy
      obtain ⟨ht, ib, b4, b7, bm⟩ := h.inBig hb
      exact span_dis g hs ht (ne_class (by omega)) ip ib
    · rcases List.mem_append.1 hy with hy | hy
      · obtain ⟨q, hq, rfl⟩ := List.mem_map.1 hy
        obtain ⟨d, d4, ht, far⟩ := h.back q hq
        refine span_dis g hs ht (fun e => ?_) ip (in_late q d)
        injection e with e1 _ e2
        obtain rfl : c = d := by omega
        exact far u hu e1
      · obtain ⟨⟨b, d⟩, ho, rfl⟩ := List.mem_map.1 hy
        have oc := (o.mem b d).2 ho
        by_cases d4 : d < 4
        · obtain ⟨d0, v, hv, hb, nf⟩ := h.outS b d oc d4
          obtain ⟨n, rfl⟩ : ∃ n : Nat, d = (n : Int) := ⟨d.toNat, by omega⟩
          rw [Int.toNat_natCast] at hv hb
          by_cases e : u.page = v.page
          · obtain ⟨rfl, rfl⟩ := h.pool_one hc (by omega) hu hv e
            exact at_apart hc ((h.good c hc).stks u hu a ha) hb (fun e => nf (by have e : (a : Int) = b := e; rw [← e, Int.toNat_natCast]; exact ha))
          · have w := at_page (by omega) hb
            exact span_dis g hs (h.pool n (by omega) v hv) (fun z => by injection z with z; exact e (by omega)) ip ⟨by show (v.page : Int) * 64 ≤ b; omega, by show b + wordsI (n : Int) ≤ ((v.page : Int) + 8) * 64; omega⟩
        · obtain ⟨d7, m, ht, _⟩ := h.outL b d oc (by omega)
          have w := pages_large (c := d) (by omega) d7
          exact span_dis g hs ht (ne_class (by omega)) ip ⟨by show b / 64 * 64 ≤ b; omega, by show b + wordsI d ≤ (b / 64 + pagesI d) * 64; omega⟩
  · intro x hx y hy
    obtain ⟨r, hr, rfl⟩ := List.mem_map.1 hx
    have run : ∀ {s : S} {y : Pc}, s ∈ k.sl → In s y → Dis (r.1 * 64, r.2 * 64) y := fun {s y} hs i => by
      have := h.whole.apart hr hs
      unfold In at i
      show r.1 * 64 + r.2 * 64 ≤ y.1 ∨ y.1 + y.2 ≤ r.1 * 64
      omega
    rcases List.mem_append.1 hy with hy | hy
    · obtain ⟨c, hc, u, hu, a, ha, rfl⟩ := mem_poolP hy
      exact run (h.pool c hc u hu) (h.inPool hc hu ha)
    · rcases List.mem_append.1 hy with hy | hy
      · obtain ⟨b, hb, rfl⟩ := List.mem_map.1 hy
        obtain ⟨ht, ib, _⟩ := h.inBig hb
        exact run ht ib
      · rcases List.mem_append.1 hy with hy | hy
        · obtain ⟨q, hq, rfl⟩ := List.mem_map.1 hy
          obtain ⟨d, _, ht, _⟩ := h.back q hq
          exact run ht (in_late q d)
        · obtain ⟨⟨b, d⟩, ho, rfl⟩ := List.mem_map.1 hy
          obtain ⟨s, hs, _, e1, e2, _⟩ := h.home ((o.mem b d).2 ho)
          exact run hs ⟨e1, e2⟩
/-- Each piece lies within, and has a word. -/
theorem Inv.fits (h : Inv P k O) {outs : List (Int × Int)} (o : Outs O outs) : ∀ x ∈ allP k outs, 0 ≤ x.1 ∧ 1 ≤ x.2 ∧ x.1 + x.2 ≤ ((P * 64 : Nat) : Int) := by
  intro x hx
  have span : ∀ {s : S} {y : Pc}, s ∈ k.sl → In s y → 0 ≤ y.1 ∧ y.1 + y.2 ≤ ((P * 64 : Nat) : Int) := fun {s y} hs i => by
    have ok := h.ok hs
    have a0 := ok.a0
    have up := ok.up
    unfold In at i
    omega
  unfold allP at hx
  simp only [List.mem_append] at hx
  rcases hx with hx | hx | hx | hx | hx
  · obtain ⟨r, hr, rfl⟩ := List.mem_map.1 hx
    have := h.whole.right.mem hr
    simp only
    omega
  · obtain ⟨c, hc, u, hu, a, ha, rfl⟩ := mem_poolP hx
    have i := span (h.pool c hc u hu) (h.inPool hc hu ha)
    have w := Prt.w_pos hc
    rw [Prt.wordsI_c hc] at *
    simp only at *
    omega
  · obtain ⟨b, hb, rfl⟩ := List.mem_map.1 hx
    obtain ⟨ht, ib, b4, b7, _⟩ := h.inBig hb
    have i := span ht ib
    have w := pages_large b4 b7
    simp only at *
    omega
  · obtain ⟨q, hq, rfl⟩ := List.mem_map.1 hx
    obtain ⟨d, _, ht, _⟩ := h.back q hq
    have i := span ht (in_late q d)
    simp only at *
    omega
  · obtain ⟨⟨b, d⟩, ho, rfl⟩ := List.mem_map.1 hx
    have ly := h.lies ((o.mem b d).2 ho)
    have := ly.w0
    have := ly.a0
    have := ly.fit
    simp only
    omega
/-- Each word is in a piece. -/
theorem Inv.covers (h : Inv P k O) {outs : List (Int × Int)} (o : Outs O outs) (j : Nat) (hj : j < P * 64) : ∃ x ∈ allP k outs, x.1 ≤ (j : Int) ∧ (j : Int) < x.1 + x.2 := by
  have hP := h.pages
  have one := h.whole.one ((j : Int) / 64) (by omega) (by omega)
  unfold allP
  simp only [List.mem_append]
  by_cases c : hasB k.rl ((j : Int) / 64) = true
  · obtain ⟨r, hr, i⟩ := List.any_eq_true.1 c
    have i := of_decide_eq_true i
    exact ⟨_, .inl (List.mem_map.2 ⟨r, hr, rfl⟩), by show r.1 * 64 ≤ (j : Int); omega, by show (j : Int) < r.1 * 64 + r.2 * 64; omega⟩
  · have s : inS k.sl ((j : Int) / 64) := Classical.byContradiction fun q => c (one.2 q)
    obtain ⟨s, hs, i1, i2⟩ := s
    rcases h.cover s hs with ⟨c0, c4, n8, w⟩ | ⟨c4, c7, n8, w⟩
    · obtain ⟨sa, sn, sc⟩ := s
      obtain ⟨n, rfl⟩ : ∃ n : Nat, sc = (n : Int) := ⟨sc.toNat, by simp only at c0; omega⟩
      simp only at n8 i1 i2 c4
      subst n8
      rcases w with ⟨x, hx, e⟩ | q
      · simp only [Int.toNat_natCast] at hx e
        subst e
        have wp := Prt.w_pos (c := n) (by omega)
        have pw := Prt.w_per (c := n) (by omega)
        have hi : (j - x.page * 64) / Prt.wN n < Prt.perN n := Nat.div_lt_of_lt_mul (by have := Nat.mul_comm (Prt.wN n) (Prt.perN n); omega)
        have dm := Nat.div_add_mod (j - x.page * 64) (Prt.wN n)
        have ml := Nat.mod_lt (j - x.page * 64) wp
        rw [Nat.mul_comm] at dm
        have ha : Prt.stk n x.page ((j - x.page * 64) / Prt.wN n) ∈ Prt.allQ n x.page := List.mem_map.2 ⟨_, List.mem_range.2 hi, rfl⟩
        have lo : (Prt.stk n x.page ((j - x.page * 64) / Prt.wN n) : Int) ≤ (j : Int) ∧ (j : Int) < (Prt.stk n x.page ((j - x.page * 64) / Prt.wN n) : Int) + wordsI (n : Int) := by
          rw [Prt.wordsI_c (by omega)]
          unfold Prt.stk
          omega
        rcases h.stk n (by omega) x hx _ ha with f | f
        · exact ⟨_, .inr (.inl (poolP_mem (by omega) hx f)), lo.1, lo.2⟩
        · exact ⟨_, .inr (.inr (.inr (.inr (List.mem_map.2 ⟨_, (o.mem _ _).1 f, rfl⟩)))), lo.1, lo.2⟩
      · exact ⟨_, .inr (.inr (.inr (.inl (List.mem_map.2 ⟨sa, q, rfl⟩)))), by show sa * 64 ≤ (j : Int); omega, by show (j : Int) < sa * 64 + 512; omega⟩
    · have pl := pages_large c4 c7
      rcases w with w | w
      · exact ⟨_, .inr (.inr (.inl (List.mem_map.2 ⟨_, w, rfl⟩))), by show s.a * 64 ≤ (j : Int); omega, by show (j : Int) < s.a * 64 + wordsI s.c; omega⟩
      · exact ⟨_, .inr (.inr (.inr (.inr (List.mem_map.2 ⟨_, (o.mem _ _).1 w, rfl⟩)))), by show s.a * 64 ≤ (j : Int); omega, by show (j : Int) < s.a * 64 + wordsI s.c; omega⟩
/-- Together they are all words. -/
theorem Inv.sums (h : Inv P k O) {outs : List (Int × Int)} (o : Outs O outs) : sumP (allP k outs) = ((P * 64 : Nat) : Int) := sum_all (h.pieces o) (h.fits o) (h.covers o)
theorem Sv.outs {live : List Lm.S} (h : Sv P k live) : Outs (outOf live) (liveC live) := by
  refine ⟨fun a c => ⟨?_, fun m => ?_⟩, ?_⟩
  · rintro ⟨x, hx, rfl, rfl⟩
    exact List.mem_map.2 ⟨x, hx, rfl⟩
  · obtain ⟨x, hx, e⟩ := List.mem_map.1 m
    injection e with e1 e2
    exact ⟨x, hx, e1, e2⟩
  · unfold liveC
    show List.Pairwise _ _
    rw [List.pairwise_map]
    refine h.val.row.imp_of_mem ?_
    intro x y hx _ e z
    injection z with z
    have := (h.val.each x hx).w0
    unfold Lm.endI at e
    omega
end Go.Proofs.YtcndilpaijapkaaGreat.Sto
/- Caches of free stacks in front of an allocator's parts, as plain data: what is out is cached or live (outs); what a take, a batch, a give, a shrink, a flush make of them, and that what is so at any time stays so. Own work; no program is walked here. -/
namespace Go.Proofs.YtcndilpaijapkaaGreat.Shp
open Go.RowKit
open Sto
variable {P : Nat} {k : K}

/-- The caches: by worker and class, from the first stack on. -/
abbrev Ca := Nat → Nat → List Nat
def up (ca : Ca) (w c : Nat) (l : List Nat) : Ca := fun w' c' => if w' = w ∧ c' = c then l else ca w' c'
theorem up_at (ca : Ca) (w c : Nat) (l : List Nat) : up ca w c l w c = l := if_pos ⟨rfl, rfl⟩
theorem up_ne (ca : Ca) {w c w' c' : Nat} (l : List Nat) (h : ¬ (w' = w ∧ c' = c)) : up ca w c l w' c' = ca w' c' := if_neg h
theorem up_up (ca : Ca) (w c : Nat) (l m : List Nat) : up (up ca w c l) w c m = up ca w c m := by
  funext w' c'
  by_cases h : w' = w ∧ c' = c
  · rw [h.1, h.2, up_at, up_at]
  · rw [up_ne _ _ h, up_ne _ _ h, up_ne _ _ h]
theorem up_self (ca : Ca) (w c : Nat) : up ca w c (ca w c) = ca := by
  funext w' c'
  by_cases h : w' = w ∧ c' = c
  · rw [h.1, h.2, up_at]
  · rw [up_ne _ _ h]
abbrev Os := List (Int × Int)
def pr (c : Nat) (l : List Nat) : Os := l.map fun (a : Nat) => ((a : Int), (c : Int))
theorem pr_mem {c : Nat} {l : List Nat} {a d : Int} : (a, d) ∈ pr c l ↔ ∃ n : Nat, n ∈ l ∧ a = (n : Int) ∧ d = (c : Int) := by
  unfold pr
  rw [List.mem_map]
  constructor
  · rintro ⟨n, hn, e⟩
    injection e with e1 e2
    exact ⟨n, hn, e1.symm, e2.symm⟩
  · rintro ⟨n, hn, rfl, rfl⟩
    exact ⟨n, hn, rfl⟩
/-- All that the caches have. -/
def cacheL (nw : Nat) (ca : Ca) : Os := (List.range nw).flatMap fun w => (List.range 4).flatMap fun c => pr c (ca w c)
def outs (nw : Nat) (ca : Ca) (live : List Lm.S) : Os := cacheL nw ca ++ liveC live
theorem cache_mem {nw : Nat} {ca : Ca} {a d : Int} : (a, d) ∈ cacheL nw ca ↔ ∃ w c n : Nat, w < nw ∧ c < 4 ∧ n ∈ ca w c ∧ a = (n : Int) ∧ d = (c : Int) := by
  unfold cacheL
  simp only [List.mem_flatMap, List.mem_range, pr_mem]
  constructor
  · rintro ⟨w, hw, c, hc, n, hn, e1, e2⟩; exact ⟨w, c, n, hw, hc, hn, e1, e2⟩
  · rintro ⟨w, c, n, hw, hc, hn, e1, e2⟩; exact ⟨w, hw, c, hc, n, hn, e1, e2⟩
/-- Of lists that lie one behind the other one is put in front. -/
theorem flat_front {α : Type} (f g : Nat → List α) (i : Nat) (hf : ∀ j, j ≠ i → g j = f j) (pre : List α) (hg : (g i).Perm (pre ++ f i)) : ∀ n, i < n → ((List.range n).flatMap g).Perm (pre ++ (List.range n).flatMap f) := by
  have out : ∀ n, n ≤ i → (List.range n).flatMap g = (List.range n).flatMap f := by
    intro n hn
    induction n with
    | zero => rfl
    | succ n ih => rw [List.range_succ, List.flatMap_append, List.flatMap_append, ih (by omega)]; simp [hf n (by omega)]
  intro n
  induction n with
  | zero => intro h; omega
  | succ n ih =>
    intro h
    rw [List.range_succ, List.flatMap_append, List.flatMap_append]
    simp only [List.flatMap_cons, List.flatMap_nil, List.append_nil]
    by_cases e : i = n
    · subst e
      rw [out i (Nat.le_refl _)]
      refine (List.Perm.append_left _ hg).trans ?_
      rw [← List.append_assoc, ← List.append_assoc]
      exact List.Perm.append_right _ List.perm_append_comm
    · rw [hf n (fun q => e q.symm), ← List.append_assoc]
      exact List.Perm.append_right _ (ih (by omega))
theorem cache_split {nw w c : Nat} (ca : Ca) (l : List Nat) (hw : w < nw) (hc : c < 4) : (cacheL nw (up ca w c l)).Perm (pr c l ++ cacheL nw (up ca w c [])) := by
  unfold cacheL
  refine flat_front _ _ w (fun j hj => ?_) (pr c l) ?_ nw hw
  · congr 1
    funext d
    rw [up_ne _ _ (fun q => hj q.1), up_ne _ _ (fun q => hj q.1)]
  · refine flat_front _ _ c (fun j hj => ?_) (pr c l) ?_ 4 hc
    · rw [up_ne _ _ (fun q => hj q.2), up_ne _ _ (fun q => hj q.2)]
    · rw [up_at, up_at]
      simp [pr]
/-- All that is out, but one cache. -/
def rest (nw : Nat) (ca : Ca) (w c : Nat) (live : List Lm.S) : Os := outs nw (up ca w c []) live
theorem outs_split {nw w c : Nat} (ca : Ca) (l : List Nat) (live : List Lm.S) (hw : w < nw) (hc : c < 4) : (outs nw (up ca w c l) live).Perm (pr c l ++ rest nw ca w c live) := by
  unfold outs rest outs
  rw [← List.append_assoc]
  exact List.Perm.append_right _ (cache_split ca l hw hc)
theorem outs_own {nw w c : Nat} (ca : Ca) (live : List Lm.S) (hw : w < nw) (hc : c < 4) : (outs nw ca live).Perm (pr c (ca w c) ++ rest nw ca w c live) := by
  have := outs_split ca (ca w c) live hw hc
  rwa [up_self] at this
theorem rest_up (nw : Nat) (ca : Ca) (w c : Nat) (l : List Nat) (live : List Lm.S) : rest nw (up ca w c l) w c live = rest nw ca w c live := by unfold rest; rw [up_up]
/-! ### What is so at any time -/
structure Iq (P : Nat) (k : K) (L : Os) : Prop where
  inv : Inv P k fun a c => (a, c) ∈ L
  nd : L.Nodup
theorem Iq.perm {L M : Os} (h : Iq P k L) (p : M.Perm L) : Iq P k M := ⟨h.inv.congr fun _ _ => p.mem_iff, p.symm.nodup h.nd⟩
theorem Iq.plus {L : Os} {a c : Int} (h : Inv P k (Plus (fun a c => (a, c) ∈ L) a c)) (n : (a, c) ∉ L) (nd : L.Nodup) : Iq P k ((a, c) :: L) := by
  refine ⟨h.congr fun b d => ?_, List.nodup_cons.2 ⟨n, nd⟩⟩
  rw [List.mem_cons, Prod.mk.injEq]
  exact Iff.rfl
theorem Iq.minus {L : Os} {a c : Int} (h : Iq P k ((a, c) :: L)) {k' : K} (g : Inv P k' (Minus (fun b d => (b, d) ∈ (a, c) :: L) a c)) : Iq P k' L := by
  have nd := List.nodup_cons.1 h.nd
  refine ⟨g.congr fun b d => ?_, nd.2⟩
  constructor
  · intro m
    exact ⟨List.mem_cons_of_mem _ m, fun q => nd.1 (by rw [← q.1, ← q.2]; exact m)⟩
  · rintro ⟨m, n⟩
    rcases List.mem_cons.1 m with e | m
    · injection e with e1 e2; exact absurd ⟨e1, e2⟩ n
    · exact m
/-- A stack of a class is taken, or there is no room. -/
inductive Tk (P : Nat) (k : K) (L : Os) (c : Int) (r : K × Int × Int) : Prop
  | yes (h0 : r.2.2 = 0) (h1 : Iq P r.1 ((r.2.1, c) :: L))
  | no (h0 : r.2.2 = 3) (h1 : r.2.1 = 0) (h2 : r.1 = k)
theorem Iq.tookS {L : Os} (h : Iq P k L) {c : Nat} (hc : c < 4) : Tk P k L (c : Int) (takeSR P k c) := by
  rcases (h.inv.tookS hc).way with ⟨e, n, i⟩ | ⟨e1, e2, e3⟩
  · exact .yes e (Iq.plus i n h.nd)
  · exact .no e1 e2 e3
theorem Iq.tookL {L : Os} (h : Iq P k L) {c : Int} (c4 : 4 ≤ c) (c7 : c ≤ 7) : Tk P k L c (takeLR k c) := by
  rcases (h.inv.tookL c4 c7).way with ⟨e, n, i⟩ | ⟨e1, e2, e3⟩
  · exact .yes e (Iq.plus i n h.nd)
  · exact .no e1 e2 e3
/-- One is taken from a pool that has one. -/
theorem Iq.take {L : Os} (h : Iq P k L) {c : Nat} (hc : c < 4) : (Prt.takeC (k.p c) = 0 ∧ ∃ a : Nat, Prt.takeA (k.p c) = (a : Int) ∧ Iq P (k.pool c (Prt.takeL (k.p c))) (((a : Int), (c : Int)) :: L)) ∨ (Prt.takeC (k.p c) = 2 ∧ Prt.takeL (k.p c) = k.p c) := by
  cases h.inv.takeS hc with
  | has a h1 h2 h3 h4 => exact .inl ⟨h1, a, h2, Iq.plus h4 h3 h.nd⟩
  | none h1 h2 h3 h4 => exact .inr ⟨h1, h3⟩
  | new pg rl sl h1 h2 h3 h4 h5 h6 h7 h8 h9 h10 h11 => exact .inr ⟨h1, h3⟩
/-- As many as a pool has, up to n, are put into a cache. -/
def fillR (c : Nat) : Nat → K → List Nat → K × List Nat
  | 0, k, l => (k, l)
  | n + 1, k, l => if Prt.takeC (k.p c) = 0 then fillR c n (k.pool c (Prt.takeL (k.p c))) ((Prt.takeA (k.p c)).toNat :: l) else (k, l)
theorem Iq.fill {L : Os} {c : Nat} (hc : c < 4) : ∀ {n : Nat} {k : K} {l : List Nat}, Iq P k (pr c l ++ L) → Iq P (fillR c n k l).1 (pr c (fillR c n k l).2 ++ L)
  | 0, _, _, h => h
  | n + 1, k, l, h => by
    unfold fillR
    rcases h.take hc with ⟨e, a, ea, h'⟩ | ⟨e, _⟩
    · rw [if_pos e, ea, Int.toNat_natCast]
      exact Iq.fill hc h'
    · rw [if_neg (by omega)]
      exact h
theorem fill_len (c : Nat) : ∀ (n : Nat) (k : K) (l : List Nat), (fillR c n k l).2.length ≤ l.length + n
  | 0, _, _ => Nat.le_refl _
  | n + 1, k, l => by
    unfold fillR
    by_cases e : Prt.takeC (k.p c) = 0
    · rw [if_pos e]
      have := fill_len c n (k.pool c (Prt.takeL (k.p c))) ((Prt.takeA (k.p c)).toNat :: l)
      simp only [List.length_cons] at this
      omega
    · rw [if_neg e]
      show l.length ≤ _
      omega
theorem Iq.gaveS {L : Os} {a : Int} {c : Nat} (h : Iq P k ((a, (c : Int)) :: L)) (hc : c < 4) : Iq P (giveSR k a c) L := h.minus (h.inv.gaveS hc List.mem_cons_self)
theorem Iq.gaveL {L : Os} {a c : Int} (h : Iq P k ((a, c) :: L)) (c4 : 4 ≤ c) : Iq P (giveLR k a c) L := h.minus (h.inv.gaveL List.mem_cons_self c4)
/-- The first ones of a cache are given back, until most are left. -/
def shrinkR (c most : Nat) : K → List Nat → K × List Nat
  | k, [] => (k, [])
  | k, a :: t => if t.length + 1 ≤ most then (k, a :: t) else shrinkR c most (giveSR k (a : Int) c) t
theorem Iq.shrink {L : Os} {c most : Nat} (hc : c < 4) : ∀ {l : List Nat} {k : K}, Iq P k (pr c l ++ L) → Iq P (shrinkR c most k l).1 (pr c (shrinkR c most k l).2 ++ L)
  | [], _, h => h
  | a :: t, k, h => by
    unfold shrinkR
    by_cases e : t.length + 1 ≤ most
    · rw [if_pos e]; exact h
    · rw [if_neg e]
      exact Iq.shrink hc (Iq.gaveS (L := pr c t ++ L) h hc)
theorem shrink_len (c most : Nat) : ∀ (l : List Nat) (k : K), (shrinkR c most k l).2.length ≤ most
  | [], _ => Nat.zero_le _
  | a :: t, k => by
    unfold shrinkR
    by_cases e : t.length + 1 ≤ most
    · rw [if_pos e]; exact e
    · rw [if_neg e]; exact shrink_len c most t _
theorem shrink_few {c most : Nat} {k : K} {l : List Nat} (h : l.length ≤ most) : shrinkR c most k l = (k, l) := by
  cases l with
  | nil => rfl
  | cons a t => unfold shrinkR; rw [if_pos (by simpa using h)]
theorem shrink_tail (c most : Nat) : ∀ (l : List Nat) (k : K), ∃ m, (shrinkR c most k l).2 = l.drop m
  | [], _ => ⟨0, rfl⟩
  | a :: t, k => by
    unfold shrinkR
    by_cases e : t.length + 1 ≤ most
    · rw [if_pos e]; exact ⟨0, rfl⟩
    · rw [if_neg e]
      obtain ⟨m, hm⟩ := shrink_tail c most t (giveSR k (a : Int) c)
      exact ⟨m + 1, hm⟩
/-! ### A shop -/
def batN (c : Nat) : Nat := 4 - c
theorem bat_i {c : Nat} (hc : c < 4) : batchI (c : Int) = (batN c : Int) := by
  rcases (show c = 0 ∨ c = 1 ∨ c = 2 ∨ c = 3 by omega) with rfl | rfl | rfl | rfl <;> decide
theorem cap_i {c : Nat} (hc : c < 4) : capI (c : Int) = ((2 * batN c : Nat) : Int) := by unfold capI; rw [bat_i hc]; omega
structure Sq (P nw : Nat) (k : K) (ca : Ca) (live : List Lm.S) : Prop where
  iq : Iq P k (outs nw ca live)
  val : Lm.Valid ((P : Int) * 64) live
  own : ∀ x ∈ live, x.c = -1
  non : ∀ w c, nw ≤ w ∨ 4 ≤ c → ca w c = []
  cap : ∀ w c, c < 4 → (ca w c).length ≤ 2 * batN c
variable {nw : Nat} {ca : Ca} {live : List Lm.S}
theorem non_up {w c : Nat} (hw : w < nw) (hc : c < 4) (l : List Nat) (h : ∀ w c, nw ≤ w ∨ 4 ≤ c → ca w c = []) : ∀ w' c', nw ≤ w' ∨ 4 ≤ c' → up ca w c l w' c' = [] := fun w' c' q => by
  rw [up_ne _ _ (by omega)]; exact h w' c' q
theorem cap_up {w c : Nat} {l : List Nat} (hl : l.length ≤ 2 * batN c) (h : ∀ w c, c < 4 → (ca w c).length ≤ 2 * batN c) : ∀ w' c', c' < 4 → (up ca w c l w' c').length ≤ 2 * batN c' := fun w' c' q => by
  by_cases e : w' = w ∧ c' = c
  · rw [e.1, e.2, up_at]; exact hl
  · rw [up_ne _ _ e]; exact h w' c' q
theorem live_mem {a c : Int} : (a, c) ∈ liveC live ↔ outOf live a c := by
  unfold liveC outOf
  rw [List.mem_map]
  constructor
  · rintro ⟨x, hx, e⟩; injection e with e1 e2; exact ⟨x, hx, e1, e2⟩
  · rintro ⟨x, hx, e1, e2⟩; exact ⟨x, hx, by rw [e1, e2]⟩
theorem liveC_ins (live : List Lm.S) (x : Lm.S) : (liveC (Lm.insL live x)).Perm ((x.a, x.n) :: liveC live) := by
  unfold Lm.insL liveC
  rw [List.map_append, List.map_cons]
  refine List.perm_middle.trans ?_
  rw [← List.map_append, List.take_append_drop]
theorem outs_ins (nw : Nat) (ca : Ca) (live : List Lm.S) (x : Lm.S) : (outs nw ca (Lm.insL live x)).Perm ((x.a, x.n) :: outs nw ca live) := by
  unfold outs
  exact (List.Perm.append_left _ (liveC_ins live x)).trans List.perm_middle
theorem outs_del (nw : Nat) (ca : Ca) {live : List Lm.S} {a : Int} (ha : Lm.hasB live a = true) : (outs nw ca live).Perm ((a, classAt live a) :: outs nw ca (Lm.delL live a)) := by
  obtain ⟨x, hx, e, hl⟩ := Lm.has_at ha
  have en : classAt live a = x.n := by unfold classAt; rw [List.getD_eq_getElem?_getD, hx]; rfl
  have sp := split_at hx
  unfold outs
  have : (liveC live).Perm ((a, classAt live a) :: liveC (Lm.delL live a)) := by
    unfold Lm.delL liveC
    conv => lhs; rw [sp]
    rw [List.map_append, List.map_append, List.map_cons, en, ← e]
    exact List.perm_middle
  exact (List.Perm.append_left _ this).trans List.perm_middle
/-- A take of a worker. -/
def takeWR (P : Nat) (k : K) (ca : Ca) (w : Nat) (cl : Int) : K × Ca × Int × Int :=
  if smallB cl then
    match ca w cl.toNat with
    | [] => if (takeSR P k cl.toNat).2.2 = 0 then ((fillR cl.toNat (batN cl.toNat - 1) (takeSR P k cl.toNat).1 []).1, up ca w cl.toNat (fillR cl.toNat (batN cl.toNat - 1) (takeSR P k cl.toNat).1 []).2, (takeSR P k cl.toNat).2.1, 0) else (k, ca, 0, 3)
    | a :: t => (k, up ca w cl.toNat t, (a : Int), 0)
  else ((takeLR k cl).1, ca, (takeLR k cl).2.1, (takeLR k cl).2.2)
inductive TkW (P nw : Nat) (k : K) (ca : Ca) (live : List Lm.S) (cl : Int) (r : K × Ca × Int × Int) : Prop
  | yes (h0 : r.2.2.2 = 0) (h1 : Iq P r.1 ((r.2.2.1, cl) :: outs nw r.2.1 live)) (h2 : ∀ w c, nw ≤ w ∨ 4 ≤ c → r.2.1 w c = []) (h3 : ∀ w c, c < 4 → (r.2.1 w c).length ≤ 2 * batN c)
  | no (h0 : r.2.2.2 = 3) (h1 : r.2.2.1 = 0) (h2 : r.1 = k) (h3 : r.2.1 = ca)
theorem Sq.tookW (h : Sq P nw k ca live) {w : Nat} (hw : w < nw) {n : Int} (hn : classB n = true) : TkW P nw k ca live (classI n) (takeWR P k ca w (classI n)) := by
  unfold takeWR
  rcases class_ways hn with ⟨s, c, e, hc⟩ | ⟨s, c4, c7⟩
  · rw [if_pos s, e, Int.toNat_natCast]
    have ow := outs_own ca live hw hc
    cases q : ca w c with
    | nil =>
      have h0 := h.iq.perm (M := rest nw ca w c live) (by rw [q] at ow; exact ow.symm)
      cases h0.tookS hc with
      | yes e0 e1 =>
        simp only [if_pos e0]
        refine .yes rfl ?_ (non_up hw hc _ h.non) (cap_up ?_ h.cap)
        · have f := Iq.fill (L := ((takeSR P k c).2.1, (c : Int)) :: rest nw ca w c live) hc (n := batN c - 1) (l := []) e1
          refine f.perm ?_
          refine ((outs_split ca _ live hw hc).cons _).trans ?_
          exact List.perm_middle.symm
        · have := fill_len c (batN c - 1) (takeSR P k c).1 []
          simp only [List.length_nil] at this
          omega
      | no e0 e1 e2 =>
        simp only [if_neg (show ¬ (takeSR P k c).2.2 = 0 by omega)]
        exact .no rfl rfl rfl rfl
    | cons a t =>
      refine .yes rfl ?_ (non_up hw hc _ h.non) (cap_up ?_ h.cap)
      · refine h.iq.perm (((outs_split ca t live hw hc).cons _).trans ?_)
        rw [q] at ow
        exact ow.symm
      · have := h.cap w c hc
        rw [q] at this
        simp only [List.length_cons] at this
        omega
  · rw [if_neg (by rw [s]; simp)]
    cases h.iq.tookL c4 c7 with
    | yes e0 e1 => exact .yes e0 e1 h.non h.cap
    | no e0 e1 e2 => exact .no e0 e1 e2 rfl
/-- What was taken lies apart from all that is live. -/
theorem Sq.room {k' : K} {ca' : Ca} {n a : Int} (hn : classB n = true) (i : Iq P k' ((a, classI n) :: outs nw ca' live)) : Lm.roomB ((P : Int) * 64) live n a = true := by
  have ly := i.inv.lies (a := a) (c := classI n) List.mem_cons_self
  have nd := (List.nodup_cons.1 i.nd).1
  unfold Lm.roomB Lm.fitB
  rw [hn, ly.yes]
  have : Lm.anyB live a (wordsI (classI n)) = false := by
    cases e : Lm.anyB live a (wordsI (classI n)) with
    | false => rfl
    | true =>
      obtain ⟨x, hx, z⟩ := List.any_eq_true.1 e
      have z := of_decide_eq_true z
      have m : (x.a, x.n) ∈ outs nw ca' live := List.mem_append.2 (.inr (live_mem.2 ⟨x, hx, rfl, rfl⟩))
      have ap := i.inv.apart (a := a) (c := classI n) (b := x.a) (d := x.n) List.mem_cons_self (List.mem_cons_of_mem _ m) (fun q => nd (by rw [q.1, q.2]; exact m))
      unfold Lm.endI at z
      omega
  rw [this]
  rfl
def allocW (P : Nat) (k : K) (ca : Ca) (live : List Lm.S) (w : Nat) (n : Int) : K × Ca × List Lm.S × Int × Int :=
  if classB n then (if (takeWR P k ca w (classI n)).2.2.2 = 0 then ((takeWR P k ca w (classI n)).1, (takeWR P k ca w (classI n)).2.1, Lm.insL live (Lm.newS n (takeWR P k ca w (classI n)).2.2.1), (takeWR P k ca w (classI n)).2.2.1, 0) else (k, ca, live, 0, 3))
  else (k, ca, live, 0, 1)
theorem Sq.alloc (h : Sq P nw k ca live) {w : Nat} (hw : w < nw) {n : Int} (hn : classB n = true) (h0 : (takeWR P k ca w (classI n)).2.2.2 = 0) :
    Lm.roomB ((P : Int) * 64) live n (takeWR P k ca w (classI n)).2.2.1 = true ∧ Sq P nw (takeWR P k ca w (classI n)).1 (takeWR P k ca w (classI n)).2.1 (Lm.insL live (Lm.newS n (takeWR P k ca w (classI n)).2.2.1)) := by
  cases h.tookW hw hn with
  | no e _ _ _ => omega
  | yes _ i non cap =>
    generalize (takeWR P k ca w (classI n)).2.2.1 = a at *
    generalize (takeWR P k ca w (classI n)).2.1 = ca' at *
    generalize (takeWR P k ca w (classI n)).1 = k' at *
    have room := Sq.room hn i
    refine ⟨room, ⟨i.perm (outs_ins nw ca' live _), h.val.ins room, fun x hx => ?_, non, cap⟩⟩
    rcases lins_mem.1 hx with rfl | hx
    · rfl
    · exact h.own x hx
theorem Sq.allocW (h : Sq P nw k ca live) {w : Nat} (hw : w < nw) (n : Int) : Sq P nw (allocW P k ca live w n).1 (allocW P k ca live w n).2.1 (allocW P k ca live w n).2.2.1 := by
  unfold Shp.allocW
  by_cases hn : classB n = true
  · rw [if_pos hn]
    by_cases h0 : (takeWR P k ca w (classI n)).2.2.2 = 0
    · rw [if_pos h0]; exact (h.alloc hw hn h0).2
    · rw [if_neg h0]; exact h
  · rw [if_neg hn]; exact h
/-! ### Give -/
/-- A worker's give of a stack of a small class: into its cache, from which as many go to their pool as are more than a batch if they are more than the cap. -/
def giveCR (k : K) (l : List Nat) (a : Nat) (c : Nat) : K × List Nat := if l.length + 1 ≤ 2 * batN c then (k, a :: l) else shrinkR c (batN c) k (a :: l)
def giveWR (k : K) (ca : Ca) (w : Nat) (a cl : Int) : K × Ca :=
  if smallB cl then ((giveCR k (ca w cl.toNat) a.toNat cl.toNat).1, up ca w cl.toNat (giveCR k (ca w cl.toNat) a.toNat cl.toNat).2) else (giveLR k a cl, ca)
theorem giveC_len {k : K} {l : List Nat} {a c : Nat} : (giveCR k l a c).2.length ≤ 2 * batN c := by
  unfold giveCR
  by_cases e : l.length + 1 ≤ 2 * batN c
  · rw [if_pos e]; exact e
  · rw [if_neg e]
    have := shrink_len c (batN c) (a :: l) k
    omega
theorem Iq.giveC {L : Os} {l : List Nat} {a c : Nat} (hc : c < 4) (h : Iq P k (pr c (a :: l) ++ L)) : Iq P (giveCR k l a c).1 (pr c (giveCR k l a c).2 ++ L) := by
  unfold giveCR
  by_cases e : l.length + 1 ≤ 2 * batN c
  · rw [if_pos e]; exact h
  · rw [if_neg e]; exact h.shrink hc
def freeW (k : K) (ca : Ca) (live : List Lm.S) (w : Nat) (a : Int) : K × Ca × List Lm.S × Int := if Lm.hasB live a then ((giveWR k ca w a (classAt live a)).1, (giveWR k ca w a (classAt live a)).2, Lm.delL live a, 0) else (k, ca, live, 2)
/-- What is known of a live stack. -/
theorem Sq.at_ (h : Sq P nw k ca live) {a : Int} (ha : Lm.hasB live a = true) : ∃ x, live[Lm.placeL live a]? = some x ∧ x.a = a ∧ x.n = classAt live a ∧ Lm.placeL live a < live.length ∧ (a, classAt live a) ∈ outs nw ca live ∧ 0 ≤ a ∧ a + 32 ≤ (P : Int) * 64 ∧ 0 ≤ classAt live a ∧ classAt live a ≤ 7 := by
  obtain ⟨x, hx, e, hl⟩ := Lm.has_at ha
  have en : classAt live a = x.n := by unfold classAt; rw [List.getD_eq_getElem?_getD, hx]; rfl
  have m : (a, classAt live a) ∈ outs nw ca live := List.mem_append.2 (.inr (live_mem.2 ⟨x, List.mem_of_getElem? hx, e, en.symm⟩))
  have ly := h.iq.inv.lies m
  have := ly.w0
  have := ly.fit
  exact ⟨x, hx, e, en.symm, hl, m, ly.a0, by omega, ly.c0, ly.c7⟩
theorem Sq.free (h : Sq P nw k ca live) {w : Nat} (hw : w < nw) {a : Int} (ha : Lm.hasB live a = true) : Sq P nw (giveWR k ca w a (classAt live a)).1 (giveWR k ca w a (classAt live a)).2 (Lm.delL live a) := by
  obtain ⟨x, hx, e, en, hl, o, a0, _, c0, c7⟩ := h.at_ ha
  have od := h.iq.perm (outs_del nw ca ha).symm
  have v' := h.val.del a
  have o' : ∀ x ∈ Lm.delL live a, x.c = -1 := fun y hy => h.own y ((Lm.del_sub live a).subset hy)
  unfold giveWR
  generalize classAt live a = cl at *
  by_cases c4 : cl < 4
  · rw [if_pos (smallB_in cl c0 c4)]
    obtain ⟨c, rfl⟩ : ∃ c : Nat, cl = (c : Int) := ⟨cl.toNat, by omega⟩
    obtain ⟨n, rfl⟩ : ∃ n : Nat, a = (n : Int) := ⟨a.toNat, by omega⟩
    rw [Int.toNat_natCast, Int.toNat_natCast]
    have hc : c < 4 := by omega
    have i := Iq.giveC (L := rest nw ca w c (Lm.delL live (n : Int))) (l := ca w c) (a := n) hc (od.perm ((outs_own ca _ hw hc).symm.cons _))
    exact ⟨i.perm (outs_split ca _ _ hw hc), v', o', non_up hw hc _ h.non, cap_up giveC_len h.cap⟩
  · rw [if_neg (by rw [smallB_out cl (by omega)]; simp)]
    exact ⟨od.gaveL (by omega), v', o', h.non, h.cap⟩
theorem Sq.freeW (h : Sq P nw k ca live) {w : Nat} (hw : w < nw) (a : Int) : Sq P nw (freeW k ca live w a).1 (freeW k ca live w a).2.1 (freeW k ca live w a).2.2.1 := by
  unfold Shp.freeW
  by_cases ha : Lm.hasB live a = true
  · rw [if_pos ha]; exact h.free hw ha
  · rw [if_neg ha]; exact h
/-! ### Flush, GC -/
/-- The caches of a worker, from the first class on, are given back. -/
def flushR (w : Nat) : Nat → K → Ca → K × Ca
  | 0, k, ca => (k, ca)
  | n + 1, k, ca => ((shrinkR n 0 (flushR w n k ca).1 ((flushR w n k ca).2 w n)).1, up (flushR w n k ca).2 w n (shrinkR n 0 (flushR w n k ca).1 ((flushR w n k ca).2 w n)).2)
theorem Sq.shrinkC (h : Sq P nw k ca live) {w c most : Nat} (hw : w < nw) (hc : c < 4) (hm : most ≤ 2 * batN c) : Sq P nw (shrinkR c most k (ca w c)).1 (up ca w c (shrinkR c most k (ca w c)).2) live := by
  have i := Iq.shrink (most := most) hc (h.iq.perm (outs_own ca live hw hc).symm)
  exact ⟨i.perm (outs_split ca _ live hw hc), h.val, h.own, non_up hw hc _ h.non, cap_up (Nat.le_trans (shrink_len _ _ _ _) hm) h.cap⟩
theorem Sq.flushN (h : Sq P nw k ca live) {w : Nat} (hw : w < nw) : ∀ n, n ≤ 4 → Sq P nw (flushR w n k ca).1 (flushR w n k ca).2 live
  | 0, _ => h
  | n + 1, hn => (Sq.flushN h hw n (by omega)).shrinkC hw (by omega) (Nat.zero_le _)
def flushW (k : K) (ca : Ca) (w : Nat) : K × Ca := flushR w 4 k ca
theorem Sq.flushW (h : Sq P nw k ca live) {w : Nat} (hw : w < nw) : Sq P nw (flushW k ca w).1 (flushW k ca w).2 live := h.flushN hw 4 (Nat.le_refl _)
theorem shrink_nil (c : Nat) (k : K) (l : List Nat) : (shrinkR c 0 k l).2 = [] := List.eq_nil_of_length_eq_zero (by have := shrink_len c 0 l k; omega)
theorem flush_at (w : Nat) (k : K) (ca : Ca) : ∀ n w' c, (flushR w n k ca).2 w' c = if w' = w ∧ c < n then [] else ca w' c
  | 0, w', c => by rw [if_neg (by omega)]; rfl
  | n + 1, w', c => by
    show up (flushR w n k ca).2 w n (shrinkR n 0 (flushR w n k ca).1 ((flushR w n k ca).2 w n)).2 w' c = _
    by_cases e : w' = w ∧ c = n
    · rw [e.1, e.2, up_at, shrink_nil, if_pos ⟨rfl, by omega⟩]
    · rw [up_ne _ _ e, flush_at w k ca n w' c]
      by_cases q : w' = w ∧ c < n
      · rw [if_pos q, if_pos ⟨q.1, by omega⟩]
      · rw [if_neg q, if_neg (by omega)]
theorem Sq.gc (h : Sq P nw k ca live) (on : Bool) : Sq P nw (gcK k on) ca live := ⟨⟨h.iq.inv.gc on, h.iq.nd⟩, h.val, h.own, h.non, h.cap⟩
theorem cache_none (nw : Nat) : cacheL nw (fun _ _ => []) = [] := by
  unfold cacheL pr
  simp
theorem Sq.new (h1 : 1 ≤ P) (h2 : P ≤ 256) (nw : Nat) : Sq P nw ⟨[(0, (P : Int))], [], fun _ => [], [], false, []⟩ (fun _ _ => []) [] := by
  have s := Sv.new h1 h2
  have e : outs nw (fun _ _ => []) [] = [] := by unfold outs; rw [cache_none]; rfl
  refine ⟨⟨s.inv.congr fun a c => ?_, by rw [e]; exact List.nodup_nil⟩, s.val, s.own, fun _ _ _ => rfl, fun _ _ _ => Nat.zero_le _⟩
  rw [e]
  constructor
  · intro h; cases h
  · rintro ⟨x, hx, _⟩; cases hx
/-! ### What the words of cached stacks want -/
/-- Each cached stack is one that is out. -/
def CaO (ca : Ca) (O : Int → Int → Prop) : Prop := ∀ w c, ∀ a ∈ ca w c, c < 4 ∧ O (a : Int) (c : Int)
theorem Sq.mem (h : Sq P nw k ca live) {w c a : Nat} (ha : a ∈ ca w c) : w < nw ∧ c < 4 ∧ ((a : Int), (c : Int)) ∈ cacheL nw ca := by
  have hw : w < nw ∧ c < 4 := by
    apply Classical.byContradiction
    intro q
    rw [h.non w c (by omega)] at ha
    cases ha
  exact ⟨hw.1, hw.2, cache_mem.2 ⟨w, c, a, hw.1, hw.2, ha, rfl, rfl⟩⟩
theorem Sq.cao (h : Sq P nw k ca live) : CaO ca (fun a c => (a, c) ∈ outs nw ca live) := fun _ _ _ ha => ⟨(h.mem ha).2.1, List.mem_append.2 (.inl (h.mem ha).2.2)⟩
/-- No cached stack lies on pages on which no pool has a span. -/
theorem CaO.far {O : Int → Int → Prop} (h : CaO ca O) (v : Inv P k O) {pg : Nat} (f : ∀ d, d < 4 → ∀ y ∈ k.p d, y.page + 8 ≤ pg ∨ pg + 8 ≤ y.page) : ∀ w c, ∀ a ∈ ca w c, ¬ Prt.InSp pg a := fun w c a ha q => by
  obtain ⟨hc, o⟩ := h w c a ha
  obtain ⟨_, x, hx, at_, _⟩ := v.outS _ _ o (by omega)
  rw [Int.toNat_natCast] at *
  have := Prt.at_range at_
  have := f c hc x hx
  unfold Prt.InSp at q
  omega
theorem CaO.nofree {O : Int → Int → Prop} (v : Inv P k O) {a c : Nat} (hc : c < 4) (o : O (a : Int) (c : Int)) : ∀ d, d < 4 → ∀ x ∈ k.p d, a ∉ x.free := fun d hd y hy m => by
  obtain ⟨_, x, hx, at_, nf⟩ := v.outS _ _ o (by omega)
  rw [Int.toNat_natCast] at *
  have r1 := Prt.at_range at_
  have r2 := Prt.at_range ((v.good d hd).stks y hy a m)
  by_cases e : c = d
  · subst e
    obtain ⟨i, hi⟩ := List.mem_iff_getElem?.1 hx
    obtain ⟨j, hj⟩ := List.mem_iff_getElem?.1 hy
    by_cases ij : i = j
    · subst ij
      rw [hi] at hj
      injection hj with hj
      subst hj
      exact nf m
    · have := (v.good c hc).apart hi hj ij
      omega
  · have := v.pool_far hc hd e hx hy
    omega
end Go.Proofs.YtcndilpaijapkaaGreat.Shp
