/-
  The parts of an allocator of stacks as plain data: a heap's runs and spans, the pools, the large ones that wait, the spans that are kept back, and what is out; what is so of them at any time (Inv), and that each step keeps it. Own work; no program is walked here.
-/
import Derived.Test.YtjfkmgicbakmgaaGreatJLive
import Derived.Test.YtjfkmgicbakmgaaGreatJMath
import Derived.Test.YtjfkmgicbakmgaaGreatJSize
import Derived.Test.YtjfkmgicbakmgaaGreatJSpan
namespace Go.Proofs.YtjfkmgicbakmgaaGreat.Sto
open Go.RowKit

structure K where
  rl : List R
  sl : List S
  p : Nat → List Prt.Q
  big : List Bg.R
  on : Bool
  back : List Int
abbrev sp (a n c : Int) : S := ⟨a, n, c⟩
/-- What is so at any time. O: the stacks that are out (address, class). -/
structure Inv (P : Nat) (k : K) (O : Int → Int → Prop) : Prop where
  whole : Whole (P : Int) k.rl k.sl
  good : ∀ c, c < 4 → Prt.GoodP P c (k.p c)
  pool : ∀ c, c < 4 → ∀ x ∈ k.p c, sp (x.page : Int) 8 (c : Int) ∈ k.sl
  some_ : ∀ c, c < 4 → ∀ x ∈ k.p c, x.free.length < Prt.perN c
  back : ∀ q ∈ k.back, ∃ c : Nat, c < 4 ∧ sp q 8 (c : Int) ∈ k.sl ∧ ∀ x ∈ k.p c, (x.page : Int) ≠ q
  bnod : k.back.Nodup
  right : Bg.RightL k.big
  big : ∀ b ∈ k.big, sp (b.1 / 64) (pagesI b.2) b.2 ∈ k.sl
  off : k.on = false → k.back = [] ∧ k.big = []
  outS : ∀ a c, O a c → c < 4 → 0 ≤ c ∧ ∃ x ∈ k.p c.toNat, Prt.atB c.toNat x.page a = true ∧ a.toNat ∉ x.free
  outL : ∀ a c, O a c → 4 ≤ c → c ≤ 7 ∧ a % 64 = 0 ∧ sp (a / 64) (pagesI c) c ∈ k.sl ∧ (a, c) ∉ k.big
  cover : ∀ s ∈ k.sl, (0 ≤ s.c ∧ s.c < 4 ∧ s.n = 8 ∧ ((∃ x ∈ k.p s.c.toNat, (x.page : Int) = s.a) ∨ s.a ∈ k.back)) ∨ (4 ≤ s.c ∧ s.c ≤ 7 ∧ s.n = pagesI s.c ∧ ((s.a * 64, s.c) ∈ k.big ∨ O (s.a * 64) s.c))
  stk : ∀ c, c < 4 → ∀ x ∈ k.p c, ∀ a ∈ Prt.allQ c x.page, a ∈ x.free ∨ O (a : Int) (c : Int)

theorem pages_large {c : Int} (h : 4 ≤ c) (h1 : c ≤ 7) : 8 ≤ pagesI c ∧ pagesI c ≤ 64 ∧ wordsI c = pagesI c * 64 := by
  have : c = 4 ∨ c = 5 ∨ c = 6 ∨ c = 7 := by omega
  rcases this with rfl | rfl | rfl | rfl <;> decide
theorem pages_small {c : Int} (h : 0 ≤ c) (h1 : c < 4) : pagesI c = 8 := by
  unfold pagesI
  rw [smallB_in c h h1]
  rfl
/-- Spans that have a page in common are one. -/
theorem span_eq {P : Int} {l : List S} (g : Good P l) {x y : S} (hx : x ∈ l) (hy : y ∈ l) (h : x.a < y.a + y.n) (h1 : y.a < x.a + x.n) : x = y := by
  obtain ⟨i, hi⟩ := List.mem_iff_getElem?.1 hx
  obtain ⟨j, hj⟩ := List.mem_iff_getElem?.1 hy
  rcases Nat.lt_trichotomy i j with e | e | e
  · have := g.two hi hj e; omega
  · subst e; rw [hi] at hj; injection hj
  · have := g.two hj hi e; omega
theorem span_at {P : Int} {l : List S} (g : Good P l) {x y : S} (hx : x ∈ l) (hy : y ∈ l) (h : x.a = y.a) : x = y :=
  span_eq g hx hy (by have := (g.each y hy).n1; omega) (by have := (g.each x hx).n1; omega)
variable {P : Nat} {k : K} {O : Int → Int → Prop}
theorem Inv.ok (h : Inv P k O) {s : S} (hs : s ∈ k.sl) : Ok (P : Int) s := h.whole.good.each s hs
theorem Inv.pages (h : Inv P k O) : 1 ≤ P ∧ P ≤ 256 := by have := h.whole.pages; omega
theorem Inv.pool_page (h : Inv P k O) {c : Nat} (hc : c < 4) {x : Prt.Q} (hx : x ∈ k.p c) : x.page + 8 ≤ P := (h.good c hc).inP x hx
/-- A page is a span's of one pool at most. -/
theorem Inv.pool_one (h : Inv P k O) {c d : Nat} (hc : c < 4) (hd : d < 4) {x y : Prt.Q} (hx : x ∈ k.p c) (hy : y ∈ k.p d) (e : x.page = y.page) : c = d ∧ x = y := by
  have e1 := span_at h.whole.good (h.pool c hc x hx) (h.pool d hd y hy) (by show (x.page : Int) = y.page; omega)
  injection e1 with _ _ e2
  obtain rfl : c = d := by omega
  refine ⟨rfl, ?_⟩
  obtain ⟨i, hi⟩ := List.mem_iff_getElem?.1 hx
  obtain ⟨j, hj⟩ := List.mem_iff_getElem?.1 hy
  by_cases ij : i = j
  · subst ij; rw [hi] at hj; injection hj
  · have := (h.good c hc).apart hi hj ij
    omega
/-- Spans of pools are far from each other. -/
theorem Inv.pool_far (h : Inv P k O) {c d : Nat} (hc : c < 4) (hd : d < 4) (ne : c ≠ d) {x y : Prt.Q} (hx : x ∈ k.p c) (hy : y ∈ k.p d) : x.page + 8 ≤ y.page ∨ y.page + 8 ≤ x.page := by
  apply Classical.byContradiction
  intro q
  have := span_eq h.whole.good (h.pool c hc x hx) (h.pool d hd y hy) (by show (x.page : Int) < y.page + 8; omega) (by show (y.page : Int) < x.page + 8; omega)
  injection this with _ _ e
  omega
theorem at_page {c pg : Nat} {a : Int} (hc : c < 4) (h : Prt.atB c pg a = true) : (pg : Int) ≤ a / 64 ∧ a / 64 < pg + 8 ∧ a % 32 = 0 ∧ 0 ≤ a ∧ a + wordsI (c : Int) ≤ (pg : Int) * 64 + 512 := by
  have r := Prt.at_range h
  obtain ⟨i, hi, e⟩ := Prt.of_at hc h
  have := Prt.stk_lt (page := pg) hc hi
  rw [Prt.wordsI_c hc]
  have w32 : Prt.wN c % 32 = 0 := by rcases Prt.c_ways hc with ⟨_, e, _⟩ | ⟨_, e, _⟩ | ⟨_, e, _⟩ | ⟨_, e, _⟩ <;> omega
  have m32 : (i * Prt.wN c) % 32 = 0 := by rw [Nat.mul_mod, w32, Nat.mul_zero, Nat.zero_mod]
  unfold Prt.stk at *
  refine ⟨by omega, by omega, by omega, by omega, by omega⟩
/-- The span that a stack lies in. -/
theorem Inv.home (h : Inv P k O) {a c : Int} (o : O a c) : ∃ s ∈ k.sl, s.c = c ∧ s.a * 64 ≤ a ∧ a + wordsI c ≤ (s.a + s.n) * 64 ∧ 0 ≤ a ∧ a % 32 = 0 ∧ 0 ≤ c ∧ c ≤ 7 := by
  by_cases c4 : c < 4
  · obtain ⟨c0, x, hx, ha, _⟩ := h.outS a c o c4
    have q := at_page (by omega) ha
    obtain ⟨d, rfl⟩ : ∃ d : Nat, c = (d : Int) := ⟨c.toNat, by omega⟩
    rw [Int.toNat_natCast] at *
    exact ⟨_, h.pool d (by omega) x hx, rfl, by show (x.page : Int) * 64 ≤ a; omega, by show a + _ ≤ ((x.page : Int) + 8) * 64; omega, by omega, by omega, by omega, by omega⟩
  · obtain ⟨c7, m, hs, _⟩ := h.outL a c o (by omega)
    have ok := h.ok hs
    have a0 := ok.a0
    obtain ⟨p0, p1, p2⟩ := pages_large (c := c) (by omega) c7
    simp only at a0
    exact ⟨_, hs, rfl, by show a / 64 * 64 ≤ a; omega, by show a + _ ≤ (a / 64 + pagesI c) * 64; omega, by omega, by omega, by omega, c7⟩
/-- What is out lies within. -/
theorem Inv.lies (h : Inv P k O) {a c : Int} (o : O a c) : Lm.Lies ((P : Int) * 64) a c := by
  obtain ⟨s, hs, _, e1, e2, e3, e4, c0, c7⟩ := h.home o
  have ok := h.ok hs
  have up := ok.up
  rcases Lm.words_ways c with ⟨q, _⟩ | ⟨_, _, w0, w1, w2⟩
  · omega
  · exact ⟨w0, w1, w2, e3, e4, by omega, c0, c7⟩
theorem at_apart {c pg : Nat} {a b : Int} (hc : c < 4) (ha : Prt.atB c pg a = true) (hb : Prt.atB c pg b = true) (ne : a ≠ b) : a + wordsI (c : Int) ≤ b ∨ b + wordsI (c : Int) ≤ a := by
  obtain ⟨i, hi, e⟩ := Prt.of_at hc ha
  obtain ⟨j, hj, f⟩ := Prt.of_at hc hb
  rw [Prt.wordsI_c hc]
  unfold Prt.stk at e f
  have : i ≠ j := fun q => ne (by rw [e, f, q])
  rcases Nat.lt_or_gt_of_ne this with q | q
  · have := Prt.mul_lt_of (w := Prt.wN c) q
    left; omega
  · have := Prt.mul_lt_of (w := Prt.wN c) q
    right; omega
/-- What is out at two places has no word in common. -/
theorem Inv.apart (h : Inv P k O) {a c b d : Int} (o : O a c) (o' : O b d) (ne : ¬ (a = b ∧ c = d)) : a + wordsI c ≤ b ∨ b + wordsI d ≤ a := by
  obtain ⟨s, hs, sc, e1, e2, _, _, c0, c7⟩ := h.home o
  obtain ⟨t, ht, tc, f1, f2, _, _, d0, d7⟩ := h.home o'
  by_cases st : s = t
  · subst st
    obtain rfl : c = d := by omega
    by_cases c4 : c < 4
    · obtain ⟨_, x, hx, ha, _⟩ := h.outS a c o c4
      obtain ⟨_, y, hy, hb, _⟩ := h.outS b c o' c4
      obtain ⟨n, rfl⟩ : ∃ n : Nat, c = (n : Int) := ⟨c.toNat, by omega⟩
      rw [Int.toNat_natCast] at *
      have qa := at_page (by omega) ha
      have qb := at_page (by omega) hb
      have h1 := h.pool n (by omega) x hx
      have h2 := h.pool n (by omega) y hy
      have w32 := (h.lies o).w0
      have z1 := span_eq h.whole.good hs h1 (by show s.a < (x.page : Int) + 8; omega) (by show (x.page : Int) < s.a + s.n; omega)
      have z2 := span_eq h.whole.good hs h2 (by show s.a < (y.page : Int) + 8; omega) (by show (y.page : Int) < s.a + s.n; omega)
      have z3 : (x.page : Int) = (y.page : Int) := by
        have := z1.symm.trans z2
        injection this
      have := (h.pool_one (by omega) (by omega) hx hy (by omega)).2
      subst this
      exact at_apart (by omega) ha hb (fun e => ne ⟨e, rfl⟩)
    · exfalso
      obtain ⟨_, m, h1, _⟩ := h.outL a c o (by omega)
      obtain ⟨_, m', h2, _⟩ := h.outL b c o' (by omega)
      have ok1 := (h.ok h1).n1
      have w32 := (h.lies o).w0
      have w32' := (h.lies o').w0
      have p := pages_large (c := c) (by omega) c7
      have z1 := span_eq h.whole.good hs h1 (by show s.a < a / 64 + pagesI c; omega) (by show a / 64 < s.a + s.n; omega)
      have z2 := span_eq h.whole.good hs h2 (by show s.a < b / 64 + pagesI c; omega) (by show b / 64 < s.a + s.n; omega)
      have z3 : a / 64 = b / 64 := by
        have := z1.symm.trans z2
        injection this
      exact ne ⟨by omega, rfl⟩
  · have : ¬ (s.a < t.a + t.n ∧ t.a < s.a + s.n) := fun q => st (span_eq h.whole.good hs ht q.1 q.2)
    omega
/-- One address, one class. -/
theorem Inv.same (h : Inv P k O) {a c d : Int} (o : O a c) (o' : O a d) : c = d := by
  apply Classical.byContradiction
  intro q
  have := h.apart o o' (fun e => q e.2)
  have := (h.lies o).w0
  have := (h.lies o').w0
  omega
end Go.Proofs.YtjfkmgicbakmgaaGreat.Sto
