/-
  Joined texts of Pieces; own work.
-/
import Derived.Test.YtjfkmgicbakmgaaGreatRows
import Derived.WalkKit
import Derived.OwnWalk
import Derived.Maps.AppendAt
import Derived.Deep.AppendLies
import Derived.Deep.SlicePairs
import Derived.ProofKit
import Derived.OpenShut
import Derived.Outline
import Derived.Deep.Light
import Derived.Deep.QuietTactic
import Derived.BigQuiet
import Derived.IntWalk
import Derived.Test.YtjfkmgicbakmgaaGreatJBase
import Derived.Test.YtjfkmgicbakmgaaGreatJStoreLive
import Derived.Test.YtjfkmgicbakmgaaGreatJStoreParts
/- The pieces that an allocator's words are parted into: each two are apart, each word is in one, together they are all words; one order of addresses. Own work; no program is walked here. -/
namespace Go.Proofs.YtjfkmgicbakmgaaGreat.Sto
open Go.RowKit

abbrev Pc := Int × Int
abbrev Dis (x y : Pc) : Prop := x.1 + x.2 ≤ y.1 ∨ y.1 + y.2 ≤ x.1
theorem Dis.symm {x y : Pc} (h : Dis x y) : Dis y x := Or.symm h
/-- A list in ascending order of addresses. -/
structure SortOf (L M : List Pc) : Prop where
  perm : M.Perm L
  asc : M.Pairwise (fun x y => x.1 < y.1)
theorem SortOf.one {L M N : List Pc} (h : SortOf L M) (k : SortOf L N) : M = N :=
  List.Perm.eq_of_pairwise (le := fun x y => x.1 < y.1) (fun a b _ _ h1 h2 => by omega) h.asc k.asc (h.perm.trans k.perm.symm)
def runsP (rl : List R) : List Pc := rl.map fun r => (r.1 * 64, r.2 * 64)
def poolC (c : Nat) (L : List Prt.Q) : List Pc := (Prt.freeL L).map fun (a : Nat) => ((a : Int), wordsI (c : Int))
def poolP (p : Nat → List Prt.Q) : List Pc := poolC 0 (p 0) ++ (poolC 1 (p 1) ++ (poolC 2 (p 2) ++ poolC 3 (p 3)))
def outP (l : List (Int × Int)) : List Pc := l.map fun x => (x.1, wordsI x.2)
def lateP (l : List Int) : List Pc := l.map fun q => (q * 64, 512)
def liveC (l : List Lm.S) : List (Int × Int) := l.map fun x => (x.a, x.n)
def liveP (l : List Lm.S) : List Pc := l.map fun x => (x.a, wordsI x.n)
theorem liveP_out (l : List Lm.S) : liveP l = outP (liveC l) := by unfold liveP outP liveC; rw [List.map_map]; rfl
def allP (k : K) (outs : List (Int × Int)) : List Pc := runsP k.rl ++ (poolP k.p ++ (outP k.big ++ (lateP k.back ++ outP outs)))
def sumP : List Pc → Int
  | [] => 0
  | x :: t => x.2 + sumP t
theorem sumP_append (a b : List Pc) : sumP (a ++ b) = sumP a + sumP b := by
  induction a with
  | nil => simp [sumP]
  | cons x t ih => simp only [List.cons_append, sumP, ih]; omega
theorem sumP_perm {a b : List Pc} (h : a.Perm b) : sumP a = sumP b := by
  induction h with
  | nil => rfl
  | cons x _ ih => simp only [sumP, ih]
  | swap x y l => simp only [sumP]; omega
  | trans _ _ h1 h2 => exact h1.trans h2
/-! ### Words counted -/
def ind (x : Pc) (j : Nat) : Nat := if x.1 ≤ (j : Int) ∧ (j : Int) < x.1 + x.2 then 1 else 0
def cnt : List Pc → Nat → Nat
  | [], _ => 0
  | x :: t, j => ind x j + cnt t j
def tot (f : Nat → Nat) : Nat → Nat
  | 0 => 0
  | n + 1 => tot f n + f n
theorem tot_ind (x : Pc) (h0 : 0 ≤ x.1) (h1 : 0 ≤ x.2) : ∀ n : Nat, (tot (ind x) n : Int) = if (n : Int) ≤ x.1 then 0 else if (n : Int) ≤ x.1 + x.2 then n - x.1 else x.2 := by
  intro n
  induction n with
  | zero => rw [if_pos (by simpa using h0)]; rfl
  | succ n ih =>
    unfold tot ind
    unfold ind at ih
    split at ih <;> split <;> split <;> omega
theorem tot_cnt : ∀ (L : List Pc), (∀ x ∈ L, 0 ≤ x.1 ∧ 1 ≤ x.2) → ∀ n : Nat, (∀ x ∈ L, x.1 + x.2 ≤ (n : Int)) → (tot (cnt L) n : Int) = sumP L
  | [], _, n, _ => by
    have : ∀ n, tot (cnt []) n = 0 := by
      intro n
      induction n with
      | zero => rfl
      | succ n ih => unfold tot; rw [ih]; rfl
    rw [this]; rfl
  | x :: t, h, n, hn => by
    have a := tot_cnt t (fun y hy => h y (List.mem_cons_of_mem _ hy)) n (fun y hy => hn y (List.mem_cons_of_mem _ hy))
    have hx := h x List.mem_cons_self
    have hnx := hn x List.mem_cons_self
    have b := tot_ind x hx.1 (by omega) n
    have e : ∀ m, tot (cnt (x :: t)) m = tot (ind x) m + tot (cnt t) m := by
      intro m
      induction m with
      | zero => rfl
      | succ m ih =>
        show tot (cnt (x :: t)) m + cnt (x :: t) m = (tot (ind x) m + ind x m) + (tot (cnt t) m + cnt t m)
        rw [ih]
        show _ + (ind x m + cnt t m) = _
        omega
    rw [e, show sumP (x :: t) = x.2 + sumP t from rfl, ← a]
    rw [if_neg (by omega), ] at b
    by_cases q : (n : Int) ≤ x.1 + x.2
    · rw [if_pos q] at b; omega
    · rw [if_neg q] at b; omega
theorem cnt_le {L : List Pc} (h : L.Pairwise Dis) (j : Nat) : cnt L j ≤ 1 := by
  induction L with
  | nil => exact Nat.zero_le _
  | cons x t ih =>
    obtain ⟨h1, h2⟩ := List.pairwise_cons.1 h
    have := ih h2
    show ind x j + cnt t j ≤ 1
    by_cases c : x.1 ≤ (j : Int) ∧ (j : Int) < x.1 + x.2
    · have z : cnt t j = 0 := by
        clear ih this h2 h
        induction t with
        | nil => rfl
        | cons y s ih =>
          have d := h1 y List.mem_cons_self
          have := ih (fun z hz => h1 z (List.mem_cons_of_mem _ hz))
          show ind y j + cnt s j = 0
          rw [this]
          unfold ind
          rw [if_neg (by omega)]
      rw [z]
      unfold ind
      split <;> omega
    · unfold ind
      rw [if_neg c]
      omega
theorem cnt_pos {L : List Pc} {j : Nat} : (∃ x ∈ L, x.1 ≤ (j : Int) ∧ (j : Int) < x.1 + x.2) → 1 ≤ cnt L j := by
  induction L with
  | nil => rintro ⟨x, hx, _⟩; cases hx
  | cons y t ih =>
    rintro ⟨x, hx, c⟩
    show 1 ≤ ind y j + cnt t j
    rcases List.mem_cons.1 hx with rfl | hx
    · unfold ind; rw [if_pos c]; omega
    · have := ih ⟨x, hx, c⟩; omega
/-- Pieces apart from each other, in which each word is: their words are all. -/
theorem sum_all {L : List Pc} {N : Nat} (pw : L.Pairwise Dis) (fit : ∀ x ∈ L, 0 ≤ x.1 ∧ 1 ≤ x.2 ∧ x.1 + x.2 ≤ (N : Int)) (cov : ∀ j : Nat, j < N → ∃ x ∈ L, x.1 ≤ (j : Int) ∧ (j : Int) < x.1 + x.2) : sumP L = (N : Int) := by
  have e := tot_cnt L (fun x hx => ⟨(fit x hx).1, (fit x hx).2.1⟩) N (fun x hx => (fit x hx).2.2)
  have o : ∀ n, n ≤ N → tot (cnt L) n = n := by
    intro n
    induction n with
    | zero => intro _; rfl
    | succ n ih =>
      intro hn
      have := ih (by omega)
      have a := cnt_le pw n
      have b := cnt_pos (cov n (by omega))
      show tot (cnt L) n + cnt L n = n + 1
      omega
  rw [← e, o N (Nat.le_refl _)]
/-! ### Where each piece is at home -/
def In (s : S) (x : Pc) : Prop := s.a * 64 ≤ x.1 ∧ x.1 + x.2 ≤ (s.a + s.n) * 64
theorem span_dis {P : Int} {l : List S} (g : Good P l) {s t : S} (hs : s ∈ l) (ht : t ∈ l) (ne : s ≠ t) {x y : Pc} (hx : In s x) (hy : In t y) : Dis x y := by
  have q : ¬ (s.a < t.a + t.n ∧ t.a < s.a + s.n) := fun q => ne (span_eq g hs ht q.1 q.2)
  unfold In at hx hy
  show _ ∨ _
  omega
variable {P : Nat} {k : K} {O : Int → Int → Prop}
theorem Inv.inPool (h : Inv P k O) {c : Nat} (hc : c < 4) {x : Prt.Q} (hx : x ∈ k.p c) {a : Nat} (ha : a ∈ x.free) : In (sp (x.page : Int) 8 (c : Int)) ((a : Int), wordsI (c : Int)) := by
  have q := at_page hc ((h.good c hc).stks x hx a ha)
  exact ⟨by show (x.page : Int) * 64 ≤ (a : Int); omega, by show (a : Int) + wordsI (c : Int) ≤ ((x.page : Int) + 8) * 64; omega⟩
theorem Inv.inBig (h : Inv P k O) {b : Bg.R} (hb : b ∈ k.big) : sp (b.1 / 64) (pagesI b.2) b.2 ∈ k.sl ∧ In (sp (b.1 / 64) (pagesI b.2) b.2) (b.1, wordsI b.2) ∧ 4 ≤ b.2 ∧ b.2 ≤ 7 ∧ b.1 % 64 = 0 := by
  have m := Bg.may_of ((Bg.right_pw.1 h.right).1 b hb)
  have w := pages_large m.c0 m.c1
  have a1 := m.a1
  exact ⟨h.big b hb, ⟨by show b.1 / 64 * 64 ≤ b.1; omega, by show b.1 + wordsI b.2 ≤ (b.1 / 64 + pagesI b.2) * 64; omega⟩, m.c0, m.c1, a1⟩
theorem in_late (q c : Int) : In (sp q 8 c) (q * 64, 512) := ⟨by show q * 64 ≤ q * 64; omega, by show q * 64 + 512 ≤ (q + 8) * 64; omega⟩
theorem runs_pw {p : Int} : ∀ {rl : List R} {f : Int}, Right p f rl → rl.Pairwise (fun x y => x.1 + x.2 ≤ y.1)
  | [], _, _ => .nil
  | x :: t, _, h => by
    obtain ⟨_, _, _, _, h5⟩ := h
    exact List.pairwise_cons.2 ⟨fun y hy => by have := (h5.mem hy).1; omega, runs_pw h5⟩
theorem mem_poolP {p : Nat → List Prt.Q} {y : Pc} (h : y ∈ poolP p) : ∃ c : Nat, c < 4 ∧ ∃ x ∈ p c, ∃ a ∈ x.free, y = ((a : Int), wordsI (c : Int)) := by
  have one : ∀ c : Nat, c < 4 → y ∈ poolC c (p c) → ∃ c : Nat, c < 4 ∧ ∃ x ∈ p c, ∃ a ∈ x.free, y = ((a : Int), wordsI (c : Int)) := fun c hc hy => by
    obtain ⟨a, ha, rfl⟩ := List.mem_map.1 hy
    obtain ⟨x, hx, ha⟩ := List.mem_flatMap.1 ha
    exact ⟨c, hc, x, hx, a, ha, rfl⟩
  unfold poolP at h
  simp only [List.mem_append] at h
  rcases h with h | h | h | h
  · exact one 0 (by omega) h
  · exact one 1 (by omega) h
  · exact one 2 (by omega) h
  · exact one 3 (by omega) h
theorem poolP_mem {p : Nat → List Prt.Q} {c : Nat} (hc : c < 4) {x : Prt.Q} (hx : x ∈ p c) {a : Nat} (ha : a ∈ x.free) : ((a : Int), wordsI (c : Int)) ∈ poolP p := by
  have m : ((a : Int), wordsI (c : Int)) ∈ poolC c (p c) := List.mem_map.2 ⟨a, List.mem_flatMap.2 ⟨x, hx, ha⟩, rfl⟩
  unfold poolP
  simp only [List.mem_append]
  rcases (show c = 0 ∨ c = 1 ∨ c = 2 ∨ c = 3 by omega) with rfl | rfl | rfl | rfl
  · exact .inl m
  · exact .inr (.inl m)
  · exact .inr (.inr (.inl m))
  · exact .inr (.inr (.inr m))
theorem Inv.pool_dis (h : Inv P k O) {c d : Nat} (hc : c < 4) (hd : d < 4) {x y : Prt.Q} (hx : x ∈ k.p c) (hy : y ∈ k.p d) (ne : x.page + 8 ≤ y.page ∨ y.page + 8 ≤ x.page) {a b : Nat} (ha : a ∈ x.free) (hb : b ∈ y.free) : Dis ((a : Int), wordsI (c : Int)) ((b : Int), wordsI (d : Int)) := by
  have i : (x.page : Int) * 64 ≤ (a : Int) ∧ (a : Int) + wordsI (c : Int) ≤ ((x.page : Int) + 8) * 64 := h.inPool hc hx ha
  have j : (y.page : Int) * 64 ≤ (b : Int) ∧ (b : Int) + wordsI (d : Int) ≤ ((y.page : Int) + 8) * 64 := h.inPool hd hy hb
  show (a : Int) + wordsI (c : Int) ≤ (b : Int) ∨ (b : Int) + wordsI (d : Int) ≤ (a : Int)
  omega
theorem Inv.poolC_pw (h : Inv P k O) {c : Nat} (hc : c < 4) : (poolC c (k.p c)).Pairwise Dis := by
  unfold poolC Prt.freeL
  rw [List.pairwise_map, List.pairwise_flatMap]
  refine ⟨fun x hx => ?_, ?_⟩
  · refine ((h.good c hc).nod x hx).imp_of_mem ?_
    intro a b ha hb ne
    exact at_apart hc ((h.good c hc).stks x hx a ha) ((h.good c hc).stks x hx b hb) (by omega)
  · refine ((h.good c hc).asc).imp_of_mem ?_
    intro x y hx hy e a ha b hb
    exact h.pool_dis hc hc hx hy (.inl e) ha hb
theorem Inv.poolCD (h : Inv P k O) {c d : Nat} (hc : c < 4) (hd : d < 4) (ne : c ≠ d) : ∀ x ∈ poolC c (k.p c), ∀ y ∈ poolC d (k.p d), Dis x y := by
  intro x hx y hy
  obtain ⟨a, ha, rfl⟩ := List.mem_map.1 hx
  obtain ⟨u, hu, ha⟩ := List.mem_flatMap.1 ha
  obtain ⟨b, hb, rfl⟩ := List.mem_map.1 hy
  obtain ⟨v, hv, hb⟩ := List.mem_flatMap.1 hb
  exact h.pool_dis hc hd hu hv (h.pool_far hc hd ne hu hv) ha hb
theorem Inv.pool_pw (h : Inv P k O) : (poolP k.p).Pairwise Dis := by
  unfold poolP
  refine List.pairwise_append.2 ⟨h.poolC_pw (by omega), List.pairwise_append.2 ⟨h.poolC_pw (by omega), List.pairwise_append.2 ⟨h.poolC_pw (by omega), h.poolC_pw (by omega), h.poolCD (by omega) (by omega) (by omega)⟩, fun x hx y hy => ?_⟩, fun x hx y hy => ?_⟩
  · rcases List.mem_append.1 hy with hy | hy
    · exact h.poolCD (by omega) (by omega) (by omega) x hx y hy
    · exact h.poolCD (by omega) (by omega) (by omega) x hx y hy
  · rcases List.mem_append.1 hy with hy | hy
    · exact h.poolCD (by omega) (by omega) (by omega) x hx y hy
    · rcases List.mem_append.1 hy with hy | hy
      · exact h.poolCD (by omega) (by omega) (by omega) x hx y hy
      · exact h.poolCD (by omega) (by omega) (by omega) x hx y hy
/-- What is out, as pairs. -/
structure Outs (O : Int → Int → Prop) (outs : List (Int × Int)) : Prop where
  mem : ∀ a c, O a c ↔ (a, c) ∈ outs
  nod : outs.Nodup
theorem ne_class {a b n m c d : Int} (h : c ≠ d) : sp a n c ≠ sp b m d := fun e => by injection e with _ _ e; exact h e
theorem Inv.pieces (h : Inv P k O) {outs : List (Int × Int)} (o : Outs O outs) : (allP k outs).Pairwise Dis := by
  have g := h.whole.good
  unfold allP
  refine List.pairwise_append.2 ⟨?_, List.pairwise_append.2 ⟨h.pool_pw, List.pairwise_append.2 ⟨?_, List.pairwise_append.2 ⟨?_, ?_, ?_⟩, ?_⟩, ?_⟩, ?_⟩
  · unfold runsP
    rw [List.pairwise_map]
    exact (runs_pw h.whole.right).imp fun {a b} e => by show a.1 * 64 + a.2 * 64 ≤ b.1 * 64 ∨ _; omega
  · unfold outP
    rw [List.pairwise_map]
    refine (Bg.right_pw.1 h.right).2.imp ?_
    intro a b e
    have z := of_decide_eq_false e.2
    show a.1 + wordsI a.2 ≤ b.1 ∨ b.1 + wordsI b.2 ≤ a.1
    omega
  · unfold lateP
    rw [List.pairwise_map]
    refine h.bnod.imp_of_mem ?_
    intro q r hq hr ne
    obtain ⟨c, _, hs, _⟩ := h.back q hq
    obtain ⟨d, _, ht, _⟩ := h.back r hr
    exact span_dis g hs ht (fun e => by injection e with e; exact ne e) (in_late q c) (in_late r d)
  · unfold outP
    rw [List.pairwise_map]
    refine o.nod.imp_of_mem ?_
    intro x y hx hy ne
    exact h.apart ((o.mem _ _).2 hx) ((o.mem _ _).2 hy) (fun e => ne (Prod.ext e.1 e.2))
  · intro x hx y hy
    obtain ⟨q, hq, rfl⟩ := List.mem_map.1 hx
    obtain ⟨⟨a, c⟩, hb, rfl⟩ := List.mem_map.1 hy
    obtain ⟨d, d4, hs, far⟩ := h.back q hq
    have oc := (o.mem a c).2 hb
    by_cases c4 : c < 4
    · obtain ⟨c0, z, hz, ha, _⟩ := h.outS a c oc c4
      obtain ⟨n, rfl⟩ : ∃ n : Nat, c = (n : Int) := ⟨c.toNat, by omega⟩
      rw [Int.toNat_natCast] at hz ha
      have w := at_page (by omega) ha
      refine span_dis g hs (h.pool n (by omega) z hz) (fun e => ?_) (in_late q d) ⟨by show (z.page : Int) * 64 ≤ a; omega, by show a + wordsI (n : Int) ≤ ((z.page : Int) + 8) * 64; omega⟩
      injection e with e1 _ e2
      obtain rfl : d = n := by omega
      exact far z hz e1.symm
    · obtain ⟨c7, m, ht, _⟩ := h.outL a c oc (by omega)
      have w := pages_large (c := c) (by omega) c7
      exact span_dis g hs ht (ne_class (by omega)) (in_late q d) ⟨by show a / 64 * 64 ≤ a; omega, by show a + wordsI c ≤ (a / 64 + pagesI c) * 64; omega⟩
  · intro x hx y hy
    obtain ⟨b, hb, rfl⟩ := List.mem_map.1 hx
    obtain ⟨hs, ib, b4, b7, bm⟩ := h.inBig hb
    rcases List.mem_append.1 hy with hy | hy
    · obtain ⟨q, hq, rfl⟩ := List.mem_map.1 hy
      obtain ⟨d, d4, ht, _⟩ := h.back q hq
      exact span_dis g hs ht (ne_class (by omega)) ib (in_late q d)
    · obtain ⟨⟨a, c⟩, ho, rfl⟩ := List.mem_map.1 hy
      have oc := (o.mem a c).2 ho
      by_cases c4 : c < 4
      · obtain ⟨s, hs', sc, e1, e2, _⟩ := h.home oc
        exact span_dis g hs hs' (fun e => by rw [← e] at sc; have : b.2 = c := sc; omega) ib ⟨e1, e2⟩
      · obtain ⟨c7, m, ht, nb⟩ := h.outL a c oc (by omega)
        have w := pages_large (c := c) (by omega) c7
        refine span_dis g hs ht (fun e => ?_) ib ⟨by show a / 64 * 64 ≤ a; omega, by show a + wordsI c ≤ (a / 64 + pagesI c) * 64; omega⟩
        injection e with e1 _ e2
        have : b = (a, c) := Prod.ext (by show b.1 = a; omega) e2
        exact nb (this ▸ hb)
  · intro x hx y hy
    obtain ⟨c, hc, u, hu, a, ha, rfl⟩ := mem_poolP hx
    have hs := h.pool c hc u hu
    have ip := h.inPool hc hu ha
    rcases List.mem_append.1 hy with hy | hy
    · obtain ⟨b, hb, rfl⟩ := List.mem_map.1 hy
      obtain ⟨ht, ib, b4, b7, bm⟩ := h.inBig hb
      exact span_dis g hs ht (ne_class (by omega)) ip ib
    · rcases List.mem_append.1 hy with hy | hy
      · obtain ⟨q, hq, rfl⟩ := List.mem_map.1 hy
        obtain ⟨d, d4, ht, far⟩ := h.back q hq
        refine span_dis g hs ht (fun e => ?_) ip (in_late q d)
        injection e with e1 _ e2
        obtain rfl : c = d := by omega
        exact far u hu e1
      · obtain ⟨⟨b, d⟩, ho, rfl⟩ := List.mem_map.1 hy
        have oc := (o.mem b d).2 ho
        by_cases d4 : d < 4
        · obtain ⟨d0, v, hv, hb, nf⟩ := h.outS b d oc d4
          obtain ⟨n, rfl⟩ : ∃ n : Nat, d = (n : Int) := ⟨d.toNat, by omega⟩
          rw [Int.toNat_natCast] at hv hb
          by_cases e : u.page = v.page
          · obtain ⟨rfl, rfl⟩ := h.pool_one hc (by omega) hu hv e
            exact at_apart hc ((h.good c hc).stks u hu a ha) hb (fun e => nf (by have e : (a : Int) = b := e; rw [← e, Int.toNat_natCast]; exact ha))
          · have w := at_page (by omega) hb
            exact span_dis g hs (h.pool n (by omega) v hv) (fun z => by injection z with z; exact e (by omega)) ip ⟨by show (v.page : Int) * 64 ≤ b; omega, by show b + wordsI (n : Int) ≤ ((v.page : Int) + 8) * 64; omega⟩
        · obtain ⟨d7, m, ht, _⟩ := h.outL b d oc (by omega)
          have w := pages_large (c := d) (by omega) d7
          exact span_dis g hs ht (ne_class (by omega)) ip ⟨by show b / 64 * 64 ≤ b; omega, by show b + wordsI d ≤ (b / 64 + pagesI d) * 64; omega⟩
  · intro x hx y hy
    obtain ⟨r, hr, rfl⟩ := List.mem_map.1 hx
    have run : ∀ {s : S} {y : Pc}, s ∈ k.sl → In s y → Dis (r.1 * 64, r.2 * 64) y := fun {s y} hs i => by
      have := h.whole.apart hr hs
      unfold In at i
      show r.1 * 64 + r.2 * 64 ≤ y.1 ∨ y.1 + y.2 ≤ r.1 * 64
      omega
    rcases List.mem_append.1 hy with hy | hy
    · obtain ⟨c, hc, u, hu, a, ha, rfl⟩ := mem_poolP hy
      exact run (h.pool c hc u hu) (h.inPool hc hu ha)
    · rcases List.mem_append.1 hy with hy | hy
      · obtain ⟨b, hb, rfl⟩ := List.mem_map.1 hy
        obtain ⟨ht, ib, _⟩ := h.inBig hb
        exact run ht ib
      · rcases List.mem_append.1 hy with hy | hy
        · obtain ⟨q, hq, rfl⟩ := List.mem_map.1 hy
          obtain ⟨d, _, ht, _⟩ := h.back q hq
          exact run ht (in_late q d)
        · obtain ⟨⟨b, d⟩, ho, rfl⟩ := List.mem_map.1 hy
          obtain ⟨s, hs, _, e1, e2, _⟩ := h.home ((o.mem b d).2 ho)
          exact run hs ⟨e1, e2⟩
/-- Each piece lies within, and has a word. -/
theorem Inv.fits (h : Inv P k O) {outs : List (Int × Int)} (o : Outs O outs) : ∀ x ∈ allP k outs, 0 ≤ x.1 ∧ 1 ≤ x.2 ∧ x.1 + x.2 ≤ ((P * 64 : Nat) : Int) := by
  intro x hx
  have span : ∀ {s : S} {y : Pc}, s ∈ k.sl → In s y → 0 ≤ y.1 ∧ y.1 + y.2 ≤ ((P * 64 : Nat) : Int) := fun {s y} hs i => by
    have ok := h.ok hs
    have a0 := ok.a0
    have up := ok.up
    unfold In at i
    omega
  unfold allP at hx
  simp only [List.mem_append] at hx
  rcases hx with hx | hx | hx | hx | hx
  · obtain ⟨r, hr, rfl⟩ := List.mem_map.1 hx
    have := h.whole.right.mem hr
    simp only
    omega
  · obtain ⟨c, hc, u, hu, a, ha, rfl⟩ := mem_poolP hx
    have i := span (h.pool c hc u hu) (h.inPool hc hu ha)
    have w := Prt.w_pos hc
    rw [Prt.wordsI_c hc] at *
    simp only at *
    omega
  · obtain ⟨b, hb, rfl⟩ := List.mem_map.1 hx
    obtain ⟨ht, ib, b4, b7, _⟩ := h.inBig hb
    have i := span ht ib
    have w := pages_large b4 b7
    simp only at *
    omega
  · obtain ⟨q, hq, rfl⟩ := List.mem_map.1 hx
    obtain ⟨d, _, ht, _⟩ := h.back q hq
    have i := span ht (in_late q d)
    simp only at *
    omega
  · obtain ⟨⟨b, d⟩, ho, rfl⟩ := List.mem_map.1 hx
    have ly := h.lies ((o.mem b d).2 ho)
    have := ly.w0
    have := ly.a0
    have := ly.fit
    simp only
    omega
/-- Each word is in a piece. -/
theorem Inv.covers (h : Inv P k O) {outs : List (Int × Int)} (o : Outs O outs) (j : Nat) (hj : j < P * 64) : ∃ x ∈ allP k outs, x.1 ≤ (j : Int) ∧ (j : Int) < x.1 + x.2 := by
  have hP := h.pages
  have one := h.whole.one ((j : Int) / 64) (by omega) (by omega)
  unfold allP
  simp only [List.mem_append]
  by_cases c : hasB k.rl ((j : Int) / 64) = true
  · obtain ⟨r, hr, i⟩ := List.any_eq_true.1 c
    have i := of_decide_eq_true i
    exact ⟨_, .inl (List.mem_map.2 ⟨r, hr, rfl⟩), by show r.1 * 64 ≤ (j : Int); omega, by show (j : Int) < r.1 * 64 + r.2 * 64; omega⟩
  · have s : inS k.sl ((j : Int) / 64) := Classical.byContradiction fun q => c (one.2 q)
    obtain ⟨s, hs, i1, i2⟩ := s
    rcases h.cover s hs with ⟨c0, c4, n8, w⟩ | ⟨c4, c7, n8, w⟩
    · obtain ⟨sa, sn, sc⟩ := s
      obtain ⟨n, rfl⟩ : ∃ n : Nat, sc = (n : Int) := ⟨sc.toNat, by simp only at c0; omega⟩
      simp only at n8 i1 i2 c4
      subst n8
      rcases w with ⟨x, hx, e⟩ | q
      · simp only [Int.toNat_natCast] at hx e
        subst e
        have wp := Prt.w_pos (c := n) (by omega)
        have pw := Prt.w_per (c := n) (by omega)
        have hi : (j - x.page * 64) / Prt.wN n < Prt.perN n := Nat.div_lt_of_lt_mul (by have := Nat.mul_comm (Prt.wN n) (Prt.perN n); omega)
        have dm := Nat.div_add_mod (j - x.page * 64) (Prt.wN n)
        have ml := Nat.mod_lt (j - x.page * 64) wp
        rw [Nat.mul_comm] at dm
        have ha : Prt.stk n x.page ((j - x.page * 64) / Prt.wN n) ∈ Prt.allQ n x.page := List.mem_map.2 ⟨_, List.mem_range.2 hi, rfl⟩
        have lo : (Prt.stk n x.page ((j - x.page * 64) / Prt.wN n) : Int) ≤ (j : Int) ∧ (j : Int) < (Prt.stk n x.page ((j - x.page * 64) / Prt.wN n) : Int) + wordsI (n : Int) := by
          rw [Prt.wordsI_c (by omega)]
          unfold Prt.stk
          omega
        rcases h.stk n (by omega) x hx _ ha with f | f
        · exact ⟨_, .inr (.inl (poolP_mem (by omega) hx f)), lo.1, lo.2⟩
        · exact ⟨_, .inr (.inr (.inr (.inr (List.mem_map.2 ⟨_, (o.mem _ _).1 f, rfl⟩)))), lo.1, lo.2⟩
      · exact ⟨_, .inr (.inr (.inr (.inl (List.mem_map.2 ⟨sa, q, rfl⟩)))), by show sa * 64 ≤ (j : Int); omega, by show (j : Int) < sa * 64 + 512; omega⟩
    · have pl := pages_large c4 c7
      rcases w with w | w
      · exact ⟨_, .inr (.inr (.inl (List.mem_map.2 ⟨_, w, rfl⟩))), by show s.a * 64 ≤ (j : Int); omega, by show (j : Int) < s.a * 64 + wordsI s.c; omega⟩
      · exact ⟨_, .inr (.inr (.inr (.inr (List.mem_map.2 ⟨_, (o.mem _ _).1 w, rfl⟩)))), by show s.a * 64 ≤ (j : Int); omega, by show (j : Int) < s.a * 64 + wordsI s.c; omega⟩
/-- Together they are all words. -/
theorem Inv.sums (h : Inv P k O) {outs : List (Int × Int)} (o : Outs O outs) : sumP (allP k outs) = ((P * 64 : Nat) : Int) := sum_all (h.pieces o) (h.fits o) (h.covers o)
theorem Sv.outs {live : List Lm.S} (h : Sv P k live) : Outs (outOf live) (liveC live) := by
  refine ⟨fun a c => ⟨?_, fun m => ?_⟩, ?_⟩
  · rintro ⟨x, hx, rfl, rfl⟩
    exact List.mem_map.2 ⟨x, hx, rfl⟩
  · obtain ⟨x, hx, e⟩ := List.mem_map.1 m
    injection e with e1 e2
    exact ⟨x, hx, e1, e2⟩
  · unfold liveC
    show List.Pairwise _ _
    rw [List.pairwise_map]
    refine h.val.row.imp_of_mem ?_
    intro x y hx _ e z
    injection z with z
    have := (h.val.each x hx).w0
    unfold Lm.endI at e
    omega
end Go.Proofs.YtjfkmgicbakmgaaGreat.Sto
/- A slice of pieces (an address, a number of words) that reads as a list of pairs (Rs), a piece in a block (Bx), a slice of pieces that the call itself made (Ow). Own work; no program is walked here. -/
namespace Go.Proofs.YtjfkmgicbakmgaaGreat.Pc
open Go.ChangeShapes Go.WideShapes Go.ChangeAt Go.RowKit

/-- An address and a number of words. -/
abbrev R := Int × Int
abbrev run (x : R) : Value := .agg #[.int .i64 x.1, .int .i64 x.2]
/-- A 64-bit integer. -/
def in64 (z : Int) : Prop := -9223372036854775808 ≤ z ∧ z ≤ 9223372036854775807
/-- The slice at A has n runs, those of l. -/
structure Rs (w : World) (A : Option Addr) (n : Nat) (l : List R) : Prop where
  len : l.length = n
  fit : ∀ x ∈ l, in64 x.1 ∧ in64 x.2
  lies : 0 < n → ∃ g o, A = some ⟨g, o, none⟩ ∧ g < w.heap.size ∧ ∀ (i : Nat) (x : R), l[i]? = some x → w.cell? ⟨g, o + i * 2, none⟩ = some (.int .i64 x.1) ∧ w.cell? ⟨g, o + i * 2 + 1, none⟩ = some (.int .i64 x.2)
theorem Rs.kept {D : Nat → Prop} {w w' : World} {A : Option Addr} {n : Nat} {l : List R} (h : Rs w A n l) (k : Kept D w w') (hd : ∀ ad, A = some ad → ¬ D ad.block) : Rs w' A n l :=
  ⟨h.len, h.fit, fun hn => by
    obtain ⟨g, o, rfl, hg, c⟩ := h.lies hn
    have hd' : ¬ D g := hd _ rfl
    exact ⟨g, o, rfl, Nat.lt_of_lt_of_le hg k.size, fun i x hx => ⟨(k.cell (p := ⟨g, o + i * 2, none⟩) hg hd').trans (c i x hx).1, (k.cell (p := ⟨g, o + i * 2 + 1, none⟩) hg hd').trans (c i x hx).2⟩⟩⟩
theorem Rs.old {w w' : World} {A : Option Addr} {n : Nat} {l : List R} (h : Rs w A n l) (k : Kept Old w w') : Rs w' A n l := h.kept k fun _ _ x => x
theorem Rs.nil (w : World) (A : Option Addr) : Rs w A 0 [] := ⟨rfl, fun _ h => (by cases h), fun h => absurd h (Nat.lt_irrefl 0)⟩
theorem Rs.get {w : World} {A : Option Addr} {n : Nat} {l : List R} (h : Rs w A n l) {k : Nat} (hk : k < n) : ∃ (g o : Nat) (x : R), A = some ⟨g, o, none⟩ ∧ g < w.heap.size ∧ l[k]? = some x ∧ in64 x.1 ∧ in64 x.2 ∧ w.cell? ⟨g, o + k * 2, none⟩ = some (.int .i64 x.1) ∧ w.cell? ⟨g, o + k * 2 + 1, none⟩ = some (.int .i64 x.2) := by
  obtain ⟨g, o, rfl, hg, c⟩ := h.lies (by omega)
  have hl : k < l.length := by have := h.len; omega
  have e : l[k]? = some l[k] := List.getElem?_eq_getElem hl
  have f := h.fit _ (List.getElem_mem hl)
  exact ⟨g, o, l[k], rfl, hg, e, f.1, f.2, (c k _ e).1, (c k _ e).2⟩
theorem get_len {w : World} {A : Option Addr} {n : Nat} {l : List R} (h : Rs w A n l) {k : Nat} {x : R} (hx : l[k]? = some x) : k < n := by
  have := (List.getElem?_eq_some_iff.1 hx).1
  have := h.len
  omega

/-! ### A run in a block -/
def Bx (w : World) (b : Nat) (x : R) : Prop := Blk w b 54 [.int .i64 x.1, .int .i64 x.2]
theorem Bx.c0 {w : World} {b : Nat} {x : R} (h : Bx w b x) : w.cell? ⟨b, 0, none⟩ = some (.int .i64 x.1) := Blk.cell h 0
theorem Bx.c1 {w : World} {b : Nat} {x : R} (h : Bx w b x) : w.cell? ⟨b, 1, none⟩ = some (.int .i64 x.2) := Blk.cell h 1
theorem Bx.new (w : World) (x : R) : Bx (w.alloc (.cells #[.int .i64 x.1, .int .i64 x.2] 54)) w.heap.size x := Blk.new w _ _
theorem Bx.old {w w' : World} {b : Nat} {x : R} (h : Bx w b x) (k : Kept Old w w') : Bx w' b x := Blk.kept h k (fun x => x)
theorem Bx.alloc {w : World} {b : Nat} {x : R} (h : Bx w b x) (o : Obj) : Bx (w.alloc o) b x := Blk.alloc h o
theorem Bx.put2 {w : World} {b : Nat} {x : R} (h : Bx w b x) (y z : Int) : Bx ((w.setCell ⟨b, 0, none⟩ (.int .i64 y)).setCell ⟨b, 1, none⟩ (.int .i64 z)) b (y, z) := (Blk.put h 0 (.int .i64 y)).put 1 (.int .i64 z)

/-! ### A slice that the call itself made -/
/-- Runs as cells. -/
def C : List R → List Value
  | [] => []
  | x :: t => .int .i64 x.1 :: .int .i64 x.2 :: C t
theorem C_length (l : List R) : (C l).length = l.length * 2 := by
  induction l with
  | nil => rfl
  | cons x t ih => simp only [C, List.length_cons, ih]; omega
theorem C_append (a b : List R) : C (a ++ b) = C a ++ C b := by
  induction a with
  | nil => rfl
  | cons x t ih => simp only [List.cons_append, C, ih]
theorem C_one (l : List R) : ∀ u ∈ C l, u.oneCell' = true := by
  induction l with
  | nil => intro u hu; cases hu
  | cons x t ih =>
    intro u hu
    simp only [C, List.mem_cons] at hu
    rcases hu with rfl | rfl | hu
    · rfl
    · rfl
    · exact ih u hu
theorem C_get (l : List R) (i : Nat) (x : R) (h : l[i]? = some x) : (C l)[i * 2]? = some (.int .i64 x.1) ∧ (C l)[i * 2 + 1]? = some (.int .i64 x.2) := by
  induction l generalizing i with
  | nil => cases h
  | cons y t ih =>
    cases i with
    | zero => simp only [List.getElem?_cons_zero, Option.some.injEq] at h; subst h; exact ⟨rfl, rfl⟩
    | succ i =>
      have := ih i (by simpa using h)
      rw [show (i + 1) * 2 = i * 2 + 1 + 1 by omega]
      simpa [C] using this
theorem C_at (l : List R) (j : Nat) (u : Value) (h : (C l)[j]? = some u) : ∃ i x, l[i]? = some x ∧ ((j = i * 2 ∧ u = .int .i64 x.1) ∨ (j = i * 2 + 1 ∧ u = .int .i64 x.2)) := by
  have hj : j < (C l).length := (List.getElem?_eq_some_iff.1 h).1
  rw [C_length] at hj
  have hi : j / 2 < l.length := by omega
  have e : l[j / 2]? = some l[j / 2] := List.getElem?_eq_getElem hi
  have g := C_get l (j / 2) _ e
  refine ⟨j / 2, _, e, ?_⟩
  rcases Nat.mod_two_eq_zero_or_one j with m | m
  · left
    have : j = j / 2 * 2 := by omega
    refine ⟨this, ?_⟩
    rw [← this] at g
    rw [g.1] at h
    exact (Option.some.inj h).symm
  · right
    have : j = j / 2 * 2 + 1 := by omega
    refine ⟨this, ?_⟩
    rw [← this] at g
    rw [g.2] at h
    exact (Option.some.inj h).symm
/-- The slice value v is n runs, those of l, in blocks from B on (or nil). -/
structure Ow (w : World) (B : Nat) (v : Value) (n : Nat) (l : List R) : Prop where
  row : w.ownsRow B 54 2 v n (C l)
  fit : ∀ x ∈ l, in64 x.1 ∧ in64 x.2
theorem Ow.len {w : World} {B : Nat} {v : Value} {n : Nat} {l : List R} (h : Ow w B v n l) : l.length = n := by
  have := h.row.1
  rw [C_length] at this
  omega
theorem Ow.rs {w : World} {B : Nat} {v : Value} {n : Nat} {l : List R} (h : Ow w B v n l) : ∃ A c, v = .slice A n c ∧ Rs w A n l ∧ n ≤ c ∧ (A = none → c = 0) := by
  have hlen := h.len
  rcases h.row.2 with ⟨rfl, rfl⟩ | ⟨g, cap, cur, rfl, hb, hg, hn, hm, hs, ht⟩
  · obtain rfl : l = [] := List.eq_nil_of_length_eq_zero hlen
    exact ⟨none, 0, rfl, Rs.nil _ _, Nat.le_refl _, fun _ => rfl⟩
  · refine ⟨_, cap, rfl, ⟨hlen, h.fit, fun _ => ⟨g, 0, rfl, (Array.getElem?_eq_some_iff.1 hg).1, fun i x hx => ?_⟩⟩, hn, fun h => by cases h⟩
    have hi := (List.getElem?_eq_some_iff.1 hx).1
    have gx := C_get l i x hx
    rw [← ht, List.getElem?_take, List.getElem?_take, if_pos (by omega), if_pos (by omega)] at gx
    rw [Nat.zero_add, cell_of_row w g _ cur 54 (0, 0) hg, cell_of_row w g _ cur 54 (0, 0) hg]
    simpa using gx
theorem Ow.kept {D : Nat → Prop} {w w' : World} {B : Nat} {v : Value} {n : Nat} {l : List R} (h : Ow w B v n l) (k : Kept D w w') (hd : ∀ g, B ≤ g → ¬ D g) : Ow w' B v n l := by
  refine ⟨⟨h.row.1, ?_⟩, h.fit⟩
  rcases h.row.2 with hn | ⟨g, cap, cur, rfl, hb, hg, rest⟩
  · exact .inl hn
  · refine .inr ⟨g, cap, cur, rfl, hb, ?_, rest⟩
    rw [k.block g (Array.getElem?_eq_some_iff.1 hg).1 (hd g hb)]
    exact hg
theorem Ow.old {w w' : World} {B : Nat} {v : Value} {n : Nat} {l : List R} (h : Ow w B v n l) (k : Kept Old w w') : Ow w' B v n l := h.kept k (fun _ _ x => x)
theorem Ow.alloc {w : World} {B : Nat} {v : Value} {n : Nat} {l : List R} (h : Ow w B v n l) (o : Obj) : Ow (w.alloc o) B v n l := ⟨h.row.alloc o, h.fit⟩
theorem Ow.nil (w : World) (B : Nat) : Ow w B (.slice none 0 0) 0 [] := ⟨World.ownsRow_nil _ _ _ _, fun _ h => by cases h⟩
theorem Ow.made (w : World) (B cap : Nat) (cur : Array Value) (hb : B ≤ w.heap.size) (hm : cap ≤ maxLen) (hs : cur.size = cap * 2) : Ow (w.alloc (.cells cur 54)) B (.slice (some ⟨w.heap.size, 0, none⟩) 0 cap) 0 [] :=
  ⟨World.ownsRow_made w cur cap hb hm hs, fun _ h => by cases h⟩
theorem Tryz.runInfo : (Tryz.prog.info? 54).map (fun i => (i.zero, i.size, i.bytes)) = some (some (.agg #[.int .i64 0, .int .i64 0]), 2, 16) := by kernel_rfl
theorem Rs.cells {w : World} {ad : Addr} {n : Nat} {l : List R} (h : Rs w (some ad) n l) : ∀ j u, (C l)[j]? = some u → w.cell? (ad.add j) = some u := by
  intro j u hu
  obtain ⟨i, x, hx, hju⟩ := C_at l j u hu
  obtain ⟨g, o, e, _, c⟩ := h.lies (Nat.lt_of_le_of_lt (Nat.zero_le _) (get_len h hx))
  injection e with e
  subst e
  rw [addr_add]
  rcases hju with ⟨rfl, rfl⟩ | ⟨rfl, rfl⟩
  · exact (c i x hx).1
  · exact (c i x hx).2
/-- append of the runs at A. -/
theorem app_own (w : World) (B : Nat) (v : Value) (n : Nat) (l : List R) (h : Ow w B v n l) (A : Option Addr) (m c : Nat) (news : List R) (hr : Rs w A m news) (hA : A = none → m = 0 ∧ c = 0) (hn : n ≤ 3000) (hm : m ≤ 1000) (hb : B ≤ w.heap.size) :
    ∃ v' w', (Builtin.append_ #[42, 42] 42 #[v, .slice A m c]).run Tryz.prog w = .ok v' w' ∧ Ow w' B v' (n + m) (l ++ news) ∧ Kept (fun k => some k = v.ownBlock) w w' ∧ (v'.ownBlock = v.ownBlock ∨ v'.ownBlock = some w.heap.size) := by
  obtain ⟨i0, hi, hz0, hz1, hz2⟩ := info_parts Tryz.runInfo
  cases A with
  | none =>
    obtain ⟨rfl, rfl⟩ := hA rfl
    obtain rfl : news = [] := List.eq_nil_of_length_eq_zero hr.len
    exact ⟨v, w, run_append_owned_none (P := Tryz.prog) (w := w) B 42 42 54 i0 2 Tryz.underlying42 hi v n (C l) h.row, by simpa using h, Kept.refl _ _, .inl rfl⟩
  | some ad =>
    obtain ⟨v', w', hrun, ho, hg, _, hat⟩ := run_append_own_at (P := Tryz.prog) w B 42 42 54 i0 _ 2 16 Tryz.underlying42 hi hz0 hz1 hz2 rfl (by omega) v n (C l) h.row ad m c (C news) (by rw [C_length, hr.len]) hr.cells (C_one news) (by simp only [maxLen]; omega) (by omega) hb
    rw [← C_append] at ho
    exact ⟨v', w', hrun, ⟨ho, fun x hx => (List.mem_append.1 hx).elim (h.fit x) (hr.fit x)⟩, Kept.grown (Kept.refl _ _) hg (fun g e _ => e.symm), hat⟩
theorem Ow.own {w : World} {B : Nat} {v : Value} {n : Nat} {l : List R} (h : Ow w B v n l) : ∀ k, some k = v.ownBlock → B ≤ k ∧ k < w.heap.size := fun k hk => h.row.lt k hk.symm
/-- The run stated at the operation. -/
theorem app_wp {ops : Array Oper} {rest : List Oper} {o : Oper} {a : Act} {Q : Exit → Act → World → Prop} {w : World} (hgd : o.guard = none) (s x : Operand)
    (ho : o.op = .call { callee := .builtin .append, args := #[s, x], argTypes := #[42, 42] }) (hty : o.type = 42)
    (B : Nat) (v : Value) (n : Nat) (l : List R) (hs : a.eval s = v) (h : Ow w B v n l) (A : Option Addr) (m c : Nat) (news : List R) (hx : a.eval x = .slice A m c) (hr : Rs w A m news) (hA : A = none → m = 0 ∧ c = 0) (hn : n ≤ 3000) (hm : m ≤ 1000) (hb : B ≤ w.heap.size) (N : Nat) (hN : n + m = N) (L : List R) (hL : l ++ news = L)
    (go : ∀ v' w', Hid (Ow w' B v' N L) → Hid (Kept (fun k => some k = v.ownBlock) w w') → Hid (v'.ownBlock = v.ownBlock ∨ v'.ownBlock = some w.heap.size) → wpList Tryz.prog ops Q rest (a.put o.dst v') w') : wpList Tryz.prog ops Q (o :: rest) a w := by
  subst hN
  subst hL
  refine wpList_plain hgd fun K hK => ?_
  obtain ⟨v', w', hrun, h2, h3, h4⟩ := app_own w B v n l h A m c news hr hA hn hm hb
  unfold Oper.wp execOp
  simp only [ho, hty, resolve, invoke, builtin, Sem.run_bind, Sem.run_pure, Result.andThen_ok, List.map_toArray, List.map_cons, List.map_nil, hs, hx, hrun]
  exact hK _ _ (go v' w' h2 h3 h4)
theorem app_step {ops : Array Oper} {o : Oper} {a : Act} {K : Act → World → Prop} {Q : Exit → Act → World → Prop} {E : Prop} {w : World} (hgd : o.guard = none) (s x : Operand)
    (ho : o.op = .call { callee := .builtin .append, args := #[s, x], argTypes := #[42, 42] }) (hty : o.type = 42)
    (B : Nat) (v : Value) (n : Nat) (l : List R) (hs : a.eval s = v) (h : Ow w B v n l) (A : Option Addr) (m c : Nat) (news : List R) (hx : a.eval x = .slice A m c) (hr : Rs w A m news) (hA : A = none → m = 0 ∧ c = 0) (hn : n ≤ 3000) (hm : m ≤ 1000) (hb : B ≤ w.heap.size) (N : Nat) (hN : n + m = N) (L : List R) (hL : l ++ news = L)
    (go : ∀ v' w', Hid (Ow w' B v' N L) → Hid (Kept (fun k => some k = v.ownBlock) w w') → Hid (v'.ownBlock = v.ownBlock ∨ v'.ownBlock = some w.heap.size) → K (a.put o.dst v') w') :
    if Region.wanted o (yielded ops a.tmps) = true then Oper.wp Tryz.prog o a w K Q else E := by
  subst hN
  subst hL
  have hw : Region.wanted o (yielded ops a.tmps) = true := by simp [Region.wanted, hgd]
  rw [if_pos hw]
  obtain ⟨v', w', hrun, h2, h3, h4⟩ := app_own w B v n l h A m c news hr hA hn hm hb
  unfold Oper.wp execOp
  simp only [ho, hty, resolve, invoke, builtin, Sem.run_bind, Sem.run_pure, Result.andThen_ok, List.map_toArray, List.map_cons, List.map_nil, hs, hx, hrun]
  exact go v' w' h2 h3 h4
/-! ### Cuts and makes -/
theorem Rs.take {w : World} {A : Option Addr} {n : Nat} {l : List R} (h : Rs w A n l) {i : Nat} (hi : i ≤ n) : Rs w A i (l.take i) :=
  ⟨by have := h.len; simp; omega, fun x hx => h.fit x (List.mem_of_mem_take hx), fun h0 => by
    obtain ⟨g, o, e, hg, c⟩ := h.lies (by omega)
    refine ⟨g, o, e, hg, fun j x hx => c j x ?_⟩
    have := (List.getElem?_eq_some_iff.1 hx).1
    rw [List.length_take] at this
    rw [List.getElem?_take, if_pos (by omega)] at hx
    exact hx⟩
theorem Rs.drop {w : World} {g o n : Nat} {l : List R} (h : Rs w (some ⟨g, o, none⟩) n l) {i : Nat} (A : Option Addr) (hA : i < n → A = some ⟨g, o + i * 2, none⟩) : Rs w A (n - i) (l.drop i) :=
  ⟨by have := h.len; simp; omega, fun x hx => h.fit x (List.mem_of_mem_drop hx), fun h0 => by
    obtain ⟨g', o', e, hg, c⟩ := h.lies (by omega)
    injection e with e
    injection e with e1 e2
    subst e1
    subst e2
    refine ⟨g, o + i * 2, hA (by omega), hg, fun j x hx => ?_⟩
    rw [List.getElem?_drop] at hx
    have := c (i + j) x hx
    rw [show o + i * 2 + j * 2 = o + (i + j) * 2 by omega]
    exact this⟩
theorem make_runs (w : World) (B n : Nat) (hn : n ≤ 3000) (hb : B ≤ w.heap.size) :
    ∃ w', (Instr.makeSlice 42 (.int .i64 0) (.int .i64 (n : Int))).run Tryz.prog w = .ok (.slice (some ⟨w.heap.size, 0, none⟩) 0 n) w' ∧ Ow w' B (.slice (some ⟨w.heap.size, 0, none⟩) 0 n) 0 [] ∧ Kept Old w w' := by
  obtain ⟨i0, hi, hz0, hz1, hz2⟩ := info_parts Tryz.runInfo
  obtain ⟨w', hrun, r1, r2⟩ := run_make_own (P := Tryz.prog) w B 42 54 i0 _ 2 Tryz.underlying42 hi hz0 hz1 .i64 .i64 n (by rw [hz2]; omega) (by simp only [maxLen]; omega) hb
  exact ⟨w', hrun, ⟨r1, fun _ h => by cases h⟩, Kept.grown (Kept.refl _ _) r2 (fun g e _ => by cases e)⟩
theorem Ow.drew {w : World} {B : Nat} {v : Value} {n : Nat} {l : List R} (h : Ow w B v n l) : Ow w.drew B v n l := ⟨h.row, h.fit⟩
theorem Rs.drew {w : World} {A : Option Addr} {n : Nat} {l : List R} (h : Rs w A n l) : Rs w.drew A n l := ⟨h.len, h.fit, h.lies⟩
/-- Behind an append all that was there ahead of the call is as it was. -/
theorem Ow.step {w0 w w' : World} {v : Value} {n : Nat} {l : List R} (h : Ow w w0.heap.size v n l) (K : Kept Old w0 w) (k : Kept (fun k => some k = v.ownBlock) w w') : Kept Old w0 w' :=
  K.join k fun i hi e => by have := (h.own i e).1; omega
theorem Rs.one (w : World) (x : R) (h1 : in64 x.1) (h2 : in64 x.2) (s : Nat) (hs : w.heap.size = s) : Rs (w.alloc (.cells #[.int .i64 x.1, .int .i64 x.2] 54)) (some ⟨s, 0, none⟩) 1 [x] := by
  subst hs
  exact
  ⟨rfl, fun y hy => by obtain rfl := List.mem_singleton.1 hy; exact ⟨h1, h2⟩, fun _ => ⟨w.heap.size, 0, rfl, Blk.lt (Bx.new w x), fun i y hy => by
    have hi := (List.getElem?_eq_some_iff.1 hy).1
    obtain rfl : i = 0 := by simpa using hi
    simp only [List.getElem?_cons_zero, Option.some.injEq] at hy
    subst hy
    exact ⟨(Bx.new w x).c0, (Bx.new w x).c1⟩⟩⟩
theorem Bx.kept2 {w w' : World} {b : Nat} (k : Kept Old w w') (hb : w.heap.size ≤ b) (x y : Value) : Kept Old w ((w'.setCell ⟨b, 0, none⟩ x).setCell ⟨b, 1, none⟩ y) :=
  (k.setCell (p := ⟨b, 0, none⟩) (fun h => absurd h (Nat.not_lt.2 hb)) x).setCell (p := ⟨b, 1, none⟩) (fun h => absurd h (Nat.not_lt.2 hb)) y
/-- What a call that makes a list answers: the list's runs, new memory. -/
def Made1 (L : List R) (w : World) (v : Value) (w' : World) : Prop := ∃ A n c, v = .slice A n c ∧ Rs w' A n L ∧ n ≤ c ∧ ((A = none → c = 0) ∧ ∀ ad, A = some ad → w.heap.size ≤ ad.block) ∧ Kept Old w w'
theorem made_end {L : List R} {w w' : World} {B n : Nat} {v : Value} (h : Ow w' B v n L) (K : Kept Old w w') (hB : w.heap.size ≤ B := by first | exact Nat.le_refl _ | omega) : Made1 L w v w' := by
  have ow := h.own
  obtain ⟨A, c, rfl, r, h1, h2⟩ := h.rs
  refine ⟨A, n, c, rfl, r, h1, ⟨h2, fun ad e => ?_⟩, K⟩
  rcases h.row.2 with ⟨e', _⟩ | ⟨g, cap, cur, e', hb, _⟩
  · injection e' with e1
    rw [e] at e1
    cases e1
  · injection e' with e1
    rw [e] at e1
    injection e1 with e1
    subst e1
    exact Nat.le_trans hB hb
theorem Made1.drew {L : List R} {w w' : World} {v : Value} (h : Made1 L w v w') : Made1 L w v w'.drew := by
  obtain ⟨A, n, c, h1, r, h2, h3, K⟩ := h
  exact ⟨A, n, c, h1, r.drew, h2, h3, K.drew⟩
theorem Made1.drewN {L : List R} {w w' : World} {v : Value} (h : Made1 L w v w') (k : Nat) : Made1 L w v (w'.drewN k) := by
  obtain ⟨A, n, c, h1, r, h2, h3, K⟩ := h
  exact ⟨A, n, c, h1, ⟨r.len, r.fit, r.lies⟩, h2, h3, K.drewN k⟩
end Go.Proofs.YtjfkmgicbakmgaaGreat.Pc
/- Pieces of pages and of stacks; how far the free stacks of the pools have been told; lists of pieces in blocks apart from each other. Own work; each is proved by a walk through the landed text. -/
namespace Go.Proofs.YtjfkmgicbakmgaaGreat.Pc
open Go.ChangeShapes Go.WideShapes Go.ChangeAt Go.RowKit
theorem Ow.fr {D : Nat → Prop} {w w' : World} {B : Nat} {v : Value} {n : Nat} {l : List R} (h : Ow w B v n l) (k : Kept D w w') (hd : ∀ g, some g = v.ownBlock → ¬ D g) : Ow w' B v n l := by
  refine ⟨⟨h.row.1, ?_⟩, h.fit⟩
  rcases h.row.2 with hn | ⟨g, cap, cur, rfl, hb, hg, rest⟩
  · exact .inl hn
  · refine .inr ⟨g, cap, cur, rfl, hb, ?_, rest⟩
    rw [k.block g (Array.getElem?_eq_some_iff.1 hg).1 (hd g rfl)]
    exact hg
end Go.Proofs.YtjfkmgicbakmgaaGreat.Pc
namespace Go.Proofs.YtjfkmgicbakmgaaGreat.Sto
open Go.ChangeShapes Go.WideShapes Go.ChangeAt Go.RowKit
set_option maxRecDepth 100000

theorem pages_piece (a n : Int) (ha : 0 ≤ a ∧ a ≤ 300) (hn : 0 ≤ n ∧ n ≤ 300) (w : World) : Calls Tryz.prog 67 #[.int .i64 a, .int .i64 n] w fun e w' => e = .returned (.agg #[.int .i64 (a * 64), .int .i64 (n * 64)]) ∧ Kept Old w w' := by
  have w1 : IntKind.i64.wrap (a * 64) = a * 64 := IntWalk.i64_in _ (by omega)
  have w2 : IntKind.i64.wrap (n * 64) = n * 64 := IntWalk.i64_in _ (by omega)
  have b := Pc.Bx.new w (a * 64, n * 64)
  have r0 := b.c0
  have r1 := b.c1
  have K := Lib.hid ((Kept.refl Old w).alloc (.cells #[.int .i64 (a * 64), .int .i64 (n * 64)] 54))
  clear b
  go_enter Tryz.func67, Tryz.ntmps67
  go_wp2
  exact bodyPost_ret (v := .agg #[.int .i64 (a * 64), .int .i64 (n * 64)]) (by simp [results, Tryz.results67, go_sem, r0, r1]) rfl ⟨rfl, K.out⟩
theorem stack_piece (a c : Int) (w : World) : Calls Tryz.prog 69 #[.int .i64 a, .int .i64 c] w fun e w' => e = .returned (.agg #[.int .i64 a, .int .i64 (wordsI c)]) ∧ Kept Old w w' := by
  have WC := Lib.hid (fun V => words_any c V)
  go_enter Tryz.func69, Tryz.ntmps69
  go_wp2_with fail
  refine (WC.out _).mono ?_
  rintro e w' ⟨rfl, rfl⟩
  have b := Pc.Bx.new w (a, wordsI c)
  have K := Lib.hid ((Kept.refl Old w).alloc (.cells #[.int .i64 a, .int .i64 (wordsI c)] 54))
  have r0 := b.c0
  have r1 := b.c1
  clear b WC
  go_wp2_with fail
  exact bodyPost_ret (v := .agg #[.int .i64 a, .int .i64 (wordsI c)]) (by simp [results, Tryz.results69, go_sem, r0, r1]) rfl ⟨rfl, K.out⟩
/-- The free stacks of the first n classes. -/
def poolTo (p : Nat → List Prt.Q) : Nat → List Pc
  | 0 => []
  | n + 1 => poolTo p n ++ (if n < 4 then poolC n (p n) else [])
theorem poolTo_8 (p : Nat → List Prt.Q) : poolTo p 8 = poolP p := by
  unfold poolP
  simp [poolTo]
def freeC (p : Nat → List Prt.Q) (c : Nat) : List Nat := if c < 4 then Prt.freeL (p c) else []
theorem poolTo_free (p : Nat → List Prt.Q) (c : Nat) : poolTo p (c + 1) = poolTo p c ++ (freeC p c).map fun (a : Nat) => ((a : Int), wordsI (c : Int)) := by
  show poolTo p c ++ _ = _
  unfold freeC
  by_cases h : c < 4
  · rw [if_pos h, if_pos h]; rfl
  · rw [if_neg h, if_neg h]; rfl
/-- The slice reads as the list. -/
def Reads (W : World) (v : Value) (L : List Pc) : Prop := ∃ A n c, v = .slice A n c ∧ Pc.Rs W A n L ∧ n ≤ c
/-- A list that a call made, in a block from lo on and below hi. -/
structure OwB (W : World) (lo hi : Nat) (v : Value) (n : Nat) (L : List Pc) : Prop where
  ow : Pc.Ow W lo v n L
  hi : ∀ b, some b = v.ownBlock → b < hi
theorem OwB.own {W : World} {lo hi : Nat} {v : Value} {n : Nat} {L : List Pc} (h : OwB W lo hi v n L) : ∀ b, some b = v.ownBlock → lo ≤ b ∧ b < hi := fun b e => ⟨(h.ow.own b e).1, h.hi b e⟩
theorem OwB.fr {D : Nat → Prop} {W W' : World} {lo hi : Nat} {v : Value} {n : Nat} {L : List Pc} (h : OwB W lo hi v n L) (k : Kept D W W') (d : ∀ b, lo ≤ b → b < hi → ¬ D b) : OwB W' lo hi v n L :=
  ⟨h.ow.fr k fun b e => d b (h.own b e).1 (h.own b e).2, h.hi⟩
/-- A list that reads, its block from lo on and below hi. -/
structure RdB (W : World) (lo hi : Nat) (v : Value) (L : List Pc) : Prop where
  rd : Reads W v L
  blk : ∀ b, some b = v.ownBlock → lo ≤ b ∧ b < hi
theorem OwB.rd {W : World} {lo hi : Nat} {v : Value} {n : Nat} {L : List Pc} (h : OwB W lo hi v n L) : RdB W lo hi v L := by
  obtain ⟨A, c, e, r, h1, _⟩ := h.ow.rs
  exact ⟨⟨A, n, c, e, r, h1⟩, h.own⟩
theorem RdB.fr {D : Nat → Prop} {W W' : World} {lo hi : Nat} {v : Value} {L : List Pc} (h : RdB W lo hi v L) (k : Kept D W W') (d : ∀ b, lo ≤ b → b < hi → ¬ D b) : RdB W' lo hi v L := by
  obtain ⟨⟨A, n, c, e, r, h1⟩, b⟩ := h
  refine ⟨⟨A, n, c, e, r.kept k (fun ad ea => ?_), h1⟩, b⟩
  have := b ad.block (by rw [e, ea]; rfl)
  exact d _ this.1 this.2
/-- What Parts tells, list by list. -/
structure PartsOf (k : K) (live : List Lm.S) (l0 l1 l3 l4 l5 : List Pc) : Prop where
  r : l0 = runsP k.rl
  p : SortOf (poolP k.p) l1
  b : SortOf (outP k.big) l3
  t : SortOf (lateP k.back) l4
  v : l5 = liveP live
theorem PartsOf.one {k : K} {live : List Lm.S} {l0 l1 l3 l4 l5 m0 m1 m3 m4 m5 : List Pc} (h : PartsOf k live l0 l1 l3 l4 l5) (g : PartsOf k live m0 m1 m3 m4 m5) : l0 = m0 ∧ l1 = m1 ∧ l3 = m3 ∧ l4 = m4 ∧ l5 = m5 :=
  ⟨h.r.trans g.r.symm, h.p.one g.p, h.b.one g.b, h.t.one g.t, h.v.trans g.v.symm⟩
/-- Seven lists in an api.Parts. -/
def PartsAt (W : World) (e : Value) (l0 l1 l2 l3 l4 l5 l6 : List Pc) : Prop := ∃ v0 v1 v2 v3 v4 v5 v6, e = .agg #[v0, v1, v2, v3, v4, v5, v6] ∧ Reads W v0 l0 ∧ Reads W v1 l1 ∧ Reads W v2 l2 ∧ Reads W v3 l3 ∧ Reads W v4 l4 ∧ Reads W v5 l5 ∧ Reads W v6 l6
theorem Reads.old {W W' : World} {v : Value} {L : List Pc} (h : Reads W v L) (k : Kept Old W W') : Reads W' v L := by
  obtain ⟨A, n, c, e, r, h1⟩ := h
  exact ⟨A, n, c, e, r.old k, h1⟩
theorem Reads.nil (W : World) : Reads W nilS [] := ⟨none, 0, 0, rfl, Pc.Rs.nil _ _, Nat.le_refl _⟩
theorem PartsAt.old {W W' : World} {e : Value} {l0 l1 l2 l3 l4 l5 l6 : List Pc} (h : PartsAt W e l0 l1 l2 l3 l4 l5 l6) (k : Kept Old W W') : PartsAt W' e l0 l1 l2 l3 l4 l5 l6 := by
  obtain ⟨v0, v1, v2, v3, v4, v5, v6, e, r0, r1, r2, r3, r4, r5, r6⟩ := h
  exact ⟨v0, v1, v2, v3, v4, v5, v6, e, r0.old k, r1.old k, r2.old k, r3.old k, r4.old k, r5.old k, r6.old k⟩
def PartsPost (W : World) (k : K) (live : List Lm.S) (e : Ending) (W' : World) : Prop := ∃ v l0 l1 l3 l4 l5, e = .returned v ∧ PartsAt W' v l0 l1 [] l3 l4 l5 [] ∧ PartsOf k live l0 l1 l3 l4 l5 ∧ Kept Old W W'
end Go.Proofs.YtjfkmgicbakmgaaGreat.Sto
