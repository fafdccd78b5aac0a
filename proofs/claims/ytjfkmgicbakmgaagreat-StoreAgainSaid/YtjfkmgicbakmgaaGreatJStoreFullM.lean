/-
  When a store has room for what is asked: just if its pool, or the large ones that wait, have a stack of the class, or a run is long enough; what is told then. Own work; no program is walked here.
-/
import Derived.Test.YtjfkmgicbakmgaaGreatJStoreSameP
namespace Go.Proofs.YtjfkmgicbakmgaaGreat.Sto
open Go.RowKit

theorem words_inj {c d : Int} (c0 : 0 ≤ c) (c7 : c ≤ 7) (d0 : 0 ≤ d) (d7 : d ≤ 7) (h : wordsI c = wordsI d) : c = d := by
  have a : c = 0 ∨ c = 1 ∨ c = 2 ∨ c = 3 ∨ c = 4 ∨ c = 5 ∨ c = 6 ∨ c = 7 := by omega
  have b : d = 0 ∨ d = 1 ∨ d = 2 ∨ d = 3 ∨ d = 4 ∨ d = 5 ∨ d = 6 ∨ d = 7 := by omega
  rcases a with rfl | rfl | rfl | rfl | rfl | rfl | rfl | rfl <;> rcases b with rfl | rfl | rfl | rfl | rfl | rfl | rfl | rfl <;> first | rfl | (exfalso; revert h; decide)
theorem hasP_perm {l m : List Pc} (p : l.Perm m) (n : Int) (b : Bool) : hasP l n b = hasP m n b := by
  unfold hasP
  rw [Bool.eq_iff_iff, List.any_eq_true, List.any_eq_true]
  constructor
  · rintro ⟨x, hx, h⟩; exact ⟨x, p.mem_iff.1 hx, h⟩
  · rintro ⟨x, hx, h⟩; exact ⟨x, p.mem_iff.2 hx, h⟩
theorem has_runs (rl : List R) (n : Int) : hasP (runsP rl) (n * 64) true = fitB rl n := by
  unfold hasP runsP fitB
  rw [List.any_map]
  congr 1
  funext y
  show (decide (y.2 * 64 = n * 64) || (true && decide (n * 64 < y.2 * 64))) = decide (n ≤ y.2)
  rw [Bool.true_and]
  by_cases c : n ≤ y.2
  · rw [decide_eq_true c]
    by_cases d : y.2 * 64 = n * 64
    · rw [decide_eq_true d]; rfl
    · rw [decide_eq_false d, decide_eq_true (by omega)]; rfl
  · rw [decide_eq_false c, decide_eq_false (by omega), decide_eq_false (by omega)]; rfl
theorem alloc_fit {rl : List R} {sl : List S} {n cl : Int} (h : 0 ≤ cl ∧ cl < 8 ∧ 1 ≤ n) : (allocA rl sl n cl).e = 0 ↔ fitB rl n = true := by
  cases f : fitAt rl n with
  | none =>
    rw [allocA_full h f, fit_at_none f]
    simp
  | some ix =>
    obtain ⟨i, x⟩ := ix
    rw [allocA_ok h f]
    have g := fit_at_some f
    have : fitB rl n = true := List.any_eq_true.2 ⟨x, List.mem_of_getElem? g.at_, decide_eq_true g.big⟩
    simp [this]
variable {P : Nat} {k : K} {live : List Lm.S}
theorem has_pool {c : Nat} (hc : c < 4) : hasP (poolP k.p) (wordsI (c : Int)) false = true ↔ Prt.takeC (k.p c) = 0 := by
  constructor
  · intro h
    obtain ⟨y, hy, e⟩ := List.any_eq_true.1 h
    obtain ⟨d, hd, x, hx, a, ha, rfl⟩ := mem_poolP hy
    simp only [Bool.false_and, Bool.or_false, decide_eq_true_eq] at e
    obtain rfl : d = c := by have := words_inj (by omega) (by omega) (by omega) (by omega) e; omega
    unfold Prt.takeC
    rcases Prt.takeQ_ways (k.p d) with ⟨_, none_⟩ | ⟨_, _, _, _, _, _, e⟩
    · rw [none_ x hx] at ha; cases ha
    · rw [e]
  · intro h
    unfold Prt.takeC at h
    rcases Prt.takeQ_ways (k.p c) with ⟨e, _⟩ | ⟨i, pg, a, r, _, hx, _⟩
    · rw [e] at h; simp at h
    · refine List.any_eq_true.2 ⟨_, poolP_mem hc (List.mem_of_getElem? hx) (a := a) (List.mem_cons_self), ?_⟩
      simp
theorem has_big (v : Sv P k live) {c : Int} (c4 : 4 ≤ c) (c7 : c ≤ 7) : hasP (outP k.big) (wordsI c) false = true ↔ Bg.takeC k.big c = 0 := by
  constructor
  · intro h
    obtain ⟨y, hy, e⟩ := List.any_eq_true.1 h
    obtain ⟨b, hb, rfl⟩ := List.mem_map.1 hy
    simp only [Bool.false_and, Bool.or_false, decide_eq_true_eq] at e
    have m := Bg.may_of ((Bg.right_pw.1 v.inv.right).1 b hb)
    have m0 := m.c0
    have m1 := m.c1
    have ec := words_inj (by omega) (by omega) (by omega) (by omega) e
    rcases Bg.take_ways k.big c with ⟨none_, _⟩ | ⟨_, _, _, _, t, _⟩
    · exact absurd ec (none_ b hb)
    · exact t
  · intro h
    rcases Bg.take_ways k.big c with ⟨_, _, t, _⟩ | ⟨x, hx, ec, _⟩
    · omega
    · refine List.any_eq_true.2 ⟨_, List.mem_map.2 ⟨x, List.mem_of_getElem? hx, rfl⟩, ?_⟩
      simp [ec]
/-- There is room just if a run is long enough, or there is a stack of the class. -/
theorem took_small {c : Int} {l0 l1 l3 l4 l5 : List Pc} (po : PartsOf k live l0 l1 l3 l4 l5) (s : smallB c = true) (c0 : 0 ≤ c) (c4 : c < 4) : (tookR P k c).2.2 = 0 ↔ (hasP l0 (pagesI c * 64) true || hasP l1 (wordsI c) false) = true := by
  obtain ⟨n, rfl⟩ : ∃ n : Nat, c = (n : Int) := ⟨c.toNat, by omega⟩
  rw [po.r, has_runs, hasP_perm po.p.perm, pages_small (by omega) (by omega), Bool.or_eq_true, has_pool (by omega)]
  unfold tookR
  rw [if_pos s, Int.toNat_natCast]
  unfold takeSR
  by_cases h : Prt.takeC (k.p n) = 0
  · rw [if_pos h]
    exact ⟨fun _ => .inr h, fun _ => rfl⟩
  · rw [if_neg h]
    have f := alloc_fit (rl := k.rl) (sl := k.sl) (n := 8) (cl := (n : Int)) ⟨by omega, by omega, by omega⟩
    by_cases g : (allocA k.rl k.sl 8 (n : Int)).e = 0
    · rw [if_pos g]
      exact ⟨fun _ => .inl (f.1 g), fun _ => rfl⟩
    · rw [if_neg g]
      exact ⟨fun q => absurd q (show ¬ (3 : Int) = 0 by decide), fun q => q.elim (fun q => absurd (f.2 q) g) (fun q => absurd q h)⟩
theorem took_large (v : Sv P k live) {c : Int} {l0 l1 l3 l4 l5 : List Pc} (po : PartsOf k live l0 l1 l3 l4 l5) (s : smallB c = false) (c4 : 4 ≤ c) (c7 : c ≤ 7) : (tookR P k c).2.2 = 0 ↔ (hasP l0 (pagesI c * 64) true || hasP l3 (wordsI c) false) = true := by
  rw [po.r, has_runs, hasP_perm po.b.perm, Bool.or_eq_true, has_big v c4 c7]
  unfold tookR
  rw [if_neg (by rw [s]; simp)]
  unfold takeLR
  have w := pages_large c4 c7
  by_cases h : Bg.takeC k.big c = 0
  · rw [if_pos h]
    exact ⟨fun _ => .inr h, fun _ => rfl⟩
  · rw [if_neg h]
    have f := alloc_fit (rl := k.rl) (sl := k.sl) (n := pagesI c) (cl := c) ⟨by omega, by omega, by omega⟩
    by_cases g : (allocA k.rl k.sl (pagesI c) c).e = 0
    · rw [if_pos g]
      exact ⟨fun _ => .inl (f.1 g), fun _ => rfl⟩
    · rw [if_neg g]
      exact ⟨fun q => absurd q (show ¬ (3 : Int) = 0 by decide), fun q => q.elim (fun q => absurd (f.2 q) g) (fun q => absurd q h)⟩
theorem alloc_no {P : Nat} {k : K} {live : List Lm.S} {n : Int} (hn : classB n = true) (h : (tookR P k (classI n)).2.2 ≠ 0) : allocR P k live n = (k, live, 0, 3) := by
  unfold allocR
  rw [if_pos hn, if_neg h]
theorem alloc_yes {P : Nat} {k : K} {live : List Lm.S} {n : Int} (hn : classB n = true) (h : (tookR P k (classI n)).2.2 = 0) : allocR P k live n = ((tookR P k (classI n)).1, Lm.insL live (Lm.newS n (tookR P k (classI n)).2.1), (tookR P k (classI n)).2.1, 0) := by
  unfold allocR
  rw [if_pos hn, if_pos h]
theorem ins_len (l : List Lm.S) (x : Lm.S) : (Lm.insL l x).length = l.length + 1 := by
  unfold Lm.insL
  rw [List.length_append, List.length_take, List.length_cons, List.length_drop]
  omega
/-- What is told is a unit's address, apart from all that is live. -/
theorem took_at (v : Sv P k live) {n : Int} (hn : classB n = true) (h : (tookR P k (classI n)).2.2 = 0) : 0 ≤ (tookR P k (classI n)).2.1 ∧ (tookR P k (classI n)).2.1 % 32 = 0 ∧ (tookR P k (classI n)).2.1 ≤ 16384 ∧ ∀ x ∈ live, ¬ (x.a < (tookR P k (classI n)).2.1 + wordsI (classI n) ∧ (tookR P k (classI n)).2.1 < x.a + wordsI x.n) := by
  have r := (v.alloc hn h).1
  unfold Lm.roomB Lm.fitB at r
  simp only [Bool.and_eq_true, Bool.not_eq_true'] at r
  obtain ⟨⟨_, l⟩, a⟩ := r
  have ly := Lm.lies_of l
  have hP := v.inv.pages
  have f := ly.fit
  have w := ly.w0
  refine ⟨ly.a0, ly.a1, by omega, fun x hx q => ?_⟩
  unfold Lm.anyB at a
  rw [List.any_eq_false] at a
  have z := a x hx
  unfold Lm.hitB at z
  simp only [decide_eq_true_eq] at z
  unfold Lm.endI at z
  omega
end Go.Proofs.YtjfkmgicbakmgaaGreat.Sto
