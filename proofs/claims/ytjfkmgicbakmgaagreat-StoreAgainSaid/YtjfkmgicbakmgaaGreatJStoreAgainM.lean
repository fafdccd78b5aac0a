/-
  While the phase is on: what is freed is met among the free ones, or those that wait, and, if none of its class lies below it, it is the next one that is taken. Own work; no program is walked here.
-/
import Derived.Test.YtjfkmgicbakmgaaGreatJStoreFullM
namespace Go.Proofs.YtjfkmgicbakmgaaGreat.Sto
open Go.RowKit

def metP (l : List Pc) (a w : Int) : Bool := l.any fun x => decide (x = (a, w))
def belowP (l : List Pc) (a w : Int) : Bool := l.any fun x => decide (x.2 = w ∧ x.1 < a)
theorem metP_perm {l m : List Pc} (p : l.Perm m) (a w : Int) : metP l a w = metP m a w := by
  unfold metP
  rw [Bool.eq_iff_iff, List.any_eq_true, List.any_eq_true]
  constructor
  · rintro ⟨x, hx, h⟩; exact ⟨x, p.mem_iff.1 hx, h⟩
  · rintro ⟨x, hx, h⟩; exact ⟨x, p.mem_iff.2 hx, h⟩
theorem belowP_perm {l m : List Pc} (p : l.Perm m) (a w : Int) : belowP l a w = belowP m a w := by
  unfold belowP
  rw [Bool.eq_iff_iff, List.any_eq_true, List.any_eq_true]
  constructor
  · rintro ⟨x, hx, h⟩; exact ⟨x, p.mem_iff.1 hx, h⟩
  · rintro ⟨x, hx, h⟩; exact ⟨x, p.mem_iff.2 hx, h⟩
theorem class_words {c : Int} (h : 0 ≤ c) (h7 : c ≤ 7) : classI (wordsI c) = c ∧ classB (wordsI c) = true := by
  have a : c = 0 ∨ c = 1 ∨ c = 2 ∨ c = 3 ∨ c = 4 ∨ c = 5 ∨ c = 6 ∨ c = 7 := by omega
  rcases a with rfl | rfl | rfl | rfl | rfl | rfl | rfl | rfl <;> decide
variable {P : Nat} {k : K} {O : Int → Int → Prop}
theorem again_large (h : Inv P k O) (on : k.on = true) {a c : Int} (o : O a c) (c4 : 4 ≤ c) :
    metP (outP (giveLR k a c).big) a (wordsI c) = true ∧ (belowP (outP (giveLR k a c).big) a (wordsI c) = false → Bg.takeC (giveLR k a c).big c = 0 ∧ Bg.takeA (giveLR k a c).big c = a) := by
  obtain ⟨m, n, g⟩ := h.giveBig on o c4
  have hL : (giveLR k a c).big = Bg.insL k.big (a, c) := by
    unfold giveLR
    rw [if_pos on]
    show Bg.putL k.big (a, c) = _
    unfold Bg.putL
    rw [if_pos m, if_neg (by rw [n]; simp)]
  have hm : ((a, c) : Bg.R) ∈ Bg.insL k.big (a, c) := (Bg.ins_mem _ _ _).2 (.inl rfl)
  have iv := h.gaveL o c4
  have rt := iv.right
  rw [hL] at rt ⊢
  refine ⟨List.any_eq_true.2 ⟨(a, wordsI c), List.mem_map.2 ⟨(a, c), hm, rfl⟩, decide_eq_true rfl⟩, fun b => ?_⟩
  rcases Bg.take_ways (Bg.insL k.big (a, c)) c with ⟨none_, _⟩ | ⟨y, hy, ec, _, t, _, ta⟩
  · exact absurd rfl (none_ (a, c) hm)
  · refine ⟨t, ?_⟩
    rw [ta]
    have nb : ¬ y.1 < a := fun q => by
      unfold belowP at b
      rw [List.any_eq_false] at b
      exact b (y.1, wordsI y.2) (List.mem_map.2 ⟨y, List.mem_of_getElem? hy, rfl⟩) (decide_eq_true ⟨by rw [ec], q⟩)
    obtain ⟨j, hj⟩ := List.mem_iff_getElem?.1 hm
    have pw := (Bg.right_pw.1 rt).2
    rcases Nat.lt_trichotomy j (Bg.ixL (Bg.insL k.big (a, c)) c) with q | q | q
    · exact absurd rfl (Bg.ix_lo _ c hj q)
    · rw [q, hy] at hj
      injection hj with hj
      rw [hj]
    · obtain ⟨hi, ei⟩ := List.getElem?_eq_some_iff.1 hy
      obtain ⟨hk, ek⟩ := List.getElem?_eq_some_iff.1 hj
      have z := List.pairwise_iff_getElem.1 pw _ j hi hk q
      rw [ei, ek] at z
      have z := of_decide_eq_true z.1
      simp only at z
      omega
theorem again_small (h : Inv P k O) {a : Int} {c : Nat} (hc : c < 4) (o : O a (c : Int)) (mt : metP (poolP (giveSR k a c).p) a (wordsI (c : Int)) = true) (b : belowP (poolP (giveSR k a c).p) a (wordsI (c : Int)) = false) : Prt.takeC ((giveSR k a c).p c) = 0 ∧ Prt.takeA ((giveSR k a c).p c) = a := by
  obtain ⟨i, x, m, rfl, hx, ha, hn, hb⟩ := h.found hc o
  have hr := Prt.putR_at hb hx ha
  rw [Int.toNat_natCast, if_neg hn] at hr
  have g := h.good c hc
  have iv := h.gaveS hc o
  -- a free stack of the class at that address
  obtain ⟨y, hy, ey⟩ := List.any_eq_true.1 mt
  obtain ⟨d, hd, z, hz, f, hf, rfl⟩ := mem_poolP hy
  have ey := of_decide_eq_true ey
  injection ey with e1 e2
  obtain rfl : f = m := by omega
  obtain rfl : d = c := by have := words_inj (c := (d : Int)) (d := (c : Int)) (by omega) (by omega) (by omega) (by omega) e2; omega
  by_cases dn : x.free.length + 1 = Prt.perN d
  · exfalso
    rw [if_pos dn] at hr
    have hp : (giveSR k (f : Int) d).p d = (k.p d).take i ++ (k.p d).drop (i + 1) := by
      have e : Prt.putL d (k.p d) (f : Int) = (k.p d).take i ++ (k.p d).drop (i + 1) := by unfold Prt.putL; rw [hr]
      unfold giveSR
      split
      · split
        · show (k.pool d _).p d = _; rw [K.pool_at, e]
        · show (k.pool d _).p d = _; rw [K.pool_at, e]
      · rw [K.pool_at, e]
    rw [hp] at hz
    obtain ⟨j, ne, hj⟩ := mem_cut.1 hz
    have ap := g.apart hj hx ne
    have az := Prt.at_range (g.stks z (List.mem_of_getElem? hj) f hf)
    have ax := Prt.at_range ha
    omega
  · rw [if_neg dn] at hr
    have hp : (giveSR k (f : Int) d).p d = (k.p d).set i ⟨x.page, f :: x.free⟩ := by
      have e : Prt.putL d (k.p d) (f : Int) = (k.p d).set i ⟨x.page, f :: x.free⟩ := by unfold Prt.putL; rw [hr]
      unfold giveSR
      split
      · split
        · show (k.pool d _).p d = _; rw [K.pool_at, e]
        · show (k.pool d _).p d = _; rw [K.pool_at, e]
      · rw [K.pool_at, e]
    have hi := (List.getElem?_eq_some_iff.1 hx).1
    have gp := iv.good d hd
    have hset : ((k.p d).set i ⟨x.page, f :: x.free⟩)[i]? = some ⟨x.page, f :: x.free⟩ := by rw [List.getElem?_set_self hi]
    have none_ : ∀ y ∈ ((k.p d).set i ⟨x.page, f :: x.free⟩).take i, y.free = [] := fun y hy => by
      cases e : y.free with
      | nil => rfl
      | cons q t =>
        exfalso
        obtain ⟨j, hj⟩ := List.mem_iff_getElem?.1 hy
        have jl : j < i := by have := (List.getElem?_eq_some_iff.1 hj).1; rw [List.length_take] at this; omega
        rw [List.getElem?_take, if_pos jl] at hj
        rw [hp] at gp
        have lt := gp.two hj hset jl
        simp only at lt
        have hq : q ∈ y.free := by rw [e]; exact List.mem_cons_self
        have aq := Prt.at_range (gp.stks y (List.mem_of_getElem? hj) q hq)
        have ax := Prt.at_range ha
        have my : ((q : Int), wordsI (d : Int)) ∈ poolP (giveSR k (f : Int) d).p := poolP_mem hd (x := y) (by rw [hp]; exact List.mem_of_getElem? hj) hq
        unfold belowP at b
        rw [List.any_eq_false] at b
        exact b _ my (decide_eq_true ⟨rfl, by show (q : Int) < (f : Int); omega⟩)
    have tk := Prt.takeQ_at none_ hset
    rw [hp]
    unfold Prt.takeC Prt.takeA
    rw [tk]
    exact ⟨rfl, rfl⟩
/-- The next one of its class. -/
theorem again_any {live : List Lm.S} (v : Sv P k live) (on : k.on = true) {a c : Int} (o : outOf live a c) (hc : classAt live a = c) :
    (smallB c = false → metP (outP (gaveR k a c).big) a (wordsI c) = true) ∧
    ((smallB c = true → metP (poolP (gaveR k a c).p) a (wordsI c) = true ∧ belowP (poolP (gaveR k a c).p) a (wordsI c) = false) → (smallB c = false → belowP (outP (gaveR k a c).big) a (wordsI c) = false) →
      (tookR P (gaveR k a c) c).2.1 = a ∧ (tookR P (gaveR k a c) c).2.2 = 0) := by
  have ly := v.inv.lies o
  have c0 := ly.c0
  have c7 := ly.c7
  unfold gaveR tookR
  by_cases c4 : c < 4
  · have s := smallB_in c c0 c4
    obtain ⟨n, rfl⟩ : ∃ n : Nat, c = (n : Int) := ⟨c.toNat, by omega⟩
    rw [s, if_pos rfl, Int.toNat_natCast]
    refine ⟨fun q => (by cases q), fun p _ => ?_⟩
    obtain ⟨p1, p2⟩ := p rfl
    obtain ⟨q1, q2⟩ := again_small v.inv (by omega) o p1 p2
    rw [if_pos rfl]
    unfold takeSR
    rw [if_pos q1]
    exact ⟨q2, rfl⟩
  · have s := smallB_out c (by omega)
    rw [s, if_neg (by simp)]
    obtain ⟨q1, q2⟩ := again_large v.inv on o (by omega)
    refine ⟨fun _ => q1, fun _ b => ?_⟩
    obtain ⟨t1, t2⟩ := q2 (b rfl)
    rw [if_neg (by simp)]
    unfold takeLR
    rw [if_pos t1]
    exact ⟨t2, rfl⟩
end Go.Proofs.YtjfkmgicbakmgaaGreat.Sto
