/-
  A store's live stacks beside its parts: what an alloc and a free make of them, and that what is so at any time stays so; an alloc is one that a model accepts. Own work; no program is walked here.
-/
import Derived.Test.YtjfkmgicbakmgaaGreatJStoreFns
namespace Go.Proofs.YtjfkmgicbakmgaaGreat.Sto
open Go.RowKit
variable {P : Nat} {k : K} {live : List Lm.S}

def outOf (live : List Lm.S) (a c : Int) : Prop := ∃ x ∈ live, x.a = a ∧ x.n = c
structure Sv (P : Nat) (k : K) (live : List Lm.S) : Prop where
  inv : Inv P k (outOf live)
  val : Lm.Valid ((P : Int) * 64) live
  own : ∀ x ∈ live, x.c = -1
theorem lins_mem {l : List Lm.S} {x y : Lm.S} : y ∈ Lm.insL l x ↔ y = x ∨ y ∈ l := by
  unfold Lm.insL
  rw [List.mem_append, List.mem_cons]
  conv => rhs; rw [← List.take_append_drop (Lm.placeL l x.a) l, List.mem_append]
  constructor
  · rintro (h | h | h)
    · exact .inr (.inl h)
    · exact .inl h
    · exact .inr (.inr h)
  · rintro (h | h | h)
    · exact .inr (.inl h)
    · exact .inl h
    · exact .inr (.inr h)
/-- A class, small or large, of what is asked for. -/
theorem class_ways {n : Int} (h : classB n = true) : (smallB (classI n) = true ∧ ∃ c : Nat, classI n = (c : Int) ∧ c < 4) ∨ (smallB (classI n) = false ∧ 4 ≤ classI n ∧ classI n ≤ 7) := by
  have b := of_decide_eq_true h
  have u := class_up n b.1 b.2
  by_cases c : classI n < 4
  · exact .inl ⟨smallB_in _ u.1 c, (classI n).toNat, by omega, by omega⟩
  · exact .inr ⟨smallB_out _ (by omega), by omega, u.2.1⟩
def tookR (P : Nat) (k : K) (c : Int) : K × Int × Int := if smallB c then takeSR P k c.toNat else takeLR k c
def allocR (P : Nat) (k : K) (live : List Lm.S) (n : Int) : K × List Lm.S × Int × Int :=
  if classB n then (if (tookR P k (classI n)).2.2 = 0 then ((tookR P k (classI n)).1, Lm.insL live (Lm.newS n (tookR P k (classI n)).2.1), (tookR P k (classI n)).2.1, 0) else (k, live, 0, 3))
  else (k, live, 0, 1)
theorem Sv.took (h : Sv P k live) {n : Int} (hn : classB n = true) : Took P k (outOf live) (classI n) (tookR P k (classI n)) := by
  unfold tookR
  rcases class_ways hn with ⟨s, c, e, hc⟩ | ⟨s, c4, c7⟩
  · rw [if_pos s, e, Int.toNat_natCast]
    exact h.inv.tookS hc
  · rw [if_neg (by rw [s]; simp)]
    exact h.inv.tookL c4 c7
/-- What was taken lies apart from all that is live; with it all is as it should be. -/
theorem Sv.alloc (h : Sv P k live) {n : Int} (hn : classB n = true) (h0 : (tookR P k (classI n)).2.2 = 0) :
    Lm.roomB ((P : Int) * 64) live n (tookR P k (classI n)).2.1 = true ∧ Sv P (tookR P k (classI n)).1 (Lm.insL live (Lm.newS n (tookR P k (classI n)).2.1)) := by
  rcases (h.took hn).way with ⟨_, nO, iv⟩ | ⟨e, _⟩
  · generalize (tookR P k (classI n)).2.1 = a at *
    generalize (tookR P k (classI n)).1 = k' at *
    have ly := iv.lies (a := a) (c := classI n) (.inl ⟨rfl, rfl⟩)
    have room : Lm.roomB ((P : Int) * 64) live n a = true := by
      unfold Lm.roomB Lm.fitB
      rw [hn, ly.yes]
      have : Lm.anyB live a (wordsI (classI n)) = false := by
        cases e : Lm.anyB live a (wordsI (classI n)) with
        | false => rfl
        | true =>
          obtain ⟨x, hx, z⟩ := List.any_eq_true.1 e
          have z := of_decide_eq_true z
          have o : outOf live x.a x.n := ⟨x, hx, rfl, rfl⟩
          have ap := iv.apart (a := a) (c := classI n) (b := x.a) (d := x.n) (.inl ⟨rfl, rfl⟩) (.inr o) (fun q => nO (by rw [q.1, q.2]; exact o))
          unfold Lm.endI at z
          omega
      rw [this]
      rfl
    refine ⟨room, ⟨iv.congr fun b d => ?_, h.val.ins room, fun x hx => ?_⟩⟩
    · constructor
      · rintro ⟨x, hx, rfl, rfl⟩
        rcases lins_mem.1 hx with rfl | hx
        · exact .inl ⟨rfl, rfl⟩
        · exact .inr ⟨x, hx, rfl, rfl⟩
      · rintro (⟨rfl, rfl⟩ | ⟨x, hx, rfl, rfl⟩)
        · exact ⟨_, lins_mem.2 (.inl rfl), rfl, rfl⟩
        · exact ⟨x, lins_mem.2 (.inr hx), rfl, rfl⟩
    · rcases lins_mem.1 hx with rfl | hx
      · rfl
      · exact h.own x hx
  · omega
theorem Sv.allocR (h : Sv P k live) (n : Int) : Sv P (allocR P k live n).1 (allocR P k live n).2.1 := by
  unfold Sto.allocR
  by_cases hn : classB n = true
  · rw [if_pos hn]
    by_cases h0 : (tookR P k (classI n)).2.2 = 0
    · rw [if_pos h0]; exact (h.alloc hn h0).2
    · rw [if_neg h0]; exact h
  · rw [if_neg hn]; exact h
/-! ### Free -/
def classAt (live : List Lm.S) (a : Int) : Int := (live.getD (Lm.placeL live a) ⟨0, 0, 0⟩).n
def gaveR (k : K) (a c : Int) : K := if smallB c then giveSR k a c.toNat else giveLR k a c
def freeR (k : K) (live : List Lm.S) (a : Int) : K × List Lm.S × Int := if Lm.hasB live a then (gaveR k a (classAt live a), Lm.delL live a, 0) else (k, live, 2)
theorem Sv.at_ (_ : Sv P k live) {a : Int} (ha : Lm.hasB live a = true) : ∃ x, live[Lm.placeL live a]? = some x ∧ x.a = a ∧ x.n = classAt live a ∧ Lm.placeL live a < live.length ∧ outOf live a (classAt live a) := by
  obtain ⟨x, hx, e, hl⟩ := Lm.has_at ha
  have : classAt live a = x.n := by unfold classAt; rw [List.getD_eq_getElem?_getD, hx]; rfl
  exact ⟨x, hx, e, this.symm, hl, x, List.mem_of_getElem? hx, e, this.symm⟩
theorem Sv.free (h : Sv P k live) {a : Int} (ha : Lm.hasB live a = true) : Sv P (gaveR k a (classAt live a)) (Lm.delL live a) := by
  obtain ⟨x, hx, e, en, hl, o⟩ := h.at_ ha
  have ly := h.inv.lies o
  have c0 := ly.c0
  have c7 := ly.c7
  have iv : Inv P (gaveR k a (classAt live a)) (Minus (outOf live) a (classAt live a)) := by
    unfold gaveR
    generalize classAt live a = c at *
    by_cases c4 : c < 4
    · rw [if_pos (smallB_in c c0 c4)]
      obtain ⟨d, rfl⟩ : ∃ d : Nat, c = (d : Int) := ⟨c.toNat, by omega⟩
      rw [Int.toNat_natCast]
      exact h.inv.gaveS (by omega) o
    · rw [if_neg (by rw [smallB_out c (by omega)]; simp)]
      exact h.inv.gaveL o (by omega)
  refine ⟨iv.congr fun b d => ?_, h.val.del a, fun y hy => h.own y ((Lm.del_sub live a).subset hy)⟩
  unfold Lm.delL
  constructor
  · rintro ⟨y, hy, rfl, rfl⟩
    obtain ⟨j, ne, hj⟩ := mem_cut.1 hy
    refine ⟨⟨y, List.mem_of_getElem? hj, rfl, rfl⟩, fun ⟨z, _⟩ => ?_⟩
    rcases Nat.lt_or_gt_of_ne ne with q | q
    · have := h.val.lt hj hx q; omega
    · have := h.val.lt hx hj q; omega
  · rintro ⟨⟨y, hy, rfl, rfl⟩, n⟩
    obtain ⟨j, hj⟩ := List.getElem?_of_mem hy
    refine ⟨y, mem_cut.2 ⟨j, fun q => ?_, hj⟩, rfl, rfl⟩
    subst q
    rw [hx] at hj
    injection hj with hj
    subst hj
    exact n ⟨e, en⟩
theorem Sv.freeR (h : Sv P k live) (a : Int) : Sv P (freeR k live a).1 (freeR k live a).2.1 := by
  unfold Sto.freeR
  by_cases ha : Lm.hasB live a = true
  · rw [if_pos ha]; exact h.free ha
  · rw [if_neg ha]; exact h
theorem Sv.gc (h : Sv P k live) (on : Bool) : Sv P (gcK k on) live := ⟨h.inv.gc on, h.val, h.own⟩
theorem Sv.new (h1 : 1 ≤ P) (h2 : P ≤ 256) : Sv P ⟨[(0, (P : Int))], [], fun _ => [], [], false, []⟩ [] := by
  refine ⟨⟨Whole.new (by omega) (by omega), fun c hc => Prt.GoodP.nil hc, fun _ _ _ h => (by cases h), fun _ _ _ h => (by cases h), fun _ h => (by cases h), List.nodup_nil, Bg.RightL.nil, fun _ h => (by cases h), fun _ => ⟨rfl, rfl⟩, fun a c o => ?_, fun a c o => ?_, fun _ h => (by cases h), fun _ _ _ h => (by cases h)⟩, Lm.Valid.nil (by omega) (by omega), fun _ h => by cases h⟩
  · obtain ⟨x, hx, _⟩ := o; cases hx
  · obtain ⟨x, hx, _⟩ := o; cases hx
end Go.Proofs.YtjfkmgicbakmgaaGreat.Sto
