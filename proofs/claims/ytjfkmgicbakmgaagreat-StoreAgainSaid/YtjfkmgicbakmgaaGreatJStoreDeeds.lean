/-
  The calls that a law plays on a store, as a list of deeds: each is accepted by the model; the list beside the store in memory. Own work; no program is walked here.
-/
import Derived.Test.YtjfkmgicbakmgaaGreatRows
import Derived.Test.YtjfkmgicbakmgaaGreatJDeed
import Derived.Test.YtjfkmgicbakmgaaGreatJStorePlay
namespace Go.Proofs.YtjfkmgicbakmgaaGreat.Sto
open Go.ChangeShapes Go.WideShapes Go.ChangeAt Go.RowKit
set_option maxRecDepth 100000
section deeds
variable {w w0 W V : World} {s P : Nat} {k : K} {live : List Lm.S} {F : Nat → Prop} {pl : Pl}
theorem acc_app {Z : Int} {d : Lm.D} : ∀ {ds : List Lm.D} {l l' : List Lm.S}, Lm.accF Z l ds = true → Lm.accM Z l ds = l' → Lm.accK Z l ds = ds.length → Lm.accB Z l' d = true →
    Lm.accF Z l (ds ++ [d]) = true ∧ Lm.accM Z l (ds ++ [d]) = Lm.accL Z l' d ∧ Lm.accK Z l (ds ++ [d]) = (ds ++ [d]).length
  | [], l, l', _, h2, _, h4 => by
    have h2 : l = l' := h2
    subst h2
    show (if Lm.accB Z l d then true else false) = true ∧ (if Lm.accB Z l d then Lm.accL Z l d else l) = _ ∧ (if Lm.accB Z l d then 0 + 1 else 0) = 1
    rw [h4]
    exact ⟨rfl, rfl, rfl⟩
  | e :: t, l, l', h1, h2, h3, h4 => by
    have g1 : (if Lm.accB Z l e then Lm.accF Z (Lm.accL Z l e) t else false) = true := h1
    have g2 : (if Lm.accB Z l e then Lm.accM Z (Lm.accL Z l e) t else l) = l' := h2
    have g3 : (if Lm.accB Z l e then Lm.accK Z (Lm.accL Z l e) t + 1 else 0) = t.length + 1 := h3
    show (if Lm.accB Z l e then Lm.accF Z (Lm.accL Z l e) (t ++ [d]) else false) = true ∧ (if Lm.accB Z l e then Lm.accM Z (Lm.accL Z l e) (t ++ [d]) else l) = _ ∧ (if Lm.accB Z l e then Lm.accK Z (Lm.accL Z l e) (t ++ [d]) + 1 else 0) = (t ++ [d]).length + 1
    cases b : Lm.accB Z l e with
    | false => rw [b] at g1; cases g1
    | true =>
      rw [b, if_pos rfl] at g1 g2 g3
      rw [if_pos rfl, if_pos rfl, if_pos rfl]
      obtain ⟨q1, q2, q3⟩ := acc_app g1 g2 (by omega) h4
      exact ⟨q1, q2, by omega⟩
/-- All deeds are accepted, and lead to l. -/
structure Acc (Z : Int) (ds : List Lm.D) (l : List Lm.S) : Prop where
  f : Lm.accF Z [] ds = true
  m : Lm.accM Z [] ds = l
  k : Lm.accK Z [] ds = ds.length
theorem Acc.nil (Z : Int) : Acc Z [] [] := ⟨rfl, rfl, rfl⟩
theorem Acc.app {Z : Int} {ds : List Lm.D} {l : List Lm.S} (h : Acc Z ds l) {d : Lm.D} (a : Lm.accB Z l d = true) : Acc Z (ds ++ [d]) (Lm.accL Z l d) := by
  obtain ⟨a1, a2, a3⟩ := acc_app h.f h.m h.k a
  exact ⟨a1, a2, a3⟩
theorem addr_bounds (v : Sv P k live) (a b : Nat) (hb : b ≤ 255) : -1 ≤ addrB live a b ∧ addrB live a b ≤ 20000 := by
  unfold addrB
  split
  · rename_i h
    have hq : b % live.length < live.length := Nat.mod_lt _ h.1
    have ly := v.val.each (live[b % live.length]'hq) (List.getElem_mem hq)
    rw [List.getD_eq_getElem?_getD, List.getElem?_eq_getElem hq]
    have h1 := ly.a0
    have h2 := ly.fit
    have h3 := ly.w0
    have h4 := v.val.w1
    simp only [Option.getD_some]
    omega
  · omega
theorem do_fit (v : Sv P k live) (a b : Nat) (hb : b ≤ 255) : Lm.FitD (doR P k live a b).2.2 := by
  have sb := size_bounds b
  have ab := addr_bounds v (a / 8) b hb
  unfold doR
  split
  · unfold allocR
    by_cases c : classB (sizeB b) = true
    · rw [if_pos c]
      by_cases d : (tookR P k (classI (sizeB b))).2.2 = 0
      · rw [if_pos d]
        have r := (v.alloc c d).1
        unfold Lm.roomB Lm.fitB at r
        simp only [Bool.and_eq_true] at r
        have ly := Lm.lies_of r.1.2
        have h1 := ly.a0
        have h2 := ly.fit
        have h3 := ly.w0
        have h4 := v.val.w1
        refine ⟨⟨by simp, by simp⟩, ⟨by simp only; omega, by simp only; omega⟩, ⟨by simp only; omega, by simp only; omega⟩, ⟨by simp, by simp⟩⟩
      · rw [if_neg d]
        refine ⟨⟨by simp, by simp⟩, ⟨by simp only; omega, by simp only; omega⟩, ⟨by simp, by simp⟩, ⟨by simp, by simp⟩⟩
    · rw [if_neg c]
      refine ⟨⟨by simp, by simp⟩, ⟨by simp only; omega, by simp only; omega⟩, ⟨by simp, by simp⟩, ⟨by simp, by simp⟩⟩
  · split
    · exact ⟨⟨by simp, by simp⟩, ⟨by simp, by simp⟩, ⟨by simp, by simp⟩, ⟨by simp, by simp⟩⟩
    · unfold freeR
      split
      · exact ⟨⟨by simp, by simp⟩, ⟨by simp, by simp⟩, ⟨by simp only; omega, by simp only; omega⟩, ⟨by simp, by simp⟩⟩
      · exact ⟨⟨by simp, by simp⟩, ⟨by simp, by simp⟩, ⟨by simp only; omega, by simp only; omega⟩, ⟨by simp, by simp⟩⟩
abbrev Fo (v : Value) (b : Nat) : Prop := some b = v.ownBlock
/-- A store, and the list of what was done, apart from it. -/
structure Pm (w V : World) (s P : Nat) (v : Value) (ds : List Lm.D) (k : K) (live : List Lm.S) (pl : Pl) : Prop where
  st : StM w V s P k live (Fo v) pl
  sv : Sv P k live
  ow : Lm.OwD V w.heap.size v ds.length ds
  acc : Acc ((P : Int) * 64) ds live
theorem Pm.old {Z : World} {v : Value} {ds : List Lm.D} (h : Pm w V s P v ds k live pl) (K : Kept Old V Z) : Pm w Z s P v ds k live (pl.re V.heap.size 97) := ⟨h.st.old K, h.sv, h.ow.old K, h.acc⟩
/-- One call that is no deed, or whose deed is not told yet. -/
theorem Pm.call {V1 : World} {k1 : K} {l1 : List Lm.S} {v : Value} {ds : List Lm.D} (h : Pm w V s P v ds k live pl) (L : Left w V V1 s P k1 l1 (Fo v) pl) : (∃ pl1, StM w V1 s P k1 l1 (Fo v) pl1) ∧ Lm.OwD V1 w.heap.size v ds.length ds := by
  obtain ⟨⟨pl1, m, _⟩, f⟩ := L
  exact ⟨⟨pl1, m⟩, h.ow.kept f (fun g e z => z e.symm)⟩
/-- The deed is appended. -/
theorem app_store {V1 Z : World} {v v9 : Value} (m : StM w V1 s P k live (Fo v) pl) (own : ∀ b, Fo v b → w.heap.size ≤ b) (K : Kept (fun i => some i = v.ownBlock) V1 Z) (n9 : v9.ownBlock = v.ownBlock ∨ v9.ownBlock = some V1.heap.size) (lt : ∀ b, Fo v9 b → b < Z.heap.size) : ∃ pl9, StM w Z s P k live (Fo v9) pl9 :=
  ⟨_, m.only K (fun b e _ => ⟨e, own b e⟩) (fun b e => by
    rcases n9 with z | z
    · exact .inl (e.trans z)
    · have := lt b e
      have e : some b = v9.ownBlock := e
      rw [z] at e
      injection e with e
      exact .inr ⟨by omega, this⟩)⟩
end deeds
end Go.Proofs.YtjfkmgicbakmgaaGreat.Sto
