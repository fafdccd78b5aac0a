/-
  A list of live stacks that a call owns whole: what is told of it, stores into it. Own work; no program is walked here.
-/
import Derived.Test.YtmajgfpfbieakaaRows
import Derived.Test.YtmajgfpfbieakaaLiveDel
import Derived.Test.YtmajgfpfbieakaaModelMem
namespace Go.Proofs.Ytmajgfpfbieakaa.Lm
open Go.ChangeShapes Go.WideShapes Go.ChangeAt Go.RowKit

theorem OwS.downS {w : World} {B B' : Nat} {v : Value} {n : Nat} {l : List S} (h : OwS w B v n l) (hB : B' ≤ B) : OwS w B' v n l :=
  ⟨⟨h.row.1, by
    rcases h.row.2 with q | ⟨g, cap, cur, e, hb, rest⟩
    · exact .inl q
    · exact .inr ⟨g, cap, cur, e, Nat.le_trans hB hb, rest⟩⟩, h.fit⟩
/-- The value is a list of the caller's own, made since w. -/
def OwnS (L : List S) (w : World) (v : Value) (w' : World) : Prop := ∃ n, OwS w' w.heap.size v n L
theorem OwnS.put2 {L : List S} {w w1 w' : World} {v : Value} {b : Nat} (h : OwnS L w1 v w') (k : Kept Old w w1) (hb : b < w1.heap.size) (x y : Value) : OwnS L w v ((w'.setCell ⟨b, 0, none⟩ x).setCell ⟨b, 1, none⟩ y) := by
  obtain ⟨n, h⟩ := h
  exact ⟨n, (h.kept (put2_kept w' b x y) (fun g e q => by have := (h.own g e.symm).1; have q : g = b := q; omega)).downS k.size⟩
/-- A model of a list of one's own, and whether it is one. -/
def AllocOwn (W : Int) (L : List S) (B : Bool) (w : World) (e : Ending) (w' : World) : Prop := ∃ v, e = .returned (.tuple #[.agg #[.int .i64 W, v], .bool B]) ∧ MadeS L w v w' ∧ OwnS L w v w'
theorem CS_set : ∀ (l : List S) (k : Nat) (x : S), CS (l.set k x) = (((CS l).set (k * 3) (.int .i64 x.a)).set (k * 3 + 1) (.int .i64 x.n)).set (k * 3 + 2) (.int .i64 x.c) := by
  intro l
  induction l with
  | nil => intro k x; simp [CS]
  | cons y t ih =>
    intro k x
    cases k with
    | zero => rfl
    | succ k =>
      rw [show (k + 1) * 3 = k * 3 + 3 by omega]
      simp only [List.set_cons_succ, CS, ih, show k * 3 + 3 + 1 = k * 3 + 1 + 3 by omega, show k * 3 + 3 + 2 = k * 3 + 2 + 3 by omega]
theorem set_same {l : List Value} {i : Nat} {u : Value} (h : l[i]? = some u) : l.set i u = l := by
  obtain ⟨q1, q2⟩ := List.getElem?_eq_some_iff.1 h
  rw [← q2]
  exact List.set_getElem_self q1
/-- The third number of the k-th one is written. -/
theorem OwS.putc {w : World} {B g n c : Nat} {l : List S} (h : OwS w B (.slice (some ⟨g, 0, none⟩) n c) n l) {k : Nat} {x : S} (hx : l[k]? = some x) (z : Int) (hz : in64S z) :
    OwS (w.setCell ⟨g, k * 3 + 2, none⟩ (.int .i64 z)) B (.slice (some ⟨g, 0, none⟩) n c) n (l.set k ⟨x.a, x.n, z⟩) := by
  rcases h.blk with ⟨e, _⟩ | ⟨g', c', r, e, hb, b, hr, hn, hm⟩
  · cases e
  · injection e with e1 e2 e3
    injection e1 with e1
    injection e1 with e1
    subst e1
    subst e3
    have hl := h.len
    have hk := (List.getElem?_eq_some_iff.1 hx).1
    have b2 := b.put (k * 3 + 2) (.int .i64 z)
    have g0 := (CS_get l k x hx).1
    have g1 := (CS_get l k x hx).2.1
    have ll := CS_length l
    have e : (CS l ++ r).set (k * 3 + 2) (.int .i64 z) = CS (l.set k ⟨x.a, x.n, z⟩) ++ r := by
      rw [CS_set]
      simp only [set_same g0, set_same g1]
      rw [List.set_append_left _ _ (by omega)]
    rw [e] at b2
    refine OwS.ofBlk hb b2 (by rw [List.length_set]; exact hl) hr hn hm (fun s hs => ?_)
    obtain ⟨i, hi⟩ := List.getElem?_of_mem hs
    rw [List.getElem?_set] at hi
    by_cases e1 : k = i
    · rw [if_pos e1, if_pos hk] at hi
      injection hi with hi
      subst hi
      exact ⟨(h.fit x (List.mem_of_getElem? hx)).1, (h.fit x (List.mem_of_getElem? hx)).2.1, hz⟩
    · rw [if_neg e1] at hi
      exact h.fit s (List.mem_of_getElem? hi)
theorem OwS.free {w : World} {B g n c : Nat} {l : List S} (h : OwS w B (.slice (some ⟨g, 0, none⟩) n c) n l) (i : Nat) : w.frozen? ⟨g, i, none⟩ = false := by
  rcases h.blk with ⟨e, _⟩ | ⟨g', c', r, e, hb, b, hr, hn, hm⟩
  · cases e
  · injection e with e1 e2 e3
    injection e1 with e1
    injection e1 with e1
    subst e1
    exact Blk.frozen b i
end Go.Proofs.Ytmajgfpfbieakaa.Lm
