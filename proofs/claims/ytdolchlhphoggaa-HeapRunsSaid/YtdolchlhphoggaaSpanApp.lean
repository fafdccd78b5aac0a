/-
  append, step by step, in a region that draws its order: onto an empty literal, of one span, of a cut. Own work; no program is walked here.
-/
import Derived.Test.YtdolchlhphoggaaRows
import Derived.Test.YtdolchlhphoggaaSpanMem
import Derived.Test.YtdolchlhphoggaaSpanCopy
namespace Go.Proofs.Ytdolchlhphoggaa
open Go.ChangeShapes Go.WideShapes Go.ChangeAt Go.RowKit

theorem Blk.emp {w : World} {X Y : Nat} {T : TypeId} {y : S} (h : Blk w X T []) (b : BxS w Y y) : X ≠ Y := by
  rintro rfl
  have h1 := Blk.cell h 0
  have h2 := b.c0
  rw [h1] at h2
  cases h2
/-- append onto an empty literal. -/
theorem em_step {ops : Array Oper} {o : Oper} {a : Act} {K : Act → World → Prop} {Q : Exit → Act → World → Prop} {E : Prop} {w W : World} (hgd : o.guard = none) (s x : Operand)
    (ho : o.op = .call { callee := .builtin .append, args := #[s, x], argTypes := #[31, 31] }) (hty : o.type = 31)
    (A : Option Addr) (m c : Nat) (news : List S) (hx : a.eval x = .slice A m c) (HR : RsS W A m news) (hA : A = none → m = 0 ∧ c = 0) (hm : m ≤ 1000) (b : Nat) (y : S) (BW : BxS W b y)
    (KW : Kept Old W w) (hs : ∃ X, a.eval s = .slice (some ⟨X, 0, none⟩) 0 0 ∧ Blk w X 44 [] ∧ W.heap.size ≤ X)
    (go : ∀ v' w', Hid (OwS w' W.heap.size v' m news) → Hid (Kept Old W w') → Hid (∀ Y y, BxS w Y y → BxS w' Y y) → w'.cell? ⟨b, 0, none⟩ = some (.int .i64 y.a) → w'.cell? ⟨b, 1, none⟩ = some (.int .i64 y.n) → w'.cell? ⟨b, 2, none⟩ = some (.int .i64 y.c) → K (a.put o.dst v') w') :
    if Region.wanted o (yielded ops a.tmps) = true then Oper.wp Try.prog o a w K Q else E := by
  obtain ⟨X, hX, bX, hl⟩ := hs
  have O : OwS w W.heap.size (.slice (some ⟨X, 0, none⟩) 0 0) 0 [] := OwS.ofBlk (r := []) hl (by simpa [CS] using bX) rfl rfl (Nat.le_refl _) (Nat.zero_le _) (fun _ h => by cases h)
  refine appS_step (w := w) hgd s x ho hty W.heap.size _ 0 [] hX O A m c news hx (HR.old KW) hA (by omega) hm KW.size _ (Nat.zero_add _) _ (List.nil_append _) ?_
  intro v' w' h1 h2 _
  have k := O.step KW h2.out
  have b' := BW.old k
  refine go v' w' h1 (Lib.hid k) (Lib.hid fun Y y h => ?_) b'.c0 b'.c1 b'.c2
  exact h.kept h2.out (fun e => bX.emp h (by simpa [Value.ownBlock] using e.symm))
/-- append of one span. -/
theorem one_step {ops : Array Oper} {o : Oper} {a : Act} {K : Act → World → Prop} {Q : Exit → Act → World → Prop} {E : Prop} {w W : World} (hgd : o.guard = none) (s x : Operand)
    (ho : o.op = .call { callee := .builtin .append, args := #[s, x], argTypes := #[31, 31] }) (hty : o.type = 31)
    (v : Value) (n : Nat) (l : List S) (hs : a.eval s = v) (y : S) (hf : Fit y) (hn : n ≤ 1000) (O : OwS w W.heap.size v n l) (KW : Kept Old W w) (hx : ∃ Y, a.eval x = .slice (some ⟨Y, 0, none⟩) 1 1 ∧ BxS w Y y)
    (go : ∀ v' w', Hid (OwS w' W.heap.size v' (n + 1) (l ++ [y])) → Hid (Kept Old W w') → K (a.put o.dst v') w') :
    if Region.wanted o (yielded ops a.tmps) = true then Oper.wp Try.prog o a w K Q else E := by
  obtain ⟨Y, hY, bY⟩ := hx
  have r : RsS w (some ⟨Y, 0, none⟩) 1 [y] := ⟨rfl, fun z hz => by obtain rfl := List.mem_singleton.1 hz; exact hf, fun _ => ⟨Y, 0, rfl, Blk.lt bY, fun j z hz => by
    have hj := (List.getElem?_eq_some_iff.1 hz).1
    obtain rfl : j = 0 := by simpa using hj
    simp only [List.getElem?_cons_zero, Option.some.injEq] at hz
    subst hz
    exact ⟨bY.c0, bY.c1, bY.c2⟩⟩⟩
  refine appS_step (w := w) hgd s x ho hty W.heap.size v n l hs O _ 1 1 [y] hY r (fun h => by cases h) hn (by omega) KW.size _ rfl _ rfl ?_
  intro v' w' h1 h2 _
  exact go v' w' h1 (Lib.hid (O.step KW h2.out))
/-- append of a list that was there. -/
theorem cut_step {ops : Array Oper} {o : Oper} {a : Act} {K : Act → World → Prop} {Q : Exit → Act → World → Prop} {E : Prop} {w W : World} (hgd : o.guard = none) (s x : Operand)
    (ho : o.op = .call { callee := .builtin .append, args := #[s, x], argTypes := #[31, 31] }) (hty : o.type = 31)
    (v : Value) (n : Nat) (l : List S) (hs : a.eval s = v) (A : Option Addr) (m c : Nat) (news : List S) (hx : a.eval x = .slice A m c) (HR : RsS W A m news) (hA : A = none → m = 0 ∧ c = 0) (hn : n ≤ 1000) (hm : m ≤ 1000) (O : OwS w W.heap.size v n l) (KW : Kept Old W w)
    (go : ∀ v' w', Hid (OwS w' W.heap.size v' (n + m) (l ++ news)) → Hid (Kept Old W w') → K (a.put o.dst v') w') :
    if Region.wanted o (yielded ops a.tmps) = true then Oper.wp Try.prog o a w K Q else E := by
  refine appS_step (w := w) hgd s x ho hty W.heap.size v n l hs O A m c news hx (HR.old KW) hA hn hm KW.size _ rfl _ rfl ?_
  intro v' w' h1 h2 _
  exact go v' w' h1 (Lib.hid (O.step KW h2.out))
/-- The end of a list, cut off. -/
theorem RsS.tail {w : World} {A : Option Addr} {n : Nat} {l : List S} (h : RsS w A n l) {i : Nat} (A' : Option Addr) (hA : ∀ g o, A = some ⟨g, o, none⟩ → i < n → A' = some ⟨g, o + i * 3, none⟩) : RsS w A' (n - i) (l.drop i) :=
  ⟨by have := h.len; simp; omega, fun x hx => h.fit x (List.mem_of_mem_drop hx), fun h0 => by
    obtain ⟨g, o, e, hg, c⟩ := h.lies (by omega)
    refine ⟨g, o + i * 3, hA g o e (by omega), hg, fun j x hx => ?_⟩
    rw [List.getElem?_drop] at hx
    have := c (i + j) x hx
    rw [show o + i * 3 + j * 3 = o + (i + j) * 3 by omega]
    exact this⟩
/-- A slice's address, as slices of the law's own have it. -/
def Shape (A : Option Addr) (c : Nat) : Prop := (A = none ∧ c = 0) ∨ ∃ g o, A = some ⟨g, o, none⟩
/-- What a call that makes a list answers: the list's spans, new memory. -/
def Made (L : List S) (w : World) (v : Value) (w' : World) : Prop := ∃ A n c, v = .slice A n c ∧ RsS w' A n L ∧ n ≤ c ∧ Shape A c ∧ Kept Old w w' ∧ ∀ ad, A = some ad → w.heap.size ≤ ad.block
theorem OwS.madeAt {L : List S} {w w' : World} {B n : Nat} {v : Value} (h : OwS w' B v n L) (K : Kept Old w w') (hB : w.heap.size ≤ B) : Made L w v w' := by
  obtain ⟨A, c, rfl, r, h1, h2⟩ := h.rs
  rcases h.blk with ⟨e, _⟩ | ⟨g, c', _, e, hb, _⟩
  · injection e with e1 e2 e3
    subst e1
    exact ⟨none, n, c, rfl, r, h1, .inl ⟨rfl, h2 rfl⟩, K, fun _ h => by cases h⟩
  · injection e with e1 e2 e3
    subst e1
    exact ⟨_, n, c, rfl, r, h1, .inr ⟨g, 0, rfl⟩, K, fun ad h => by injection h with h; subst h; exact Nat.le_trans hB hb⟩
theorem Made.drew {L : List S} {w w' : World} {v : Value} (h : Made L w v w') : Made L w v w'.drew := by
  obtain ⟨A, n, c, h1, r, h2, h3, K, h4⟩ := h
  exact ⟨A, n, c, h1, r.drew, h2, h3, K.drew, h4⟩
end Go.Proofs.Ytdolchlhphoggaa
