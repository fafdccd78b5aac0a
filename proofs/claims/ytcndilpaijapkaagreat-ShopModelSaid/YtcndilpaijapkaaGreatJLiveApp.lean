/-
  append of live stacks, step by step, in a region that draws its order: onto an empty literal, of one span, of a cut. Own work; no program is walked here.
-/
import Derived.Test.YtcndilpaijapkaaGreatRows
import Derived.StillTailTactics
import Derived.RegionTactic
import Derived.Deep.RegionLaw
import Derived.Test.YtcndilpaijapkaaGreatJDeed
namespace Go.Proofs.YtcndilpaijapkaaGreat.Lm
open Go.ChangeShapes Go.WideShapes Go.ChangeAt Go.RowKit

theorem Blk.emp {w : World} {X Y : Nat} {T : TypeId} {y : S} (h : Blk w X T []) (b : BxS w Y y) : X ≠ Y := by
  rintro rfl
  have h1 := Blk.cell h 0
  have h2 := b.c0
  rw [h1] at h2
  cases h2
theorem OwS.ofEmpty {w : World} {B X : Nat} (hb : B ≤ X) (h : Blk w X 52 []) : OwS w B (.slice (some ⟨X, 0, none⟩) 0 0) 0 [] :=
  ⟨⟨rfl, .inr ⟨X, 0, #[], rfl, hb, h, Nat.le_refl _, Nat.zero_le _, rfl, rfl⟩⟩, fun _ h => by cases h⟩
theorem OwS.stepB {w0 w w' : World} {B : Nat} {v : Value} {n : Nat} {l : List S} (h : OwS w B v n l) (hB : w0.heap.size ≤ B) (K : Kept Old w0 w) (k : Kept (fun k => some k = v.ownBlock) w w') : Kept Old w0 w' :=
  K.join k fun i hi e => by have := (h.own i e).1; omega
theorem OwS.box {w w' : World} {b : Nat} {v : Value} {n : Nat} {l : List S} {x : S} (h : OwS w (b + 1) v n l) (k : Kept (fun k => some k = v.ownBlock) w w') (z : BxS w b x) : BxS w' b x :=
  Blk.kept z k fun e => by have := (h.own b e).1; omega
theorem BxS.drewN {w : World} {b : Nat} {x : S} (h : BxS w b x) (k : Nat) : BxS (w.drewN k) b x := h
theorem RsS.dropTo {w : World} {A : Option Addr} {g o n m : Nat} {l : List S} (h : RsS w (some ⟨g, o, none⟩) n l) (i : Nat) (hm : n - i = m) (hA : i < n → A = some ⟨g, o + i * 3, none⟩) : RsS w A m (l.drop i) := by
  subst hm
  exact h.drop A hA
/-- append onto an empty literal. -/
theorem em_step {ops : Array Oper} {o : Oper} {a : Act} {K : Act → World → Prop} {Q : Exit → Act → World → Prop} {E : Prop} {w W : World} (hgd : o.guard = none) (s x : Operand)
    (ho : o.op = .call { callee := .builtin .append, args := #[s, x], argTypes := #[47, 47] }) (hty : o.type = 47)
    (A : Option Addr) (m c : Nat) (news : List S) (hx : a.eval x = .slice A m c) (HR : RsS W A m news) (hA : A = none → m = 0 ∧ c = 0) (hm : m ≤ 1000)
    (KW : Kept Old W w) (hs : ∃ X, a.eval s = .slice (some ⟨X, 0, none⟩) 0 0 ∧ Blk w X 52 [] ∧ W.heap.size ≤ X)
    (go : ∀ v' w', Hid (OwS w' W.heap.size v' m news) → Hid (Kept Old W w') → Hid (∀ Y y, BxS w Y y → BxS w' Y y) → K (a.put o.dst v') w') :
    if Region.wanted o (yielded ops a.tmps) = true then Oper.wp Tryz.prog o a w K Q else E := by
  obtain ⟨X, hX, bX, hl⟩ := hs
  have O : OwS w W.heap.size (.slice (some ⟨X, 0, none⟩) 0 0) 0 [] := OwS.ofEmpty hl bX
  refine appS_step (w := w) hgd s x ho hty W.heap.size _ 0 [] hX O A m c news hx (HR.old KW) hA (by omega) hm KW.size _ (Nat.zero_add _) _ (List.nil_append _) ?_
  intro v' w' h1 h2 _
  have k := O.step KW h2.out
  refine go v' w' h1 (Lib.hid k) (Lib.hid fun Y y h => ?_)
  exact Blk.kept h h2.out (fun e => Blk.emp bX h (by simpa [Value.ownBlock] using e.symm))
/-- append of one stack. -/
theorem one_step {ops : Array Oper} {o : Oper} {a : Act} {K : Act → World → Prop} {Q : Exit → Act → World → Prop} {E : Prop} {w W : World} (hgd : o.guard = none) (s x : Operand)
    (ho : o.op = .call { callee := .builtin .append, args := #[s, x], argTypes := #[47, 47] }) (hty : o.type = 47)
    (v : Value) (n : Nat) (l : List S) (hs : a.eval s = v) (y : S) (hf : Fit y) (hn : n ≤ 1000) (O : OwS w W.heap.size v n l) (KW : Kept Old W w) (hx : ∃ Y, a.eval x = .slice (some ⟨Y, 0, none⟩) 1 1 ∧ BxS w Y y)
    (go : ∀ v' w', Hid (OwS w' W.heap.size v' (n + 1) (l ++ [y])) → Hid (Kept Old W w') → K (a.put o.dst v') w') :
    if Region.wanted o (yielded ops a.tmps) = true then Oper.wp Tryz.prog o a w K Q else E := by
  obtain ⟨Y, hY, bY⟩ := hx
  have r : RsS w (some ⟨Y, 0, none⟩) 1 [y] := ⟨rfl, fun z hz => by obtain rfl := List.mem_singleton.1 hz; exact hf, fun _ => ⟨Y, 0, rfl, Blk.lt bY, fun j z hz => by
    have hj := (List.getElem?_eq_some_iff.1 hz).1
    obtain rfl : j = 0 := by simpa using hj
    simp only [List.getElem?_cons_zero, Option.some.injEq] at hz
    subst hz
    exact ⟨bY.c0, bY.c1, bY.c2⟩⟩⟩
  refine appS_step (w := w) hgd s x ho hty W.heap.size v n l hs O _ 1 1 [y] hY r (fun h => by cases h) hn (by omega) KW.size _ rfl _ rfl ?_
  intro v' w' h1 h2 _
  exact go v' w' h1 (Lib.hid (O.step KW h2.out))
/-- append of a list that was there. -/
theorem cut_step {ops : Array Oper} {o : Oper} {a : Act} {K : Act → World → Prop} {Q : Exit → Act → World → Prop} {E : Prop} {w W : World} (hgd : o.guard = none) (s x : Operand)
    (ho : o.op = .call { callee := .builtin .append, args := #[s, x], argTypes := #[47, 47] }) (hty : o.type = 47)
    (v : Value) (n : Nat) (l : List S) (hs : a.eval s = v) (A : Option Addr) (m c : Nat) (news : List S) (hx : a.eval x = .slice A m c) (HR : RsS W A m news) (hA : A = none → m = 0 ∧ c = 0) (hn : n ≤ 1000) (hm : m ≤ 1000) (O : OwS w W.heap.size v n l) (KW : Kept Old W w)
    (go : ∀ A' c' w', Hid (OwS w' W.heap.size (.slice A' (n + m) c') (n + m) (l ++ news)) → Hid (Kept Old W w') → K (a.put o.dst (.slice A' (n + m) c')) w') :
    if Region.wanted o (yielded ops a.tmps) = true then Oper.wp Tryz.prog o a w K Q else E := by
  refine appS_step (w := w) hgd s x ho hty W.heap.size v n l hs O A m c news hx (HR.old KW) hA hn hm KW.size _ rfl _ rfl ?_
  intro v' w' h1 h2 _
  obtain ⟨A', c', rfl, _⟩ := h1.out.rs
  exact go A' c' w' h1 (Lib.hid (O.step KW h2.out))
/-- The end of a list, cut off. -/
theorem RsS.tail {w : World} {A : Option Addr} {n : Nat} {l : List S} (h : RsS w A n l) {i : Nat} (A' : Option Addr) (hA : ∀ g o, A = some ⟨g, o, none⟩ → i < n → A' = some ⟨g, o + i * 3, none⟩) : RsS w A' (n - i) (l.drop i) :=
  ⟨by have := h.len; simp; omega, fun x hx => h.fit x (List.mem_of_mem_drop hx), fun h0 => by
    obtain ⟨g, o, e, hg, c⟩ := h.lies (by omega)
    refine ⟨g, o + i * 3, hA g o e (by omega), hg, fun j x hx => ?_⟩
    rw [List.getElem?_drop] at hx
    have := c (i + j) x hx
    rw [show o + i * 3 + j * 3 = o + (i + j) * 3 by omega]
    exact this⟩
/-- What is owned, whole. -/
theorem OwS.at {w : World} {B n c : Nat} {A : Option Addr} {l : List S} (h : OwS w B (.slice A n c) n l) : ((A = none ∧ c = 0) ∨ ∃ g o, A = some ⟨g, o, none⟩) ∧ n ≤ c ∧ RsS w A n l ∧ ∀ ad, A = some ad → B ≤ ad.block ∧ ad.block < w.heap.size := by
  obtain ⟨A', c', e, r, h1, h2⟩ := h.rs
  injection e with e1 e2 e3
  subst e1
  subst e3
  refine ⟨?_, h1, r, fun ad e => by subst e; exact h.own ad.block rfl⟩
  rcases h.row.2 with ⟨e, _⟩ | ⟨g, cap, cur, e, _⟩
  · injection e with e1 e2
    exact .inl ⟨e1, h2 e1⟩
  · injection e with e1 e2
    exact .inr ⟨g, 0, e1⟩
end Go.Proofs.YtcndilpaijapkaaGreat.Lm
