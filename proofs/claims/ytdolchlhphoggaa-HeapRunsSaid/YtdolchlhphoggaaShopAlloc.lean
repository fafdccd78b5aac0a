/-
  What the document's own HeapAlloc answers, and what it leaves. Own work; each is proved by a walk through the landed text.
-/
import Derived.Test.YtdolchlhphoggaaRows
import Derived.Test.YtdolchlhphoggaaShopSt
import Derived.Test.YtdolchlhphoggaaHeapAlloc
namespace Go.Proofs.Ytdolchlhphoggaa
open Go.ChangeShapes Go.WideShapes Go.ChangeAt Go.RowKit
set_option maxRecDepth 100000

theorem size_set (w : World) (p : Addr) (v : Value) : (w.setCell p v).heap.size = w.heap.size := by simp [World.setCell]
/-- The shop behind a store of new runs. -/
theorem SpAt.setRuns {W W1 : World} {s : Nat} {P : Int} {rl rl' : List R} {sl : List S} {F : Nat → Prop} {A A1 : Option Addr} {n c n1 c1 : Nat} {B : Option Addr} {m d : Nat} {r : List Value} (H : SpAt W s P rl sl F A n c B m d r) (k : Kept Old W W1)
    (R1 : Rs W1 A1 n1 rl') (hc : n1 ≤ c1) (hz : A1 = none → c1 = 0) (new : ∀ ad, A1 = some ad → W.heap.size ≤ ad.block) :
    SpAt (W1.setCell ⟨s, 1, none⟩ (.slice A1 n1 c1)) s P rl' sl (Fw F W W1) A1 n1 c1 B m d r ∧ Kept (Only s) W (W1.setCell ⟨s, 1, none⟩ (.slice A1 n1 c1)) := by
  have hl := H.box.lt
  have ks : Kept (Only s) W1 (W1.setCell ⟨s, 1, none⟩ (.slice A1 n1 c1)) := only_setCell _ _ _ _
  have ne : ∀ b, FR A1 n1 b → W.heap.size ≤ b := fun b ⟨_, ad, e, hb⟩ => by rw [← hb]; exact new ad e
  refine ⟨⟨(H.box.kept k (fun x => x)).put 1 _, R1.fr ks (fun b hb e => ?_), hc, hz, rsS_fr (H.spans.old k) ks (fun b hb e => H.apart b (.inr hb) e), H.scap, H.shape, .inl H.at_s, fun b hb => .inr ⟨ne b hb, R1.ltB hb⟩, fun b hb => .inl (H.at_p b hb), fun b hb => ?_⟩, (Kept.any k).trans ks⟩
  · have := ne b hb
    have : b = s := e
    omega
  · rcases hb with hb | hb
    · have := ne b hb
      omega
    · exact H.apart b (.inr hb)
/-- The shop behind a store of new spans. -/
theorem SpAt.setSpans {W w3 : World} {s : Nat} {P : Int} {rl : List R} {sl sl' : List S} {F : Nat → Prop} {A A3 : Option Addr} {n c N c3 : Nat} {B : Option Addr} {m d : Nat} {r : List Value} (H : SpAt W s P rl sl F A n c B m d r) (k : Kept Old W w3)
    (O : OwS w3 W.heap.size (.slice A3 N c3) N sl') :
    SpAt (w3.setCell ⟨s, 2, none⟩ (.slice A3 N c3)) s P rl sl' (Fw F W w3) A n c A3 N c3 r ∧ Kept (Only s) W (w3.setCell ⟨s, 2, none⟩ (.slice A3 N c3)) := by
  have hl := H.box.lt
  have ks : Kept (Only s) w3 (w3.setCell ⟨s, 2, none⟩ (.slice A3 N c3)) := only_setCell _ _ _ _
  have ow := O.own
  have O' := O.kept ks (fun g hg e => by have := (ow g hg.symm).1; have : g = s := e; omega)
  have bl := O'.blk
  obtain ⟨A', c', e, r', h1, h2⟩ := O'.rs
  injection e with e1 e2 e3
  subst e1
  subst e3
  have nb : ∀ b, FR A3 N b → W.heap.size ≤ b ∧ b < w3.heap.size := fun b ⟨hn, ad, e, hb⟩ => by
    rcases bl with ⟨e', h0⟩ | ⟨g, cc, rr, e', hg, hB, _⟩
    · omega
    · injection e' with e1
      rw [e] at e1
      injection e1 with e1
      subst e1
      rw [← hb]
      exact ⟨hg, by have := Blk.lt hB; rw [size_set] at this; exact this⟩
  have sh : Shape A3 c3 := by
    rcases bl with ⟨e', h0⟩ | ⟨g, cc, rr, e', hg, hB, _⟩
    · injection e' with e1 e2 e3
      exact .inl ⟨e1, e3⟩
    · injection e' with e1
      exact .inr ⟨g, 0, e1⟩
  refine ⟨⟨(H.box.kept k (fun x => x)).put 2 _, (H.runs.old k).fr ks (fun b hb e => H.apart b (.inl hb) e), H.rcap, H.rnil, r', h1, sh, .inl H.at_s, fun b hb => .inl (H.at_r b hb), fun b hb => .inr (nb b hb), fun b hb => ?_⟩, (Kept.any k).trans ks⟩
  rcases hb with hb | hb
  · exact H.apart b (.inl hb)
  · have := nb b hb
    omega
theorem SpAt.grow {W : World} {s : Nat} {P : Int} {rl : List R} {sl : List S} {F G : Nat → Prop} {A : Option Addr} {n c : Nat} {B : Option Addr} {m d : Nat} {r : List Value} (H : SpAt W s P rl sl F A n c B m d r) (h : ∀ b, F b → G b) : Sp W s P rl sl G := Sp.mono ⟨A, n, c, B, m, d, r, H⟩ h
/-- append onto an empty literal. -/
theorem emp_step {ops : Array Oper} {o : Oper} {a : Act} {K : Act → World → Prop} {Q : Exit → Act → World → Prop} {E : Prop} {w W : World} (hgd : o.guard = none) (s x : Operand)
    (ho : o.op = .call { callee := .builtin .append, args := #[s, x], argTypes := #[31, 31] }) (hty : o.type = 31)
    (A : Option Addr) (m c : Nat) (news : List S) (hx : a.eval x = .slice A m c) (HR : RsS W A m news) (hA : A = none → m = 0 ∧ c = 0) (hm : m ≤ 1000)
    (KW : Kept Old W w) (hs : ∃ X, a.eval s = .slice (some ⟨X, 0, none⟩) 0 0 ∧ Blk w X 44 [] ∧ W.heap.size ≤ X)
    (go : ∀ v' w', Hid (OwS w' W.heap.size v' m news) → Hid (Kept Old W w') → Hid (∀ Y y, BxS w Y y → BxS w' Y y) → K (a.put o.dst v') w') :
    if Region.wanted o (yielded ops a.tmps) = true then Oper.wp Try.prog o a w K Q else E := by
  obtain ⟨X, hX, bX, hl⟩ := hs
  have O : OwS w W.heap.size (.slice (some ⟨X, 0, none⟩) 0 0) 0 [] := OwS.ofBlk (r := []) hl (by simpa [CS] using bX) rfl rfl (Nat.le_refl _) (Nat.zero_le _) (fun _ h => by cases h)
  refine appS_step (w := w) hgd s x ho hty W.heap.size _ 0 [] hX O A m c news hx (HR.old KW) hA (by omega) hm KW.size _ (Nat.zero_add _) _ (List.nil_append _) ?_
  intro v' w' h1 h2 _
  refine go v' w' h1 (Lib.hid (O.step KW h2.out)) (Lib.hid fun Y y h => ?_)
  exact h.kept h2.out (fun e => bX.emp h (by simpa [Value.ownBlock] using e.symm))
/-- append of a list that was there; the slice that comes of it. -/
theorem cutE_step {ops : Array Oper} {o : Oper} {a : Act} {K : Act → World → Prop} {Q : Exit → Act → World → Prop} {E : Prop} {w W : World} (hgd : o.guard = none) (s x : Operand)
    (ho : o.op = .call { callee := .builtin .append, args := #[s, x], argTypes := #[31, 31] }) (hty : o.type = 31)
    (v : Value) (n : Nat) (l : List S) (hs : a.eval s = v) (A : Option Addr) (m c : Nat) (news : List S) (hx : a.eval x = .slice A m c) (HR : RsS W A m news) (hA : A = none → m = 0 ∧ c = 0) (hn : n ≤ 1000) (hm : m ≤ 1000) (O : OwS w W.heap.size v n l) (KW : Kept Old W w)
    (go : ∀ A' c' w', Hid (OwS w' W.heap.size (.slice A' (n + m) c') (n + m) (l ++ news)) → Hid (Kept Old W w') → K (a.put o.dst (.slice A' (n + m) c')) w') :
    if Region.wanted o (yielded ops a.tmps) = true then Oper.wp Try.prog o a w K Q else E := by
  refine cut_step (W := W) hgd s x ho hty v n l hs A m c news hx HR hA hn hm O KW ?_
  intro v' w' h1 h2
  obtain ⟨A', c', e, _⟩ := h1.out.rs
  subst e
  exact go A' c' w' h1 h2
theorem SpAt.size {W : World} {s : Nat} {P : Int} {rl : List R} {sl : List S} {F : Nat → Prop} {A : Option Addr} {n c : Nat} {B : Option Addr} {m d : Nat} {r : List Value} (H : SpAt W s P rl sl F A n c B m d r) : s < W.heap.size := H.box.lt
/-- What HeapAlloc answers, and leaves. -/
def SpPost (s : Nat) (P : Int) (F : Nat → Prop) (W : World) (o : AnsA) (e : Ending) (W' : World) : Prop :=
  e = .returned (.tuple #[.int .i64 o.x, .int .i64 o.e]) ∧ Sp W' s P o.rl o.sl (Fw F W W') ∧ Kept (Only s) W W'
theorem shop_full {W : World} {s : Nat} {P : Int} {rl : List R} {sl : List S} {F : Nat → Prop} (n cl : Int) (H : Sp W s P rl sl F) (wh : Whole P rl sl) (hn : 1 ≤ n) (f : fitAt rl n = none) :
    Calls Try.prog 40 #[ptr s, .int .i64 n, .int .i64 cl] W (SpPost s P F W ⟨0, 3, rl, sl⟩) := by
  obtain ⟨A, k, c, B, m, d, r, HA⟩ := H
  have a1 := HA.box.cell 1
  simp only [List.getElem?_cons_succ, List.getElem?_cons_zero] at a1
  have hT := Lib.hid (rtake_full A k c rl n W HA.runs hn (fit_at_none f) (by have := wh.len; have := HA.runs.len; omega))
  have HA := Lib.hid HA
  clear wh f
  go_enter Try.func40, Try.ntmps40
  go_wp2_with fail
  refine hT.out.mono ?_
  rintro e W1 ⟨rfl, k1⟩
  have Q := Lib.hid (⟨(HA.out.old k1).grow (fun b hb => .inl hb), k1.any⟩ : Sp W1 s P rl sl (Fw F W W1) ∧ Kept (Only s) W W1)
  clear k1 HA hT
  go_wp2
  go_ret2
  exact ⟨rfl, Q.out⟩
end Go.Proofs.Ytdolchlhphoggaa
