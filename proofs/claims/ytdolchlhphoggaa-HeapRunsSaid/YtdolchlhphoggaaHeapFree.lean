/-
  What Heap.Free answers, and what it leaves. Own work; each is proved by a walk through the landed text.
-/
import Derived.Test.YtdolchlhphoggaaRows
import Derived.Test.YtdolchlhphoggaaHeapAlloc
namespace Go.Proofs.Ytdolchlhphoggaa
open Go.ChangeShapes Go.WideShapes Go.ChangeAt Go.RowKit
set_option maxRecDepth 100000

theorem freeA_no {rl : List R} {sl : List S} {p : Int} (h : begL sl p = none) : freeA rl sl p = ⟨noS, 2, rl, sl⟩ := by unfold freeA; rw [h]
theorem freeA_yes {rl : List R} {sl : List S} {p : Int} {s : S} (h : begL sl p = some s) : freeA rl sl p = ⟨s, 0, putL rl s.a s.n, delL sl p⟩ := by unfold freeA; rw [h]
/-- What Free answers, and leaves. -/
def FreePost (w0 : World) (h : Nat) (P : Int) (F : Nat → Prop) (W : World) (o : AnsF) (e : Ending) (W' : World) : Prop :=
  e = .returned (.tuple #[spn o.x, .int .i64 o.e]) ∧ Hp w0 W' h P o.rl o.sl F ∧ Kept (Fr F) W W'
theorem beg_ways {sl : List S} {p : Int} (h : begL sl p = none) : ∃ x b, ofX sl p = x ∧ ofB sl p = b ∧ ((b = false ∧ True) ∨ (b = true ∧ (x.a == p) = false)) := by
  rcases beg_none h with e | ⟨y, e, ne⟩
  · exact ⟨_, _, rfl, rfl, .inl ⟨by simp [ofB, e], trivial⟩⟩
  · exact ⟨_, _, rfl, rfl, .inr ⟨by simp [ofB, e], by simp [ofX, e]; exact ne⟩⟩
set_option maxHeartbeats 1000000 in
theorem hp_free_no {w0 W : World} {h : Nat} {P : Int} {rl : List R} {sl : List S} {F : Nat → Prop} (p : Int) (H : Hp w0 W h P rl sl F) (hb : begL sl p = none) :
    Calls Try.prog 19 #[ptr h, .int .i64 p] W (FreePost w0 h P F W (freeA rl sl p)) := by
  rw [freeA_no hb]
  have k0 := Lib.hid ((Kept.refl Old W).alloc (.cells #[.int .i64 0, .int .i64 0, .int .i64 0] 44))
  have B0 := Lib.hid (BxS.new W noS)
  have hO := Lib.hid (hp_of p (H.old k0.out))
  obtain ⟨x, b, e1, e2, ways⟩ := beg_ways hb
  rw [e1, e2] at hO
  have H := Lib.hid H
  clear hb e1 e2
  rcases ways with ⟨rfl, _⟩ | ⟨rfl, ne⟩
  all_goals
    go_enter Try.func19, Try.ntmps19
    go_wp2_with fail
    refine hO.out.mono ?_
    rintro e W1 ⟨rfl, k1⟩
    have K := Lib.hid (k0.out.trans k1)
    have hb := Blk.lt (B0.out.old k1)
    have b0 := (B0.out.old k1).c0
    have b1 := (B0.out.old k1).c1
    have b2 := (B0.out.old k1).c2
    have bf := Blk.frozen (B0.out.old k1)
    obtain ⟨V, hV, _, _, _, KV, BV, _⟩ := (B0.out.old k1).end3 K.out (Nat.le_refl _) noS
    have KV := Lib.hid KV
    have v0 := fun o => (BxS.alloc BV o).c0
    have v1 := fun o => (BxS.alloc BV o).c1
    have v2 := fun o => (BxS.alloc BV o).c2
    generalize W.heap.size = s at *
    clear k0 k1 B0 hO
    go_wp2
    have k9 := KV.out.alloc (.cells #[.int .i64 x.a, .int .i64 x.n, .int .i64 x.c] 44)
    exact bodyPost_ret (v := .tuple #[spn noS, .int .i64 2]) (by simp [results, Try.results19, go_sem, v0, v1, v2]) rfl ⟨rfl, H.out.old k9, k9.any⟩
/-- The blocks that Remove leaves alone: those of the heap's frame, and that of the result. -/
def FS (F : Nat → Prop) (h : Nat) (A : Option Addr) (n s : Nat) (b : Nat) : Prop := FH F h A n b ∨ b = s
/-- The heap behind the store of its runs, and what is so behind Remove and the store of the result. -/
theorem HpAt.free {w0 W W3 : World} {h : Nat} {P : Int} {rl rl' : List R} {sl sl' : List S} {F : Nat → Prop} {q : Nat} {A A1 : Option Addr} {n n1 c c1 s : Nat} (H : HpAt w0 W h P rl sl F q A n c) (k : Kept Old W W3) (hs : W.heap.size = s) (B0 : BxS W3 s noS)
    (R3 : Rs W3 A1 n1 rl') (hc : n1 ≤ c1) (hz : A1 = none → c1 = 0) (new : ∀ ad, A1 = some ad → s < ad.block) (wh : Whole P rl' sl') :
    ∃ W4, W3.setCell ⟨h, 1, none⟩ (.slice A1 n1 c1) = W4 ∧ StS w0 W4 q P sl (FS F h A1 n1 s) ∧ W4.cell? ⟨h, 2, none⟩ = some (ptr q) ∧
      ∀ W5, StS w0 W5 q P sl' (FS F h A1 n1 s) → Kept (Fr (FS F h A1 n1 s)) W4 W5 → BxS W5 s noS ∧ ∀ W6, Kept (Only s) W5 W6 → Hp w0 W6 h P rl' sl' F ∧ Kept (Fr F) W W6 := by
  have hl := H.box.lt
  have h0 := H.tab.kept.size
  have ne : ∀ b, FR A1 n1 b → s < b := fun b ⟨_, ad, e, hb⟩ => by rw [← hb]; exact new ad e
  have kh : Kept (Only h) W3 (W3.setCell ⟨h, 1, none⟩ (.slice A1 n1 c1)) := only_setCell _ _ _ _
  have B3 := (H.box.kept k (fun x => x)).put 1 (.slice A1 n1 c1)
  have T3 : StS w0 W3 q P sl (FS F h A1 n1 s) := H.tab.more k (fun b hb => by
    rcases hb with (hb | hb | hb) | hb
    · exact .inl (.inl hb)
    · exact .inl (.inr (.inl hb))
    · exact .inr ⟨by have := ne b hb; omega, R3.ltB hb⟩
    · exact .inr ⟨by omega, by rw [hb]; exact Blk.lt B0⟩)
  have T4 := T3.only (b := h) (.inl (.inr (.inl rfl))) H.low kh
  have R4 := R3.fr kh (fun b hb e => by have := ne b hb; have : b = h := e; omega)
  have B04 : BxS (W3.setCell ⟨h, 1, none⟩ (.slice A1 n1 c1)) s noS := B0.kept kh (fun e => by have : s = h := e; omega)
  refine ⟨_, rfl, T4, B3.cell 2, fun W5 T5 k5 => ⟨B04.kept k5 (fun e => e (.inr rfl)), fun W6 k6 => ?_⟩⟩
  have B5 := B3.kept k5 (fun e => e (.inl (.inr (.inl rfl))))
  have R5 := R4.fr k5 (fun b hb e => e (.inl (.inr (.inr hb))))
  have B6 := B5.kept k6 (fun e => by have : h = s := e; omega)
  have R6 := R5.fr k6 (fun b hb e => by have := ne b hb; have : b = s := e; omega)
  have T6 := (T5.only (b := s) (.inr rfl) (by omega) k6).less (G := FH F h A1 n1) (fun b hb => .inl hb)
  refine ⟨⟨q, A1, n1, c1, B6, R6, hc, hz, T6, wh, H.low, fun b hb => ⟨(H.far b hb).1, fun z => ?_⟩⟩, ?_⟩
  · have := ne b z
    have := H.tab.lt (b := b) (.inl hb)
    omega
  · have kf : Kept (Fr F) W W3 := k.any
    have kf := kf.join kh (fun i _ e => by have : i = h := e; subst this; exact fun z => (H.far _ z).1 rfl)
    have kf := kf.trans (k5.mono fun i e z => e (.inl (.inl z)))
    exact kf.join k6 (fun i hi e => by have : i = s := e; omega)
set_option maxHeartbeats 2000000 in
theorem hp_free_yes {w0 W : World} {h : Nat} {P : Int} {rl : List R} {sl : List S} {F : Nat → Prop} (p : Int) (x : S) (H : Hp w0 W h P rl sl F) (hb : begL sl p = some x) :
    Calls Try.prog 19 #[ptr h, .int .i64 p] W (FreePost w0 h P F W (freeA rl sl p)) := by
  rw [freeA_yes hb]
  obtain ⟨ok, fr, wh⟩ := H.whole.free hb
  obtain ⟨ho, rfl⟩ := beg_some hb
  have k0 := Lib.hid ((Kept.refl Old W).alloc (.cells #[.int .i64 0, .int .i64 0, .int .i64 0] 44))
  have B0 := Lib.hid (BxS.new W noS)
  have hO := Lib.hid (hp_of x.a (H.old k0.out))
  rw [show ofX sl x.a = x by simp [ofX, ho], show ofB sl x.a = true by simp [ofB, ho]] at hO
  obtain ⟨q, A, n, c, H⟩ := H
  have hn : n ≤ 900 := by have := H.whole.len; have := H.runs.len; omega
  have H := Lib.hid H
  have ok := Lib.hid ok
  have fr := Lib.hid fr
  have wh := Lib.hid wh
  have hb := Lib.hid hb
  clear ho
  go_enter Try.func19, Try.ntmps19
  go_wp2_with fail
  refine hO.out.mono ?_
  rintro e W1 ⟨rfl, k1⟩
  have k2 := (k0.out.trans k1).alloc (.cells #[.int .i64 x.a, .int .i64 x.n, .int .i64 x.c] 44)
  have B2 := Lib.hid ((B0.out.old k1).alloc (.cells #[.int .i64 x.a, .int .i64 x.n, .int .i64 x.c] 44))
  have X2 := Lib.hid (BxS.new W1 x)
  have H2 := Lib.hid (H.out.old k2)
  have hs := Lib.hid (Blk.lt (B0.out.old k1))
  have k2 := Lib.hid k2
  have hlow := Lib.hid (show W.heap.size ≤ W.heap.size from Nat.le_refl _)
  have s0 := Lib.hid (rfl : W.heap.size = W.heap.size)
  clear k0 k1 B0 hO
  have a1 := H2.out.box.cell 1
  simp only [List.getElem?_cons_succ, List.getElem?_cons_zero] at a1
  have x0 := X2.out.c0
  have x1 := X2.out.c1
  have hh : h < W1.heap.size + 1 := by have := H2.out.box.lt; simpa using this
  have ok1 := Lib.hid ok.out.a0
  have ok2 := Lib.hid ok.out.n1
  have ok3 := Lib.hid (show x.a + x.n ≤ 256 by have := ok.out.up; have := H.out.whole.pages; omega)
  go_upto_region 5 with fail
  go_cut [8, 9] from 25 to 37 (fun s t wx => t = .int .i64 0 ∧ ∃ A1 n1 c1, s = .slice A1 n1 c1 ∧ Hid (Rs wx A1 n1 (putL rl x.a x.n)) ∧ Hid (n1 ≤ c1) ∧ Hid (A1 = none → c1 = 0) ∧ Hid (∀ ad, A1 = some ad → W1.heap.size + 1 ≤ ad.block) ∧ Hid (Kept Old (W1.alloc (.cells #[.int .i64 x.a, .int .i64 x.n, .int .i64 x.c] 44)) wx))
  case first =>
    have hw2 : (W1.alloc (.cells #[.int .i64 x.a, .int .i64 x.n, .int .i64 x.c] 44)).heap.size = W1.heap.size + 1 := by simp
    have hw2 := Lib.hid hw2
    generalize W1.alloc (.cells #[.int .i64 x.a, .int .i64 x.n, .int .i64 x.c] 44) = W2 at *
    go_region_with (go_at_call 35; refine (put_ok A n c rl (x.a, x.n) _ (by first | exact H2.out.runs | exact H2.out.runs.drew) H2.out.whole.wide H2.out.cap H2.out.nil hn ok1.out ok2.out ok3.out fr.out).mono ?_; rintro e W3 ⟨v, rfl, A1, n1, c1, rfl, R3, hc3, ⟨z3, new3⟩, k3⟩)
    all_goals
      go_wp2_with fail
      go_meet
      exact ⟨rfl, A1, n1, c1, rfl, Lib.hid (by first | exact R3 | exact R3.drew), Lib.hid hc3, Lib.hid z3, Lib.hid (fun ad e => by rw [← hw2.out]; exact new3 ad e), Lib.hid (by first | exact k3 | exact ((Kept.refl Old W2).drew).trans k3)⟩
  case rest =>
    obtain ⟨rfl, A1, n1, c1, rfl, R3, hc3, z3, new3, k3⟩ := hcut
    obtain ⟨W4, e4, T4, a4, L4⟩ := H.out.free (k2.out.trans k3.out) rfl (B2.out.old k3.out) R3.out hc3.out z3.out (fun ad e => by have := new3.out ad e; have := hs.out; omega) wh.out
    have b1 := ((H2.out.old k3.out).box).cell 1
    simp only [List.getElem?_cons_succ, List.getElem?_cons_zero] at b1
    have bf := ((H2.out.old k3.out).box).frozen
    have T4 := Lib.hid T4
    have L4 := Lib.hid L4
    have hr := Lib.hid (show remX sl x.a = x ∧ remC sl x.a = 0 ∧ remL sl x.a = delL sl x.a from by simp [remX, remC, remL, hb.out])
    clear R3 hc3 z3 new3 k3 k2 B2 X2 H2 a1 x0 x1 hh ok1 ok2 ok3 fr ok wh
    go_wp2_with fail
    refine (st_rem x.a T4.out).mono ?_
    rintro e W5 ⟨rfl, T5, k5⟩
    rw [hr.out.2.2] at T5
    rw [hr.out.1, hr.out.2.1]
    obtain ⟨B5, L5⟩ := L4.out W5 T5 k5
    have b0 := B5.c0
    have b1 := B5.c1
    have b2 := B5.c2
    have bf := Blk.frozen B5
    obtain ⟨V, hV, v0, v1, v2, BV, KV⟩ := B5.put3 x
    have Q := Lib.hid (L5 V KV)
    generalize W.heap.size = s at *
    clear B5 L5 T5 k5 L4 T4 KV
    go_wp2
    exact bodyPost_ret (v := .tuple #[spn x, .int .i64 0]) (by simp [results, Try.results19, go_sem, v0, v1, v2]) rfl ⟨rfl, Q.out⟩
theorem hp_free {w0 W : World} {h : Nat} {P : Int} {rl : List R} {sl : List S} {F : Nat → Prop} (p : Int) (H : Hp w0 W h P rl sl F) :
    Calls Try.prog 19 #[ptr h, .int .i64 p] W (FreePost w0 h P F W (freeA rl sl p)) := by
  cases hb : begL sl p with
  | none => exact hp_free_no p H hb
  | some x => exact hp_free_yes p x H hb
end Go.Proofs.Ytdolchlhphoggaa
