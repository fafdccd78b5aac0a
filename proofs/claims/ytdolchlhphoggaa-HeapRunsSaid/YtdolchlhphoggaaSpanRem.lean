/-
  What Table.Remove answers. Own work; each is proved by a walk through the landed text.
-/
import Derived.Test.YtdolchlhphoggaaRows
import Derived.Test.YtdolchlhphoggaaSpanCalls
import Derived.Test.YtdolchlhphoggaaSpanOf
namespace Go.Proofs.Ytdolchlhphoggaa
open Go.ChangeShapes Go.WideShapes Go.ChangeAt Go.RowKit
set_option maxRecDepth 100000

/-- The blocks of a table. -/
abbrev Own (p : Nat) (v : Value) (k : Nat) : Prop := k = p ∨ some k = v.ownBlock
theorem BxS.put3 {W : World} {b : Nat} {x : S} (h : BxS W b x) (y : S) :
    ∃ V, ((W.setCell ⟨b, 0, none⟩ (.int .i64 y.a)).setCell ⟨b, 1, none⟩ (.int .i64 y.n)).setCell ⟨b, 2, none⟩ (.int .i64 y.c) = V ∧ V.cell? ⟨b, 0, none⟩ = some (.int .i64 y.a) ∧ V.cell? ⟨b, 1, none⟩ = some (.int .i64 y.n) ∧ V.cell? ⟨b, 2, none⟩ = some (.int .i64 y.c) ∧ BxS V b y ∧ Kept (Only b) W V := by
  have z : BxS (((W.setCell ⟨b, 0, none⟩ (.int .i64 y.a)).setCell ⟨b, 1, none⟩ (.int .i64 y.n)).setCell ⟨b, 2, none⟩ (.int .i64 y.c)) b y := ((Blk.put h 0 (.int .i64 y.a)).put 1 (.int .i64 y.n)).put 2 (.int .i64 y.c)
  exact ⟨_, rfl, z.c0, z.c1, z.c2, z, ((only_setCell _ _ _ _).trans (only_setCell _ _ _ _)).trans (only_setCell _ _ _ _)⟩
/-- The table behind a store of its slice. -/
theorem Tb.store {w : World} {B p : Nat} {v v' : Value} {P : Int} {l l' : List S} (box : Blk w p 85 [.int .i64 P, v]) (O : OwS w B v' l'.length l') (ne : v'.ownBlock ≠ some p) (low : B ≤ p) : ∃ V, w.setCell ⟨p, 1, none⟩ v' = V ∧ Tb V B p v' P l' ∧ Kept (Only p) w V ∧ l = l :=
  ⟨_, rfl, ⟨box.put 1 v', O.kept (only_setCell _ _ _ _) (fun g hg e => ne (by rw [hg, show g = p from e])), low⟩, only_setCell _ _ _ _, rfl⟩
/-- What a call that turns a table answers beside its code. -/
def Chg (B p : Nat) (v : Value) (P : Int) (l' : List S) (w w' : World) : Prop := ∃ v', Tb w' B p v' P l' ∧ Kept (Own p v) w w' ∧ (v'.ownBlock = v.ownBlock ∨ ∃ g, v'.ownBlock = some g ∧ w.heap.size ≤ g)
theorem rem_nil (q : Int) (w : World) : Calls Try.prog 36 #[.pointer none, .int .i64 q] w fun e w' => e = .returned (.tuple #[spn noS, .int .i64 2]) ∧ Kept Old w w' := by
  have k0 := Lib.hid ((Kept.refl Old w).alloc (.cells #[.int .i64 0, .int .i64 0, .int .i64 0] 44))
  have B0 := Lib.hid (BxS.new w noS)
  go_enter Try.func36, Try.ntmps36
  go_wp2_with fail
  refine (tof_nil q _).mono ?_
  rintro e W ⟨rfl, k1⟩
  have K := Lib.hid (k0.out.trans k1)
  have hb := Blk.lt (B0.out.old k1)
  have b0 := (B0.out.old k1).c0
  have b1 := (B0.out.old k1).c1
  have b2 := (B0.out.old k1).c2
  have bf := Blk.frozen (B0.out.old k1)
  obtain ⟨V, hV, _, _, _, KV, BV, _⟩ := (B0.out.old k1).end3 K.out (Nat.le_refl _) noS
  have KV := Lib.hid KV
  have v0 := fun o => (BxS.alloc BV o).c0
  have v1 := fun o => (BxS.alloc BV o).c1
  have v2 := fun o => (BxS.alloc BV o).c2
  generalize w.heap.size = s at *
  clear k0 k1 B0
  go_wp2
  exact bodyPost_ret (v := .tuple #[spn noS, .int .i64 2]) (by simp [results, Try.results36, go_sem, v0, v1, v2]) rfl ⟨rfl, KV.out.alloc _⟩
set_option maxHeartbeats 1000000 in
theorem rem_no {B p : Nat} {v : Value} {P : Int} {l : List S} (q : Int) (w : World) (h : Tb w B p v P l) (g : Good P l) (hP : 0 ≤ P ∧ P ≤ 256) (hx : begL l q = none) :
    Calls Try.prog 36 #[ptr p, .int .i64 q] w fun e w' => e = .returned (.tuple #[spn noS, .int .i64 2]) ∧ Kept Old w w' := by
  have k0 := Lib.hid ((Kept.refl Old w).alloc (.cells #[.int .i64 0, .int .i64 0, .int .i64 0] 44))
  have B0 := Lib.hid (BxS.new w noS)
  have HT := Lib.hid h
  have HG := Lib.hid g
  clear h g
  rcases beg_none hx with hx | ⟨y, hx, hy⟩
  · have HX := Lib.hid hx
    clear hx
    go_enter Try.func36, Try.ntmps36
    go_wp2_with fail
    refine (tof_no q _ (HT.out.old k0.out) HG.out hP HX.out).mono ?_
    rintro e W ⟨rfl, k1⟩
    have K := Lib.hid (k0.out.trans k1)
    have hb := Blk.lt (B0.out.old k1)
    have b0 := (B0.out.old k1).c0
    have b1 := (B0.out.old k1).c1
    have b2 := (B0.out.old k1).c2
    have bf := Blk.frozen (B0.out.old k1)
    obtain ⟨V, hV, _, _, _, KV, BV, _⟩ := (B0.out.old k1).end3 K.out (Nat.le_refl _) noS
    have KV := Lib.hid KV
    have v0 := fun o => (BxS.alloc BV o).c0
    have v1 := fun o => (BxS.alloc BV o).c1
    have v2 := fun o => (BxS.alloc BV o).c2
    generalize w.heap.size = s at *
    clear k0 k1 B0
    go_wp2
    exact bodyPost_ret (v := .tuple #[spn noS, .int .i64 2]) (by simp [results, Try.results36, go_sem, v0, v1, v2]) rfl ⟨rfl, KV.out.alloc _⟩
  · have HX := Lib.hid hx
    clear hx
    go_enter Try.func36, Try.ntmps36
    go_wp2_with fail
    refine (tof_yes q y _ (HT.out.old k0.out) HG.out hP HX.out).mono ?_
    rintro e W ⟨rfl, k1⟩
    have K := Lib.hid (k0.out.trans k1)
    have hb := Blk.lt (B0.out.old k1)
    have b0 := (B0.out.old k1).c0
    have b1 := (B0.out.old k1).c1
    have b2 := (B0.out.old k1).c2
    have bf := Blk.frozen (B0.out.old k1)
    obtain ⟨V, hV, _, _, _, KV, BV, _⟩ := (B0.out.old k1).end3 K.out (Nat.le_refl _) noS
    have KV := Lib.hid KV
    have v0 := fun o => (BxS.alloc BV o).c0
    have v1 := fun o => (BxS.alloc BV o).c1
    have v2 := fun o => (BxS.alloc BV o).c2
    generalize w.heap.size = s at *
    have ny : (y.a == q) = false := beq_eq_false_iff_ne.2 hy
    clear k0 k1 B0
    go_wp2
    exact bodyPost_ret (v := .tuple #[spn noS, .int .i64 2]) (by simp [results, Try.results36, go_sem, v0, v1, v2]) rfl ⟨rfl, KV.out.alloc _⟩
set_option maxHeartbeats 2000000 in
theorem rem_yes {B p : Nat} {v : Value} {P : Int} {l : List S} (q : Int) (x : S) (w : World) (h : Tb w B p v P l) (g : Good P l) (hP : 0 ≤ P ∧ P ≤ 256) (hx : begL l q = some x) :
    Calls Try.prog 36 #[ptr p, .int .i64 q] w fun e w' => e = .returned (.tuple #[spn x, .int .i64 0]) ∧ Chg B p v P (delL l q) w w' := by
  obtain ⟨ho, hq⟩ := beg_some hx
  subst hq
  have k0 := Lib.hid ((Kept.refl Old w).alloc (.cells #[.int .i64 0, .int .i64 0, .int .i64 0] 44))
  have B0 := Lib.hid (BxS.new w noS)
  have HT := Lib.hid h
  have HG := Lib.hid g
  have HX := Lib.hid ho
  have hn := Lib.hid (show l.length ≤ 256 from by have := g.len hP.1; omega)
  have hlt := Lib.hid (show placeL l x.a < l.length from (List.getElem?_eq_some_iff.1 (of_some ho).1).1)
  have hps := Lib.hid h.box.lt
  have hne := Lib.hid h.ne
  have hown := Lib.hid h.own.own
  clear h g hx ho
  go_enter Try.func36, Try.ntmps36
  go_wp2_with fail
  refine (tof_yes x.a x _ (HT.out.old k0.out) HG.out hP HX.out).mono ?_
  rintro e W ⟨rfl, k1⟩
  have K := Lib.hid ((k0.out.trans k1).alloc (.cells #[.int .i64 x.a, .int .i64 x.n, .int .i64 x.c] 44))
  have B1 := Lib.hid ((B0.out.old k1).alloc (.cells #[.int .i64 x.a, .int .i64 x.n, .int .i64 x.c] 44))
  have X1 := Lib.hid (BxS.new W x)
  have hsW := Lib.hid (Blk.lt (B0.out.old k1))
  clear k0 k1 B0
  go_wp2_with fail
  refine (placeS_any x.a _ (HT.out.old K.out) HG.out hP).mono ?_
  rintro e W2 ⟨rfl, k2⟩
  have K := Lib.hid (K.out.trans k2)
  have B2 := Lib.hid (B1.out.old k2)
  have X2 := Lib.hid (X1.out.old k2)
  have T2 := Lib.hid (HT.out.old K.out)
  have c1 := T2.out.c1
  have hlt' := hlt.out
  have hn' := hn.out
  clear B1 X1 k2
  generalize hk : placeL l x.a = k at *
  have hk := Lib.hid hk
  go_wp2_with fail
  refine (del_any B v l.length k l _ T2.out.own hlt' (by omega)).mono ?_
  rintro e W3 ⟨v', rfl, O3, k3, ob⟩
  obtain ⟨A', c', hv2, _⟩ := O3.rs
  have hsp : p < w.heap.size := hps.out
  have hso : v.ownBlock ≠ some w.heap.size := fun e => by have := (hown.out _ e.symm).2; omega
  have hsx : v.ownBlock ≠ some W.heap.size := fun e => by have := (hown.out _ e.symm).2; have := hsW.out; omega
  have hp2 : p < W2.heap.size := T2.out.box.lt
  have hv' : v'.ownBlock ≠ some p := by
    rcases ob with e | e
    · rw [e]; exact hne.out
    · rw [e]; intro z; injection z with z; omega
  have hvs : ∀ g, v'.ownBlock = some g → ¬ Only w.heap.size g := by
    intro g hg e
    have e : g = w.heap.size := e
    subst e
    rcases ob with z | z
    · exact hso (z.symm.trans hg)
    · rw [z] at hg
      injection hg with hg
      have := Blk.lt B2.out
      omega
  have bx := T2.out.box.kept k3 (fun e => hne.out e.symm)
  have B3 := B2.out.kept k3 (fun e => hso e.symm)
  have X3 := X2.out.kept k3 (fun e => hsx e.symm)
  obtain ⟨V, hV, TV, kV, _⟩ := Tb.store (l := l) bx O3 hv' T2.out.low
  have B4 := B3.kept kV (fun e => by have e : w.heap.size = p := e; omega)
  have X4 := X3.kept kV (fun e => by have e : W.heap.size = p := e; have := hsW.out; omega)
  obtain ⟨V2, hV2, v0, v1, v2, _, kV2⟩ := B4.put3 x
  have hob : v'.ownBlock = v.ownBlock ∨ ∃ g, v'.ownBlock = some g ∧ w.heap.size ≤ g := ob.imp id fun e => ⟨_, e, K.out.size⟩
  have E : Chg B p v P (delL l x.a) w V2 := by
    refine ⟨v', ?_, ?_, hob⟩
    · unfold delL
      rw [hk.out]
      exact TV.kept kV2 (fun e => by have e : p = w.heap.size := e; omega) hvs
    · refine K.out.any.join (E := fun i => i = w.heap.size ∨ Own p v i) ?_ (fun i hi e => e.elim (fun e => by omega) id)
      exact ((k3.mono fun i e => .inr (.inr e)).trans (kV.mono fun i e => .inr (.inl e))).trans (kV2.mono fun i e => .inl e)
  have E := Lib.hid E
  have f3 := bx.frozen
  have f4 := Blk.frozen B4
  have p0 := bx.cell 0
  have p1 := bx.cell 1
  have s0 := B4.c0
  have s1 := B4.c1
  have s2 := B4.c2
  have x0 := X4.c0
  have x1 := X4.c1
  have x2 := X4.c2
  simp only [List.getElem?_cons_zero, List.getElem?_cons_succ] at p0 p1
  generalize w.heap.size = s at *
  generalize W.heap.size = s' at *
  obtain ⟨m, hm⟩ : ∃ m, (l.take k ++ l.drop (k + 1)).length = m := ⟨_, rfl⟩
  rw [hm] at hv2
  subst hv2
  clear hm k3 hob hvs hv' B3 X3 B4 X4 TV kV kV2 O3 ob bx K B2 X2 T2 hso hsx hsp hp2 HT HG HX hps hne hown hsW c1 hlt hlt' hn hn' hk
  go_wp2
  exact bodyPost_ret (v := .tuple #[spn x, .int .i64 0]) (by simp [results, Try.results36, go_sem, v0, v1, v2]) rfl ⟨rfl, E.out⟩
end Go.Proofs.Ytdolchlhphoggaa
