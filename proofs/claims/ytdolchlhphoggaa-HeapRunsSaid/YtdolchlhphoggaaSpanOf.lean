/-
  What Table.Of and Table.Remove answer. Own work; each is proved by a walk through the landed text.
-/
import Derived.Test.YtdolchlhphoggaaRows
import Derived.Test.YtdolchlhphoggaaSpanCalls
namespace Go.Proofs.Ytdolchlhphoggaa
open Go.ChangeShapes Go.WideShapes Go.ChangeAt Go.RowKit
set_option maxRecDepth 100000

abbrev noS : S := ⟨0, 0, 0⟩
theorem BxS.far {w : World} {b : Nat} {x : S} (h : BxS w b x) {p : Addr} (hp : b ≠ p.block) (u : Value) : BxS (w.setCell p u) b x := Blk.far h hp u
theorem kept_set {w w' : World} (k : Kept Old w w') {b i : Nat} (hb : w.heap.size ≤ b) (u : Value) : Kept Old w (w'.setCell ⟨b, i, none⟩ u) := k.setCell (p := ⟨b, i, none⟩) (fun h => absurd h (Nat.not_lt.2 hb)) u
/-- A span stored into a block of the call's own. -/
theorem BxS.end3 {w W : World} {b : Nat} {x : S} (h : BxS W b x) (K : Kept Old w W) (hb : w.heap.size ≤ b) (y : S) :
    ∃ V, ((W.setCell ⟨b, 0, none⟩ (.int .i64 y.a)).setCell ⟨b, 1, none⟩ (.int .i64 y.n)).setCell ⟨b, 2, none⟩ (.int .i64 y.c) = V ∧ V.cell? ⟨b, 0, none⟩ = some (.int .i64 y.a) ∧ V.cell? ⟨b, 1, none⟩ = some (.int .i64 y.n) ∧ V.cell? ⟨b, 2, none⟩ = some (.int .i64 y.c) ∧ Kept Old w V ∧ BxS V b y ∧ Kept (Only b) W V := by
  have z : BxS (((W.setCell ⟨b, 0, none⟩ (.int .i64 y.a)).setCell ⟨b, 1, none⟩ (.int .i64 y.n)).setCell ⟨b, 2, none⟩ (.int .i64 y.c)) b y := ((Blk.put h 0 (.int .i64 y.a)).put 1 (.int .i64 y.n)).put 2 (.int .i64 y.c)
  exact ⟨_, rfl, z.c0, z.c1, z.c2, kept_set (kept_set (kept_set K hb _) hb _) hb _, z, ((only_setCell _ _ _ _).trans (only_setCell _ _ _ _)).trans (only_setCell _ _ _ _)⟩
theorem tof_nil (q : Int) (w : World) : Calls Try.prog 32 #[.pointer none, .int .i64 q] w fun e w' => e = .returned (.tuple #[spn noS, .bool false]) ∧ Kept Old w w' := by
  go_enter Try.func32, Try.ntmps32
  go_wp2
  exact bodyPost_ret (v := .tuple #[spn noS, .bool false]) (by simp [results, Try.results32, go_sem]) rfl ⟨rfl, (Kept.refl _ _).alloc _⟩
set_option maxHeartbeats 1000000 in
theorem tof_yes {B p : Nat} {v : Value} {P : Int} {l : List S} (q : Int) (x : S) (w : World) (h : Tb w B p v P l) (g : Good P l) (hP : 0 ≤ P ∧ P ≤ 256) (hx : ofL l q = some x) :
    Calls Try.prog 32 #[ptr p, .int .i64 q] w fun e w' => e = .returned (.tuple #[spn x, .bool true]) ∧ Kept Old w w' := by
  obtain ⟨hy, h1, h2⟩ := of_some hx
  have HT := Lib.hid h
  have HG := Lib.hid g
  have k0' := (Kept.refl Old w).alloc (.cells #[.int .i64 0, .int .i64 0, .int .i64 0] 44)
  have T0 := Lib.hid (h.old k0')
  have B0 := Lib.hid (BxS.new w noS)
  have k0 := Lib.hid k0'
  have HY := Lib.hid hy
  have hn := Lib.hid (show l.length ≤ 256 from by have := g.len hP.1; omega)
  clear h g hx hy k0'
  go_enter Try.func32, Try.ntmps32
  go_wp2_with fail
  refine (placeS_any q _ T0.out HG.out hP).mono ?_
  rintro e W ⟨rfl, k1⟩
  have K := Lib.hid (k0.out.trans k1)
  have T1 := T0.out.old k1
  have c1 := T1.c1
  obtain ⟨A, c, rfl, r, _, _⟩ := T1.own.rs
  have hlt : placeL l q < l.length := (List.getElem?_eq_some_iff.1 HY.out).1
  obtain ⟨gg, o, y, rfl, hgl, hy, f1, a0, a1, a2⟩ := r.get hlt
  have ey : y = x := by rw [HY.out] at hy; exact (Option.some.inj hy).symm
  subst ey
  have hb := Blk.lt (B0.out.old k1)
  have b0 := (B0.out.old k1).c0
  have b1 := (B0.out.old k1).c1
  have b2 := (B0.out.old k1).c2
  have bf := Blk.frozen (B0.out.old k1)
  have hn' := hn.out
  obtain ⟨V, hV, v0, v1, v2, KV, _⟩ := (B0.out.old k1).end3 K.out (Nat.le_refl _) y
  have KV := Lib.hid KV
  generalize w.heap.size = s at *
  generalize placeL l q = k at *
  generalize l.length = n at *
  have ne : ((k : Int) == (n : Int)) = false := beq_eq_false_iff_ne.2 (by omega)
  have nl : ¬ q < y.a := by omega
  clear T0 k0 k1 T1 r hy f1 B0 hn HY HT
  go_wp2
  exact bodyPost_ret (v := .tuple #[spn y, .bool true]) (by simp [results, Try.results32, go_sem, v0, v1, v2]) rfl ⟨rfl, KV.out⟩
set_option maxHeartbeats 1000000 in
theorem tof_no {B p : Nat} {v : Value} {P : Int} {l : List S} (q : Int) (w : World) (h : Tb w B p v P l) (g : Good P l) (hP : 0 ≤ P ∧ P ≤ 256) (hx : ofL l q = none) :
    Calls Try.prog 32 #[ptr p, .int .i64 q] w fun e w' => e = .returned (.tuple #[spn noS, .bool false]) ∧ Kept Old w w' := by
  have HT := Lib.hid h
  have HG := Lib.hid g
  have k0' := (Kept.refl Old w).alloc (.cells #[.int .i64 0, .int .i64 0, .int .i64 0] 44)
  have T0 := Lib.hid (h.old k0')
  have B0 := Lib.hid (BxS.new w noS)
  have k0 := Lib.hid k0'
  have HX := Lib.hid hx
  have hn := Lib.hid (show l.length ≤ 256 from by have := g.len hP.1; omega)
  clear h g hx k0'
  go_enter Try.func32, Try.ntmps32
  go_wp2_with fail
  refine (placeS_any q _ T0.out HG.out hP).mono ?_
  rintro e W ⟨rfl, k1⟩
  have K := Lib.hid (k0.out.trans k1)
  have T1 := T0.out.old k1
  have c1 := T1.c1
  obtain ⟨A, c, rfl, r, _, _⟩ := T1.own.rs
  have hb := Blk.lt (B0.out.old k1)
  have b0 := (B0.out.old k1).c0
  have b1 := (B0.out.old k1).c1
  have b2 := (B0.out.old k1).c2
  have bf := Blk.frozen (B0.out.old k1)
  have hn' := hn.out
  obtain ⟨V, hV, v0, v1, v2, KV, _⟩ := (B0.out.old k1).end3 K.out (Nat.le_refl _) noS
  have KV := Lib.hid KV
  have hle := place_le l q
  by_cases hlt : placeL l q < l.length
  · obtain ⟨gg, o, y, rfl, hgl, hy, f1, a0, a1, a2⟩ := r.get hlt
    have nl := of_none_at HX.out hy
    generalize w.heap.size = s at *
    generalize placeL l q = k at *
    generalize l.length = n at *
    have ne : ((k : Int) == (n : Int)) = false := beq_eq_false_iff_ne.2 (by omega)
    clear T0 k0 k1 T1 r hy f1 B0 hn HT HX
    go_wp2
    exact bodyPost_ret (v := .tuple #[spn noS, .bool false]) (by simp [results, Try.results32, go_sem, v0, v1, v2]) rfl ⟨rfl, KV.out⟩
  · have e : placeL l q = l.length := by omega
    rw [e]
    generalize w.heap.size = s at *
    generalize l.length = n at *
    clear T0 k0 k1 T1 r B0 hn HT HX e hle hlt
    go_wp2
    exact bodyPost_ret (v := .tuple #[spn noS, .bool false]) (by simp [results, Try.results32, go_sem, v0, v1, v2]) rfl ⟨rfl, KV.out⟩
end Go.Proofs.Ytdolchlhphoggaa
