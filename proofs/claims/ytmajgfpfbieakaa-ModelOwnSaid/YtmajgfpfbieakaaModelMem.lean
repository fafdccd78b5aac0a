/-
  A model (a struct of a number and a slice of live stacks) in a block, as an argument, as a result. Own work; no program is walked here.
-/
import Derived.Test.YtmajgfpfbieakaaRows
import Derived.Test.YtmajgfpfbieakaaLiveMem
import Derived.Test.YtmajgfpfbieakaaDeedMem
namespace Go.Proofs.Ytmajgfpfbieakaa.Lm
open Go.ChangeShapes Go.WideShapes Go.ChangeAt Go.RowKit Go.Deep

abbrev md (W : Int) (A : Option Addr) (n c : Nat) : Value := .agg #[.int .i64 W, .slice A n c]
/-- Block b is a model's struct. -/
def Bm (w : World) (b : Nat) (W : Int) (v : Value) : Prop := Blk w b 24 [.int .i64 W, v]
theorem Bm.c0 {w : World} {b : Nat} {W : Int} {v : Value} (h : Bm w b W v) : w.cell? ⟨b, 0, none⟩ = some (.int .i64 W) := Blk.cell h 0
theorem Bm.c1 {w : World} {b : Nat} {W : Int} {v : Value} (h : Bm w b W v) : w.cell? ⟨b, 1, none⟩ = some v := Blk.cell h 1
theorem Bm.f0 {w : World} {b : Nat} {W : Int} {v : Value} (h : Bm w b W v) : w.frozen? ⟨b, 0, none⟩ = false := Blk.frozen h 0
theorem Bm.f1 {w : World} {b : Nat} {W : Int} {v : Value} (h : Bm w b W v) : w.frozen? ⟨b, 1, none⟩ = false := Blk.frozen h 1
theorem Bm.new (w : World) (W : Int) (v : Value) : Bm (w.alloc (.cells #[.int .i64 W, v] 24)) w.heap.size W v := Blk.new w _ _
theorem Bm.new2 (w : World) (x y : Obj) (W : Int) (v : Value) (e : y = .cells #[.int .i64 W, v] 24) : Bm ((w.alloc x).alloc y) (w.heap.size + 1) W v := by
  subst e
  have := Blk.new (w.alloc x) 24 [.int .i64 W, v]
  rwa [show (w.alloc x).heap.size = w.heap.size + 1 by simp] at this
theorem Bm.old {w w' : World} {b : Nat} {W : Int} {v : Value} (h : Bm w b W v) (k : Kept Old w w') : Bm w' b W v := Blk.kept h k (fun x => x)
theorem Bm.alloc {w : World} {b : Nat} {W : Int} {v : Value} (h : Bm w b W v) (o : Obj) : Bm (w.alloc o) b W v := Blk.alloc h o
theorem Bm.drew {w : World} {b : Nat} {W : Int} {v : Value} (h : Bm w b W v) : Bm w.drew b W v := h
theorem Bm.put2 {w : World} {b : Nat} {W : Int} {v : Value} (h : Bm w b W v) (x y : Value) : Blk ((w.setCell ⟨b, 0, none⟩ x).setCell ⟨b, 1, none⟩ y) b 24 [x, y] := (Blk.put h 0 x).put 1 y
theorem put2_kept (w : World) (b : Nat) (x y : Value) : Kept (Only b) w ((w.setCell ⟨b, 0, none⟩ x).setCell ⟨b, 1, none⟩ y) := (only_setCell w b 0 x).trans (only_setCell _ b 1 y)
theorem put3_kept (w : World) (b : Nat) (x y z : Value) : Kept (Only b) w (((w.setCell ⟨b, 0, none⟩ x).setCell ⟨b, 1, none⟩ y).setCell ⟨b, 2, none⟩ z) := (put2_kept w b x y).trans (only_setCell _ b 2 z)
/-- A list that was made outlives stores into a block of the caller's own. -/
theorem MadeS.put {L : List S} {w W1 w2 V : World} {v : Value} {b : Nat} (h : MadeS L W1 v w2) (k : Kept Old w W1) (hb : w.heap.size ≤ b) (hb1 : b < W1.heap.size) (kv : Kept (Only b) w2 V) : MadeS L w v V := by
  obtain ⟨A, n, c, h1, r, h2, h3, K⟩ := h
  refine ⟨A, n, c, h1, r.kept kv (fun ad e q => ?_), h2, ⟨h3.1, fun ad e => Nat.le_trans k.size (h3.2 ad e)⟩, (k.trans K).join kv (fun i hi e => ?_)⟩
  · have q : ad.block = b := q
    have := h3.2 ad e
    omega
  · have e : i = b := e
    omega
/-- The end of a function whose first result is a model. -/
theorem Bm.end2 {w w1 w' : World} {b : Nat} {W0 : Int} {u : Value} {L : List S} {v : Value} (z : Bm w' b W0 u) (M : MadeS L w1 v w') (k : Kept Old w w1) (hb : w.heap.size ≤ b) (hb1 : b < w1.heap.size) (x : Int) :
    ∃ W, (w'.setCell ⟨b, 0, none⟩ (.int .i64 x)).setCell ⟨b, 1, none⟩ v = W ∧ W.cell? ⟨b, 0, none⟩ = some (.int .i64 x) ∧ W.cell? ⟨b, 1, none⟩ = some v ∧ MadeS L w v W :=
  ⟨_, rfl, (z.put2 _ _).cell 0, (z.put2 _ _).cell 1, M.put k hb hb1 (put2_kept _ _ _ _)⟩
/-- The same where the model is the zero one. -/
theorem Bm.end0 {w w' : World} {b : Nat} {W0 : Int} {u : Value} (z : Bm w' b W0 u) (k : Kept Old w w') (hb : w.heap.size ≤ b) :
    ∃ W, (w'.setCell ⟨b, 0, none⟩ (.int .i64 0)).setCell ⟨b, 1, none⟩ (.slice none 0 0) = W ∧ W.cell? ⟨b, 0, none⟩ = some (.int .i64 0) ∧ W.cell? ⟨b, 1, none⟩ = some (.slice none 0 0) ∧ MadeS [] w (.slice none 0 0) W :=
  ⟨_, rfl, (z.put2 _ _).cell 0, (z.put2 _ _).cell 1, MadeS.of_nil (k.join (put2_kept _ _ _ _) (fun i hi e => by have e : i = b := e; omega))⟩
theorem kept2 (w : World) (x y : Obj) : Kept Old w ((w.alloc x).alloc y) := ((Kept.refl Old w).alloc x).alloc y
theorem cell_on {w w' : World} {p : Addr} {v : Value} (k : Kept Old w w') (c : w.cell? p = some v) : w'.cell? p = some v := by
  have hb : p.block < w.heap.size := block_lt_of_cell c
  rw [k.cell hb (fun x => x)]
  exact c
theorem BxS.f {w : World} {b : Nat} {x : S} (h : BxS w b x) (i : Nat) : w.frozen? ⟨b, i, none⟩ = false := Blk.frozen h i
theorem BxS.drew {w : World} {b : Nat} {x : S} (h : BxS w b x) : BxS w.drew b x := h
theorem BxS.new2 (w : World) (x y : Obj) (z : S) (e : y = .cells #[.int .i64 z.a, .int .i64 z.n, .int .i64 z.c] 40) : BxS ((w.alloc x).alloc y) (w.heap.size + 1) z := by
  subst e
  have := BxS.new (w.alloc x) z
  rwa [show (w.alloc x).heap.size = w.heap.size + 1 by simp] at this
/-- The end of a function one of whose results is a live stack. -/
theorem BxS.end3 {w w' : World} {b : Nat} {u : S} (z : BxS w' b u) (k : Kept Old w w') (hb : w.heap.size ≤ b) (p q r : Int) :
    ∃ W, ((w'.setCell ⟨b, 0, none⟩ (.int .i64 p)).setCell ⟨b, 1, none⟩ (.int .i64 q)).setCell ⟨b, 2, none⟩ (.int .i64 r) = W ∧ W.cell? ⟨b, 0, none⟩ = some (.int .i64 p) ∧ W.cell? ⟨b, 1, none⟩ = some (.int .i64 q) ∧ W.cell? ⟨b, 2, none⟩ = some (.int .i64 r) ∧ Kept Old w W := by
  have h := ((Blk.put z 0 (.int .i64 p)).put 1 (.int .i64 q)).put 2 (.int .i64 r)
  exact ⟨_, rfl, h.cell 0, h.cell 1, h.cell 2, k.join (put3_kept _ _ _ _ _) (fun i hi e => by have e : i = b := e; omega)⟩
/-- A model and whether it is one. -/
def AllocPost (W : Int) (L : List S) (B : Bool) (w : World) (e : Ending) (w' : World) : Prop := ∃ v, e = .returned (.tuple #[.agg #[.int .i64 W, v], .bool B]) ∧ MadeS L w v w'
/-- A model and a code. -/
def FreePost (W : Int) (L : List S) (C : Int) (w : World) (e : Ending) (w' : World) : Prop := ∃ v, e = .returned (.tuple #[.agg #[.int .i64 W, v], .int .i64 C]) ∧ MadeS L w v w'
/-- A model, a number, and whether all were accepted. -/
def AccPost (W : Int) (L : List S) (K : Int) (B : Bool) (w : World) (e : Ending) (w' : World) : Prop := ∃ v, e = .returned (.tuple #[.agg #[.int .i64 W, v], .int .i64 K, .bool B]) ∧ MadeS L w v w'

/-- A slice of live stacks that came in as a field of a struct. -/
theorem lives_field {H : Type} {enc : TypeId × Value → H} {w : World} {v : Value} {f : Nat} {d : DataW H} {p : List MemPlace}
    (h : DataW.trod enc Try.prog w 0 (fun _ => true) true f 22 [v] = some (d, p)) : ∃ a len cap l, v = .slice a len cap ∧ len ≤ cap ∧ cap ≤ maxLen ∧ (a = none → cap = 0) ∧ RsS w a len l := by
  rcases Deep.open_slice Try.underlying22 h with ⟨hcs, _⟩ | ⟨x, l, c, m, n, Dd, Pl, hcs, _, hl, hm, hmm, _, hx⟩
  · obtain rfl := List.head_eq_of_cons_eq hcs
    exact ⟨none, 0, 0, [], rfl, Nat.le_refl _, Nat.zero_le _, fun _ => rfl, RsS.nil _ _⟩
  · obtain rfl := List.head_eq_of_cons_eq hcs
    simp only [if_true] at hmm
    subst hmm
    have ce : Try.prog.cellsOf 40 = 3 := by kernel_rfl
    have each : ∀ i, i < l → ∃ q : S, Fit q ∧ w.cell? (x.add (i * 3)) = some (.int .i64 q.a) ∧ w.cell? (x.add (i * 3 + 1)) = some (.int .i64 q.n) ∧ w.cell? (x.add (i * 3 + 2)) = some (.int .i64 q.c) := by
      intro i hi
      obtain ⟨cs', h1, h2⟩ := hx i (by omega)
      rw [ce] at h1
      obtain ⟨_, hlen, hcell⟩ := World.cells?_some h1
      obtain ⟨xs, k, hk, hxy, _, hxl, hf'⟩ := DataW.trod_struct Try.underlying40 h2
      match xs, hxl, cs', hlen with
      | [y0, y1, y2], _, [v0, v1, v2], _ =>
        have g0 := hf' 0 _ rfl
        have g1 := hf' 1 _ rfl
        have g2 := hf' 2 _ rfl
        have c1 : Try.prog.cellsOf 3 = 1 := by kernel_rfl
        simp [c1] at g0 g1 g2
        have e0 := hcell 0 (by omega)
        have e1 := hcell 1 (by omega)
        have e2 := hcell 2 (by omega)
        rw [Deep.add_add] at e0 e1 e2
        obtain ⟨z0, q0, _, f0⟩ := DataW.trod_int Try.underlying3 g0
        obtain ⟨z1, q1, _, f1⟩ := DataW.trod_int Try.underlying3 g1
        obtain ⟨z2, q2, _, f2⟩ := DataW.trod_int Try.underlying3 g2
        have b0 := bounds_i64 f0
        have b1 := bounds_i64 f1
        have b2 := bounds_i64 f2
        have q0 := List.head_eq_of_cons_eq q0
        have q1 := List.head_eq_of_cons_eq q1
        have q2 := List.head_eq_of_cons_eq q2
        have i0 : in64S z0 := ⟨by omega, by omega⟩
        have i1 : in64S z1 := ⟨by omega, by omega⟩
        have i2 : in64S z2 := ⟨by omega, by omega⟩
        refine ⟨⟨z0, z1, z2⟩, ⟨i0, i1, i2⟩, ?_, ?_, ?_⟩
        · rw [← q0]; simpa using e0
        · rw [← q1]; simpa using e1
        · rw [← q2]; simpa using e2
    obtain ⟨q, hq⟩ := Deep.choose_lt each
    refine ⟨some x, l, _, (List.range l).map q, rfl, hl, hm, (fun h => by cases h), by simp, fun y hy => ?_, fun hn => ?_⟩
    · obtain ⟨i, hi, rfl⟩ := List.mem_map.1 hy
      exact (hq i (List.mem_range.1 hi)).1
    · obtain ⟨b, o, s⟩ := x
      have c0 := (hq 0 (by omega)).2.1
      have hs : s = none := by simpa [Addr.add] using World.cell?_spot c0
      subst hs
      refine ⟨b, o, rfl, ?_, fun i y hy => ?_⟩
      · have := block_lt_of_cell c0
        rw [addr_add] at this
        exact this
      · have hi : i < l := by have := (List.getElem?_eq_some_iff.1 hy).1; simpa using this
        rw [List.getElem?_map, List.getElem?_range hi] at hy
        simp only [Option.map_some, Option.some.injEq] at hy
        subst hy
        have := hq i hi
        rw [addr_add, addr_add, addr_add] at this
        exact ⟨this.2.1, this.2.2.1, this.2.2.2⟩
end Go.Proofs.Ytmajgfpfbieakaa.Lm
