/-
  Joined texts of Big; own work.
-/
import Derived.Test.YtcndilpaijapkaaGreatRows
import Derived.WalkKit
import Derived.OwnWalk
import Derived.Maps.AppendAt
import Derived.Deep.AppendLies
import Derived.Deep.SlicePairs
import Derived.StillTailTactics
import Derived.RegionTactic
import Derived.Deep.RegionLaw
import Derived.ProofKit
import Derived.OpenShut
import Derived.Outline
import Derived.Deep.Light
import Derived.Deep.QuietTactic
import Derived.BigQuiet
import Derived.IntWalk
import Derived.ChangeAlike
import Derived.Deep.RegionHeld3
import Derived.Deep.CutRange
import Derived.Test.YtcndilpaijapkaaGreatJBase
import Derived.Test.YtcndilpaijapkaaGreatJMath
import Derived.Test.YtcndilpaijapkaaGreatJSize
/- A slice of large stacks (address, class) that reads as a list of pairs (Rs), one in a block (Bx), a slice that the call itself made (Ow), one that came in (pairs_in). Own work; no program is walked here. -/
namespace Go.Proofs.YtcndilpaijapkaaGreat.Bg
open Go.ChangeShapes Go.WideShapes Go.ChangeAt Go.RowKit

abbrev run (x : R) : Value := .agg #[.int .i64 x.1, .int .i64 x.2]
/-- A 64-bit integer. -/
def in64 (z : Int) : Prop := -9223372036854775808 ≤ z ∧ z ≤ 9223372036854775807
/-- The slice at A has n runs, those of l. -/
structure Rs (w : World) (A : Option Addr) (n : Nat) (l : List R) : Prop where
  len : l.length = n
  fit : ∀ x ∈ l, in64 x.1 ∧ in64 x.2
  lies : 0 < n → ∃ g o, A = some ⟨g, o, none⟩ ∧ g < w.heap.size ∧ ∀ (i : Nat) (x : R), l[i]? = some x → w.cell? ⟨g, o + i * 2, none⟩ = some (.int .i64 x.1) ∧ w.cell? ⟨g, o + i * 2 + 1, none⟩ = some (.int .i64 x.2)
theorem Rs.kept {D : Nat → Prop} {w w' : World} {A : Option Addr} {n : Nat} {l : List R} (h : Rs w A n l) (k : Kept D w w') (hd : ∀ ad, A = some ad → ¬ D ad.block) : Rs w' A n l :=
  ⟨h.len, h.fit, fun hn => by
    obtain ⟨g, o, rfl, hg, c⟩ := h.lies hn
    have hd' : ¬ D g := hd _ rfl
    exact ⟨g, o, rfl, Nat.lt_of_lt_of_le hg k.size, fun i x hx => ⟨(k.cell (p := ⟨g, o + i * 2, none⟩) hg hd').trans (c i x hx).1, (k.cell (p := ⟨g, o + i * 2 + 1, none⟩) hg hd').trans (c i x hx).2⟩⟩⟩
theorem Rs.old {w w' : World} {A : Option Addr} {n : Nat} {l : List R} (h : Rs w A n l) (k : Kept Old w w') : Rs w' A n l := h.kept k fun _ _ x => x
theorem Rs.nil (w : World) (A : Option Addr) : Rs w A 0 [] := ⟨rfl, fun _ h => (by cases h), fun h => absurd h (Nat.lt_irrefl 0)⟩
theorem Rs.get {w : World} {A : Option Addr} {n : Nat} {l : List R} (h : Rs w A n l) {k : Nat} (hk : k < n) : ∃ (g o : Nat) (x : R), A = some ⟨g, o, none⟩ ∧ g < w.heap.size ∧ l[k]? = some x ∧ in64 x.1 ∧ in64 x.2 ∧ w.cell? ⟨g, o + k * 2, none⟩ = some (.int .i64 x.1) ∧ w.cell? ⟨g, o + k * 2 + 1, none⟩ = some (.int .i64 x.2) := by
  obtain ⟨g, o, rfl, hg, c⟩ := h.lies (by omega)
  have hl : k < l.length := by have := h.len; omega
  have e : l[k]? = some l[k] := List.getElem?_eq_getElem hl
  have f := h.fit _ (List.getElem_mem hl)
  exact ⟨g, o, l[k], rfl, hg, e, f.1, f.2, (c k _ e).1, (c k _ e).2⟩
theorem get_len {w : World} {A : Option Addr} {n : Nat} {l : List R} (h : Rs w A n l) {k : Nat} {x : R} (hx : l[k]? = some x) : k < n := by
  have := (List.getElem?_eq_some_iff.1 hx).1
  have := h.len
  omega

/-- A slice of runs that came in. -/
theorem pairs_in {H : Type} {enc : TypeId × Value → H} {w : World} {a : Option Addr} {len cap : Nat} {d : DataW H} {p : List MemPlace}
    (h : DataW.Trod enc Tryz.prog w 0 (fun _ => true) true 84 (.slice a len cap) d p) : ∃ l : List R, len ≤ cap ∧ cap ≤ maxLen ∧ (a = none → cap = 0) ∧ Rs w a len l := by
  obtain ⟨fuel, hf⟩ := h
  rcases Deep.open_slice_pairs Tryz.underlying84 Tryz.underlying113 (by kernel_rfl) rfl rfl (by kernel_rfl) (by kernel_rfl) hf with ⟨hcs, _⟩ | ⟨x, l, c, m, n, V0, V1, D0, D1, P0, P1, hcs, _, hl, hm, hmm, _, hcell⟩
  · simp [Value.cells] at hcs
    obtain ⟨rfl, rfl, rfl⟩ := hcs
    exact ⟨[], Nat.le_refl _, Nat.zero_le _, fun _ => rfl, Rs.nil _ _⟩
  · simp [Value.cells] at hcs
    obtain ⟨rfl, rfl, rfl⟩ := hcs
    simp only [if_true] at hmm
    subst hmm
    have each : ∀ i, i < len → ∃ q : R, in64 q.1 ∧ in64 q.2 ∧ w.cell? (x.add (i * 2)) = some (.int .i64 q.1) ∧ w.cell? (x.add (i * 2 + 1)) = some (.int .i64 q.2) := by
      intro i hi
      obtain ⟨c0, c1, t0, t1⟩ := hcell i (by omega)
      obtain ⟨z0, e0, _, f0⟩ := DataW.trod_int Tryz.underlying3 t0
      obtain ⟨z1, e1, _, f1⟩ := DataW.trod_int Tryz.underlying3 t1
      rw [List.head_eq_of_cons_eq e0] at c0
      rw [List.head_eq_of_cons_eq e1] at c1
      have b0 := bounds_i64 f0
      have b1 := bounds_i64 f1
      exact ⟨(z0, z1), ⟨by omega, by omega⟩, ⟨by omega, by omega⟩, c0, c1⟩
    obtain ⟨q, hq⟩ := Deep.choose_lt each
    refine ⟨(List.range len).map q, hl, hm, (fun h => by cases h), by simp, fun y hy => ?_, fun hn => ?_⟩
    · obtain ⟨i, hi, rfl⟩ := List.mem_map.1 hy
      have := hq i (List.mem_range.1 hi)
      exact ⟨this.1, this.2.1⟩
    · obtain ⟨b, o, s⟩ := x
      have c0 := (hq 0 (by omega)).2.2.1
      have hs : s = none := by simpa [Addr.add] using World.cell?_spot c0
      subst hs
      refine ⟨b, o, rfl, ?_, fun i y hy => ?_⟩
      · have := block_lt_of_cell c0
        rw [addr_add] at this
        exact this
      · have hi : i < len := by have := (List.getElem?_eq_some_iff.1 hy).1; simpa using this
        rw [List.getElem?_map, List.getElem?_range hi] at hy
        simp only [Option.map_some, Option.some.injEq] at hy
        subst hy
        have := hq i hi
        rw [addr_add, addr_add] at this
        exact ⟨this.2.2.1, this.2.2.2⟩

/-! ### A run in a block -/
def Bx (w : World) (b : Nat) (x : R) : Prop := Blk w b 113 [.int .i64 x.1, .int .i64 x.2]
theorem Bx.c0 {w : World} {b : Nat} {x : R} (h : Bx w b x) : w.cell? ⟨b, 0, none⟩ = some (.int .i64 x.1) := Blk.cell h 0
theorem Bx.c1 {w : World} {b : Nat} {x : R} (h : Bx w b x) : w.cell? ⟨b, 1, none⟩ = some (.int .i64 x.2) := Blk.cell h 1
theorem Bx.new (w : World) (x : R) : Bx (w.alloc (.cells #[.int .i64 x.1, .int .i64 x.2] 113)) w.heap.size x := Blk.new w _ _
theorem Bx.old {w w' : World} {b : Nat} {x : R} (h : Bx w b x) (k : Kept Old w w') : Bx w' b x := Blk.kept h k (fun x => x)
theorem Bx.alloc {w : World} {b : Nat} {x : R} (h : Bx w b x) (o : Obj) : Bx (w.alloc o) b x := Blk.alloc h o
theorem Bx.put2 {w : World} {b : Nat} {x : R} (h : Bx w b x) (y z : Int) : Bx ((w.setCell ⟨b, 0, none⟩ (.int .i64 y)).setCell ⟨b, 1, none⟩ (.int .i64 z)) b (y, z) := (Blk.put h 0 (.int .i64 y)).put 1 (.int .i64 z)

/-! ### A slice that the call itself made -/
/-- Runs as cells. -/
def C : List R → List Value
  | [] => []
  | x :: t => .int .i64 x.1 :: .int .i64 x.2 :: C t
theorem C_length (l : List R) : (C l).length = l.length * 2 := by
  induction l with
  | nil => rfl
  | cons x t ih => simp only [C, List.length_cons, ih]; omega
theorem C_append (a b : List R) : C (a ++ b) = C a ++ C b := by
  induction a with
  | nil => rfl
  | cons x t ih => simp only [List.cons_append, C, ih]
theorem C_one (l : List R) : ∀ u ∈ C l, u.oneCell' = true := by
  induction l with
  | nil => intro u hu; cases hu
  | cons x t ih =>
    intro u hu
    simp only [C, List.mem_cons] at hu
    rcases hu with rfl | rfl | hu
    · rfl
    · rfl
    · exact ih u hu
theorem C_get (l : List R) (i : Nat) (x : R) (h : l[i]? = some x) : (C l)[i * 2]? = some (.int .i64 x.1) ∧ (C l)[i * 2 + 1]? = some (.int .i64 x.2) := by
  induction l generalizing i with
  | nil => cases h
  | cons y t ih =>
    cases i with
    | zero => simp only [List.getElem?_cons_zero, Option.some.injEq] at h; subst h; exact ⟨rfl, rfl⟩
    | succ i =>
      have := ih i (by simpa using h)
      rw [show (i + 1) * 2 = i * 2 + 1 + 1 by omega]
      simpa [C] using this
theorem C_at (l : List R) (j : Nat) (u : Value) (h : (C l)[j]? = some u) : ∃ i x, l[i]? = some x ∧ ((j = i * 2 ∧ u = .int .i64 x.1) ∨ (j = i * 2 + 1 ∧ u = .int .i64 x.2)) := by
  have hj : j < (C l).length := (List.getElem?_eq_some_iff.1 h).1
  rw [C_length] at hj
  have hi : j / 2 < l.length := by omega
  have e : l[j / 2]? = some l[j / 2] := List.getElem?_eq_getElem hi
  have g := C_get l (j / 2) _ e
  refine ⟨j / 2, _, e, ?_⟩
  rcases Nat.mod_two_eq_zero_or_one j with m | m
  · left
    have : j = j / 2 * 2 := by omega
    refine ⟨this, ?_⟩
    rw [← this] at g
    rw [g.1] at h
    exact (Option.some.inj h).symm
  · right
    have : j = j / 2 * 2 + 1 := by omega
    refine ⟨this, ?_⟩
    rw [← this] at g
    rw [g.2] at h
    exact (Option.some.inj h).symm
/-- The slice value v is n runs, those of l, in blocks from B on (or nil). -/
structure Ow (w : World) (B : Nat) (v : Value) (n : Nat) (l : List R) : Prop where
  row : w.ownsRow B 113 2 v n (C l)
  fit : ∀ x ∈ l, in64 x.1 ∧ in64 x.2
theorem Ow.len {w : World} {B : Nat} {v : Value} {n : Nat} {l : List R} (h : Ow w B v n l) : l.length = n := by
  have := h.row.1
  rw [C_length] at this
  omega
theorem Ow.rs {w : World} {B : Nat} {v : Value} {n : Nat} {l : List R} (h : Ow w B v n l) : ∃ A c, v = .slice A n c ∧ Rs w A n l ∧ n ≤ c ∧ (A = none → c = 0) := by
  have hlen := h.len
  rcases h.row.2 with ⟨rfl, rfl⟩ | ⟨g, cap, cur, rfl, hb, hg, hn, hm, hs, ht⟩
  · obtain rfl : l = [] := List.eq_nil_of_length_eq_zero hlen
    exact ⟨none, 0, rfl, Rs.nil _ _, Nat.le_refl _, fun _ => rfl⟩
  · refine ⟨_, cap, rfl, ⟨hlen, h.fit, fun _ => ⟨g, 0, rfl, (Array.getElem?_eq_some_iff.1 hg).1, fun i x hx => ?_⟩⟩, hn, fun h => by cases h⟩
    have hi := (List.getElem?_eq_some_iff.1 hx).1
    have gx := C_get l i x hx
    rw [← ht, List.getElem?_take, List.getElem?_take, if_pos (by omega), if_pos (by omega)] at gx
    rw [Nat.zero_add, cell_of_row w g _ cur 113 (0, 0) hg, cell_of_row w g _ cur 113 (0, 0) hg]
    simpa using gx
theorem Ow.kept {D : Nat → Prop} {w w' : World} {B : Nat} {v : Value} {n : Nat} {l : List R} (h : Ow w B v n l) (k : Kept D w w') (hd : ∀ g, B ≤ g → ¬ D g) : Ow w' B v n l := by
  refine ⟨⟨h.row.1, ?_⟩, h.fit⟩
  rcases h.row.2 with hn | ⟨g, cap, cur, rfl, hb, hg, rest⟩
  · exact .inl hn
  · refine .inr ⟨g, cap, cur, rfl, hb, ?_, rest⟩
    rw [k.block g (Array.getElem?_eq_some_iff.1 hg).1 (hd g hb)]
    exact hg
theorem Ow.old {w w' : World} {B : Nat} {v : Value} {n : Nat} {l : List R} (h : Ow w B v n l) (k : Kept Old w w') : Ow w' B v n l := h.kept k (fun _ _ x => x)
theorem Ow.alloc {w : World} {B : Nat} {v : Value} {n : Nat} {l : List R} (h : Ow w B v n l) (o : Obj) : Ow (w.alloc o) B v n l := ⟨h.row.alloc o, h.fit⟩
theorem Ow.nil (w : World) (B : Nat) : Ow w B (.slice none 0 0) 0 [] := ⟨World.ownsRow_nil _ _ _ _, fun _ h => by cases h⟩
theorem Ow.made (w : World) (B cap : Nat) (cur : Array Value) (hb : B ≤ w.heap.size) (hm : cap ≤ maxLen) (hs : cur.size = cap * 2) : Ow (w.alloc (.cells cur 113)) B (.slice (some ⟨w.heap.size, 0, none⟩) 0 cap) 0 [] :=
  ⟨World.ownsRow_made w cur cap hb hm hs, fun _ h => by cases h⟩
theorem Tryz.bigInfo : (Tryz.prog.info? 113).map (fun i => (i.zero, i.size, i.bytes)) = some (some (.agg #[.int .i64 0, .int .i64 0]), 2, 16) := by kernel_rfl
theorem Rs.cells {w : World} {ad : Addr} {n : Nat} {l : List R} (h : Rs w (some ad) n l) : ∀ j u, (C l)[j]? = some u → w.cell? (ad.add j) = some u := by
  intro j u hu
  obtain ⟨i, x, hx, hju⟩ := C_at l j u hu
  obtain ⟨g, o, e, _, c⟩ := h.lies (Nat.lt_of_le_of_lt (Nat.zero_le _) (get_len h hx))
  injection e with e
  subst e
  rw [addr_add]
  rcases hju with ⟨rfl, rfl⟩ | ⟨rfl, rfl⟩
  · exact (c i x hx).1
  · exact (c i x hx).2
/-- append of the runs at A. -/
theorem app_own (w : World) (B : Nat) (v : Value) (n : Nat) (l : List R) (h : Ow w B v n l) (A : Option Addr) (m c : Nat) (news : List R) (hr : Rs w A m news) (hA : A = none → m = 0 ∧ c = 0) (hn : n ≤ 1000) (hm : m ≤ 1000) (hb : B ≤ w.heap.size) :
    ∃ v' w', (Builtin.append_ #[84, 84] 84 #[v, .slice A m c]).run Tryz.prog w = .ok v' w' ∧ Ow w' B v' (n + m) (l ++ news) ∧ Kept (fun k => some k = v.ownBlock) w w' ∧ (v'.ownBlock = v.ownBlock ∨ v'.ownBlock = some w.heap.size) := by
  obtain ⟨i0, hi, hz0, hz1, hz2⟩ := info_parts Tryz.bigInfo
  cases A with
  | none =>
    obtain ⟨rfl, rfl⟩ := hA rfl
    obtain rfl : news = [] := List.eq_nil_of_length_eq_zero hr.len
    exact ⟨v, w, run_append_owned_none (P := Tryz.prog) (w := w) B 84 84 113 i0 2 Tryz.underlying84 hi v n (C l) h.row, by simpa using h, Kept.refl _ _, .inl rfl⟩
  | some ad =>
    obtain ⟨v', w', hrun, ho, hg, _, hat⟩ := run_append_own_at (P := Tryz.prog) w B 84 84 113 i0 _ 2 16 Tryz.underlying84 hi hz0 hz1 hz2 rfl (by omega) v n (C l) h.row ad m c (C news) (by rw [C_length, hr.len]) hr.cells (C_one news) (by simp only [maxLen]; omega) (by omega) hb
    rw [← C_append] at ho
    exact ⟨v', w', hrun, ⟨ho, fun x hx => (List.mem_append.1 hx).elim (h.fit x) (hr.fit x)⟩, Kept.grown (Kept.refl _ _) hg (fun g e _ => e.symm), hat⟩
theorem Ow.own {w : World} {B : Nat} {v : Value} {n : Nat} {l : List R} (h : Ow w B v n l) : ∀ k, some k = v.ownBlock → B ≤ k ∧ k < w.heap.size := fun k hk => h.row.lt k hk.symm
/-- The run stated at the operation. -/
theorem app_wp {ops : Array Oper} {rest : List Oper} {o : Oper} {a : Act} {Q : Exit → Act → World → Prop} {w : World} (hgd : o.guard = none) (s x : Operand)
    (ho : o.op = .call { callee := .builtin .append, args := #[s, x], argTypes := #[84, 84] }) (hty : o.type = 84)
    (B : Nat) (v : Value) (n : Nat) (l : List R) (hs : a.eval s = v) (h : Ow w B v n l) (A : Option Addr) (m c : Nat) (news : List R) (hx : a.eval x = .slice A m c) (hr : Rs w A m news) (hA : A = none → m = 0 ∧ c = 0) (hn : n ≤ 1000) (hm : m ≤ 1000) (hb : B ≤ w.heap.size) (N : Nat) (hN : n + m = N) (L : List R) (hL : l ++ news = L)
    (go : ∀ v' w', Hid (Ow w' B v' N L) → Hid (Kept (fun k => some k = v.ownBlock) w w') → Hid (v'.ownBlock = v.ownBlock ∨ v'.ownBlock = some w.heap.size) → wpList Tryz.prog ops Q rest (a.put o.dst v') w') : wpList Tryz.prog ops Q (o :: rest) a w := by
  subst hN
  subst hL
  refine wpList_plain hgd fun K hK => ?_
  obtain ⟨v', w', hrun, h2, h3, h4⟩ := app_own w B v n l h A m c news hr hA hn hm hb
  unfold Oper.wp execOp
  simp only [ho, hty, resolve, invoke, builtin, Sem.run_bind, Sem.run_pure, Result.andThen_ok, List.map_toArray, List.map_cons, List.map_nil, hs, hx, hrun]
  exact hK _ _ (go v' w' h2 h3 h4)
theorem app_step {ops : Array Oper} {o : Oper} {a : Act} {K : Act → World → Prop} {Q : Exit → Act → World → Prop} {E : Prop} {w : World} (hgd : o.guard = none) (s x : Operand)
    (ho : o.op = .call { callee := .builtin .append, args := #[s, x], argTypes := #[84, 84] }) (hty : o.type = 84)
    (B : Nat) (v : Value) (n : Nat) (l : List R) (hs : a.eval s = v) (h : Ow w B v n l) (A : Option Addr) (m c : Nat) (news : List R) (hx : a.eval x = .slice A m c) (hr : Rs w A m news) (hA : A = none → m = 0 ∧ c = 0) (hn : n ≤ 1000) (hm : m ≤ 1000) (hb : B ≤ w.heap.size) (N : Nat) (hN : n + m = N) (L : List R) (hL : l ++ news = L)
    (go : ∀ v' w', Hid (Ow w' B v' N L) → Hid (Kept (fun k => some k = v.ownBlock) w w') → Hid (v'.ownBlock = v.ownBlock ∨ v'.ownBlock = some w.heap.size) → K (a.put o.dst v') w') :
    if Region.wanted o (yielded ops a.tmps) = true then Oper.wp Tryz.prog o a w K Q else E := by
  subst hN
  subst hL
  have hw : Region.wanted o (yielded ops a.tmps) = true := by simp [Region.wanted, hgd]
  rw [if_pos hw]
  obtain ⟨v', w', hrun, h2, h3, h4⟩ := app_own w B v n l h A m c news hr hA hn hm hb
  unfold Oper.wp execOp
  simp only [ho, hty, resolve, invoke, builtin, Sem.run_bind, Sem.run_pure, Result.andThen_ok, List.map_toArray, List.map_cons, List.map_nil, hs, hx, hrun]
  exact go v' w' h2 h3 h4
/-! ### Cuts and makes -/
theorem Rs.take {w : World} {A : Option Addr} {n : Nat} {l : List R} (h : Rs w A n l) {i : Nat} (hi : i ≤ n) : Rs w A i (l.take i) :=
  ⟨by have := h.len; simp; omega, fun x hx => h.fit x (List.mem_of_mem_take hx), fun h0 => by
    obtain ⟨g, o, e, hg, c⟩ := h.lies (by omega)
    refine ⟨g, o, e, hg, fun j x hx => c j x ?_⟩
    have := (List.getElem?_eq_some_iff.1 hx).1
    rw [List.length_take] at this
    rw [List.getElem?_take, if_pos (by omega)] at hx
    exact hx⟩
theorem Rs.drop {w : World} {g o n : Nat} {l : List R} (h : Rs w (some ⟨g, o, none⟩) n l) {i : Nat} (A : Option Addr) (hA : i < n → A = some ⟨g, o + i * 2, none⟩) : Rs w A (n - i) (l.drop i) :=
  ⟨by have := h.len; simp; omega, fun x hx => h.fit x (List.mem_of_mem_drop hx), fun h0 => by
    obtain ⟨g', o', e, hg, c⟩ := h.lies (by omega)
    injection e with e
    injection e with e1 e2
    subst e1
    subst e2
    refine ⟨g, o + i * 2, hA (by omega), hg, fun j x hx => ?_⟩
    rw [List.getElem?_drop] at hx
    have := c (i + j) x hx
    rw [show o + i * 2 + j * 2 = o + (i + j) * 2 by omega]
    exact this⟩
theorem make_runs (w : World) (B n : Nat) (hn : n ≤ 3000) (hb : B ≤ w.heap.size) :
    ∃ w', (Instr.makeSlice 84 (.int .i64 0) (.int .i64 (n : Int))).run Tryz.prog w = .ok (.slice (some ⟨w.heap.size, 0, none⟩) 0 n) w' ∧ Ow w' B (.slice (some ⟨w.heap.size, 0, none⟩) 0 n) 0 [] ∧ Kept Old w w' := by
  obtain ⟨i0, hi, hz0, hz1, hz2⟩ := info_parts Tryz.bigInfo
  obtain ⟨w', hrun, r1, r2⟩ := run_make_own (P := Tryz.prog) w B 84 113 i0 _ 2 Tryz.underlying84 hi hz0 hz1 .i64 .i64 n (by rw [hz2]; omega) (by simp only [maxLen]; omega) hb
  exact ⟨w', hrun, ⟨r1, fun _ h => by cases h⟩, Kept.grown (Kept.refl _ _) r2 (fun g e _ => by cases e)⟩
theorem Ow.drew {w : World} {B : Nat} {v : Value} {n : Nat} {l : List R} (h : Ow w B v n l) : Ow w.drew B v n l := ⟨h.row, h.fit⟩
theorem Rs.drew {w : World} {A : Option Addr} {n : Nat} {l : List R} (h : Rs w A n l) : Rs w.drew A n l := ⟨h.len, h.fit, h.lies⟩
/-- Behind an append all that was there ahead of the call is as it was. -/
theorem Ow.step {w0 w w' : World} {v : Value} {n : Nat} {l : List R} (h : Ow w w0.heap.size v n l) (K : Kept Old w0 w) (k : Kept (fun k => some k = v.ownBlock) w w') : Kept Old w0 w' :=
  K.join k fun i hi e => by have := (h.own i e).1; omega
theorem Rs.one (w : World) (x : R) (h1 : in64 x.1) (h2 : in64 x.2) (s : Nat) (hs : w.heap.size = s) : Rs (w.alloc (.cells #[.int .i64 x.1, .int .i64 x.2] 113)) (some ⟨s, 0, none⟩) 1 [x] := by
  subst hs
  exact
  ⟨rfl, fun y hy => by obtain rfl := List.mem_singleton.1 hy; exact ⟨h1, h2⟩, fun _ => ⟨w.heap.size, 0, rfl, Blk.lt (Bx.new w x), fun i y hy => by
    have hi := (List.getElem?_eq_some_iff.1 hy).1
    obtain rfl : i = 0 := by simpa using hi
    simp only [List.getElem?_cons_zero, Option.some.injEq] at hy
    subst hy
    exact ⟨(Bx.new w x).c0, (Bx.new w x).c1⟩⟩⟩
theorem Bx.kept2 {w w' : World} {b : Nat} (k : Kept Old w w') (hb : w.heap.size ≤ b) (x y : Value) : Kept Old w ((w'.setCell ⟨b, 0, none⟩ x).setCell ⟨b, 1, none⟩ y) :=
  (k.setCell (p := ⟨b, 0, none⟩) (fun h => absurd h (Nat.not_lt.2 hb)) x).setCell (p := ⟨b, 1, none⟩) (fun h => absurd h (Nat.not_lt.2 hb)) y
/-- What a call that makes a list answers: the list's runs, new memory. -/
def Made1 (L : List R) (w : World) (v : Value) (w' : World) : Prop := ∃ A n c, v = .slice A n c ∧ Rs w' A n L ∧ n ≤ c ∧ ((A = none → c = 0) ∧ ∀ ad, A = some ad → w.heap.size ≤ ad.block) ∧ Kept Old w w'
theorem made_end {L : List R} {w w' : World} {B n : Nat} {v : Value} (h : Ow w' B v n L) (K : Kept Old w w') (hB : w.heap.size ≤ B := by first | exact Nat.le_refl _ | omega) : Made1 L w v w' := by
  have ow := h.own
  obtain ⟨A, c, rfl, r, h1, h2⟩ := h.rs
  refine ⟨A, n, c, rfl, r, h1, ⟨h2, fun ad e => ?_⟩, K⟩
  rcases h.row.2 with ⟨e', _⟩ | ⟨g, cap, cur, e', hb, _⟩
  · injection e' with e1
    rw [e] at e1
    cases e1
  · injection e' with e1
    rw [e] at e1
    injection e1 with e1
    subst e1
    exact Nat.le_trans hB hb
theorem Made1.drew {L : List R} {w w' : World} {v : Value} (h : Made1 L w v w') : Made1 L w v w'.drew := by
  obtain ⟨A, n, c, h1, r, h2, h3, K⟩ := h
  exact ⟨A, n, c, h1, r.drew, h2, h3, K.drew⟩
theorem Made1.drewN {L : List R} {w w' : World} {v : Value} (h : Made1 L w v w') (k : Nat) : Made1 L w v (w'.drewN k) := by
  obtain ⟨A, n, c, h1, r, h2, h3, K⟩ := h
  exact ⟨A, n, c, h1, ⟨r.len, r.fit, r.lies⟩, h2, h3, K.drewN k⟩
end Go.Proofs.YtcndilpaijapkaaGreat.Bg
/- append of large stacks, step by step, in a region that draws its order: onto an empty literal, of one span, of a cut. Own work; no program is walked here. -/
namespace Go.Proofs.YtcndilpaijapkaaGreat.Bg
open Go.ChangeShapes Go.WideShapes Go.ChangeAt Go.RowKit

theorem Blk.emp {w : World} {X Y : Nat} {T : TypeId} {y : R} (h : Blk w X T []) (b : Bx w Y y) : X ≠ Y := by
  rintro rfl
  have h1 := Blk.cell h 0
  have h2 := b.c0
  rw [h1] at h2
  cases h2
theorem Ow.ofEmpty {w : World} {B X : Nat} (hb : B ≤ X) (h : Blk w X 113 []) : Ow w B (.slice (some ⟨X, 0, none⟩) 0 0) 0 [] :=
  ⟨⟨rfl, .inr ⟨X, 0, #[], rfl, hb, h, Nat.le_refl _, Nat.zero_le _, rfl, rfl⟩⟩, fun _ h => by cases h⟩
theorem Ow.stepB {w0 w w' : World} {B : Nat} {v : Value} {n : Nat} {l : List R} (h : Ow w B v n l) (hB : w0.heap.size ≤ B) (K : Kept Old w0 w) (k : Kept (fun k => some k = v.ownBlock) w w') : Kept Old w0 w' :=
  K.join k fun i hi e => by have := (h.own i e).1; omega
theorem Ow.box {w w' : World} {b : Nat} {v : Value} {n : Nat} {l : List R} {x : R} (h : Ow w (b + 1) v n l) (k : Kept (fun k => some k = v.ownBlock) w w') (z : Bx w b x) : Bx w' b x :=
  Blk.kept z k fun e => by have := (h.own b e).1; omega
theorem Bx.drew {w : World} {b : Nat} {x : R} (h : Bx w b x) : Bx w.drew b x := h
theorem Bx.drewN {w : World} {b : Nat} {x : R} (h : Bx w b x) (k : Nat) : Bx (w.drewN k) b x := h
theorem make_wp {ops : Array Oper} {rest : List Oper} {o : Oper} {a : Act} {Q : Exit → Act → World → Prop} {w : World} (hg : o.guard = none) (lo hi : Operand) (hop : o.op = Op.makeSlice 84 lo hi) (B n : Nat) (X : Int) (hl : a.eval lo = .int .i64 0) (hc : a.eval hi = .int .i64 X) (hX : X = (n : Int)) (hn : n ≤ 3000) (hb : B ≤ w.heap.size)
    (go : ∀ w', Hid (Ow w' B (.slice (some ⟨w.heap.size, 0, none⟩) 0 n) 0 []) → Hid (Kept Old w w') → wpList Tryz.prog ops Q rest (a.put o.dst (.slice (some ⟨w.heap.size, 0, none⟩) 0 n)) w') : wpList Tryz.prog ops Q (o :: rest) a w := by
  subst hX
  refine wpList_plain hg fun K hK => ?_
  obtain ⟨w', hrun, r1, r2⟩ := make_runs w B n hn hb
  unfold Oper.wp
  simp [execOp, hop, hl, hc, hrun, Result.andThen]
  exact hK _ _ (go w' r1 r2)
theorem Rs.dropTo {w : World} {A : Option Addr} {g o n m : Nat} {l : List R} (h : Rs w (some ⟨g, o, none⟩) n l) (i : Nat) (hm : n - i = m) (hA : i < n → A = some ⟨g, o + i * 2, none⟩) : Rs w A m (l.drop i) := by
  subst hm
  exact h.drop A hA
/-- append onto an empty literal. -/
theorem em_step {ops : Array Oper} {o : Oper} {a : Act} {K : Act → World → Prop} {Q : Exit → Act → World → Prop} {E : Prop} {w W : World} (hgd : o.guard = none) (s x : Operand)
    (ho : o.op = .call { callee := .builtin .append, args := #[s, x], argTypes := #[84, 84] }) (hty : o.type = 84)
    (A : Option Addr) (m c : Nat) (news : List R) (hx : a.eval x = .slice A m c) (HR : Rs W A m news) (hA : A = none → m = 0 ∧ c = 0) (hm : m ≤ 1000)
    (KW : Kept Old W w) (hs : ∃ X, a.eval s = .slice (some ⟨X, 0, none⟩) 0 0 ∧ Blk w X 113 [] ∧ W.heap.size ≤ X)
    (go : ∀ v' w', Hid (Ow w' W.heap.size v' m news) → Hid (Kept Old W w') → Hid (∀ Y y, Bx w Y y → Bx w' Y y) → K (a.put o.dst v') w') :
    if Region.wanted o (yielded ops a.tmps) = true then Oper.wp Tryz.prog o a w K Q else E := by
  obtain ⟨X, hX, bX, hl⟩ := hs
  have O : Ow w W.heap.size (.slice (some ⟨X, 0, none⟩) 0 0) 0 [] := Ow.ofEmpty hl bX
  refine app_step (w := w) hgd s x ho hty W.heap.size _ 0 [] hX O A m c news hx (HR.old KW) hA (by omega) hm KW.size _ (Nat.zero_add _) _ (List.nil_append _) ?_
  intro v' w' h1 h2 _
  have k := O.step KW h2.out
  refine go v' w' h1 (Lib.hid k) (Lib.hid fun Y y h => ?_)
  exact Blk.kept h h2.out (fun e => Blk.emp bX h (by simpa [Value.ownBlock] using e.symm))
/-- append of one stack. -/
theorem one_step {ops : Array Oper} {o : Oper} {a : Act} {K : Act → World → Prop} {Q : Exit → Act → World → Prop} {E : Prop} {w W : World} (hgd : o.guard = none) (s x : Operand)
    (ho : o.op = .call { callee := .builtin .append, args := #[s, x], argTypes := #[84, 84] }) (hty : o.type = 84)
    (v : Value) (n : Nat) (l : List R) (hs : a.eval s = v) (y : R) (hf : in64 y.1 ∧ in64 y.2) (hn : n ≤ 1000) (O : Ow w W.heap.size v n l) (KW : Kept Old W w) (hx : ∃ Y, a.eval x = .slice (some ⟨Y, 0, none⟩) 1 1 ∧ Bx w Y y)
    (go : ∀ v' w', Hid (Ow w' W.heap.size v' (n + 1) (l ++ [y])) → Hid (Kept Old W w') → K (a.put o.dst v') w') :
    if Region.wanted o (yielded ops a.tmps) = true then Oper.wp Tryz.prog o a w K Q else E := by
  obtain ⟨Y, hY, bY⟩ := hx
  have r : Rs w (some ⟨Y, 0, none⟩) 1 [y] := ⟨rfl, fun z hz => by obtain rfl := List.mem_singleton.1 hz; exact hf, fun _ => ⟨Y, 0, rfl, Blk.lt bY, fun j z hz => by
    have hj := (List.getElem?_eq_some_iff.1 hz).1
    obtain rfl : j = 0 := by simpa using hj
    simp only [List.getElem?_cons_zero, Option.some.injEq] at hz
    subst hz
    exact ⟨bY.c0, bY.c1⟩⟩⟩
  refine app_step (w := w) hgd s x ho hty W.heap.size v n l hs O _ 1 1 [y] hY r (fun h => by cases h) hn (by omega) KW.size _ rfl _ rfl ?_
  intro v' w' h1 h2 _
  exact go v' w' h1 (Lib.hid (O.step KW h2.out))
/-- append of a list that was there. -/
theorem cut_step {ops : Array Oper} {o : Oper} {a : Act} {K : Act → World → Prop} {Q : Exit → Act → World → Prop} {E : Prop} {w W : World} (hgd : o.guard = none) (s x : Operand)
    (ho : o.op = .call { callee := .builtin .append, args := #[s, x], argTypes := #[84, 84] }) (hty : o.type = 84)
    (v : Value) (n : Nat) (l : List R) (hs : a.eval s = v) (A : Option Addr) (m c : Nat) (news : List R) (hx : a.eval x = .slice A m c) (HR : Rs W A m news) (hA : A = none → m = 0 ∧ c = 0) (hn : n ≤ 1000) (hm : m ≤ 1000) (O : Ow w W.heap.size v n l) (KW : Kept Old W w)
    (go : ∀ A' c' w', Hid (Ow w' W.heap.size (.slice A' (n + m) c') (n + m) (l ++ news)) → Hid (Kept Old W w') → K (a.put o.dst (.slice A' (n + m) c')) w') :
    if Region.wanted o (yielded ops a.tmps) = true then Oper.wp Tryz.prog o a w K Q else E := by
  refine app_step (w := w) hgd s x ho hty W.heap.size v n l hs O A m c news hx (HR.old KW) hA hn hm KW.size _ rfl _ rfl ?_
  intro v' w' h1 h2 _
  obtain ⟨A', c', rfl, _⟩ := h1.out.rs
  exact go A' c' w' h1 (Lib.hid (O.step KW h2.out))
/-- The end of a list, cut off. -/
theorem Rs.tail {w : World} {A : Option Addr} {n : Nat} {l : List R} (h : Rs w A n l) {i : Nat} (A' : Option Addr) (hA : ∀ g o, A = some ⟨g, o, none⟩ → i < n → A' = some ⟨g, o + i * 2, none⟩) : Rs w A' (n - i) (l.drop i) :=
  ⟨by have := h.len; simp; omega, fun x hx => h.fit x (List.mem_of_mem_drop hx), fun h0 => by
    obtain ⟨g, o, e, hg, c⟩ := h.lies (by omega)
    refine ⟨g, o + i * 2, hA g o e (by omega), hg, fun j x hx => ?_⟩
    rw [List.getElem?_drop] at hx
    have := c (i + j) x hx
    rw [show o + i * 2 + j * 2 = o + (i + j) * 2 by omega]
    exact this⟩
/-- What is owned, whole. -/
theorem Ow.at {w : World} {B n c : Nat} {A : Option Addr} {l : List R} (h : Ow w B (.slice A n c) n l) : ((A = none ∧ c = 0) ∨ ∃ g o, A = some ⟨g, o, none⟩) ∧ n ≤ c ∧ Rs w A n l ∧ ∀ ad, A = some ad → B ≤ ad.block ∧ ad.block < w.heap.size := by
  obtain ⟨A', c', e, r, h1, h2⟩ := h.rs
  injection e with e1 e2 e3
  subst e1
  subst e3
  refine ⟨?_, h1, r, fun ad e => by subst e; exact h.own ad.block rfl⟩
  rcases h.row.2 with ⟨e, _⟩ | ⟨g, cap, cur, e, _⟩
  · injection e with e1 e2
    exact .inl ⟨e1, h2 e1⟩
  · injection e with e1 e2
    exact .inr ⟨g, 0, e1⟩
theorem cell_on {w w' : World} (k : Kept Old w w') {p : Addr} {v : Value} (h : w.cell? p = some v) : w'.cell? p = some v := (k.cell (block_lt_of_cell h) (fun x => x)).trans h
theorem Rs.alloc {w : World} {A : Option Addr} {n : Nat} {l : List R} (h : Rs w A n l) (o : Obj) : Rs (w.alloc o) A n l := h.old ((Kept.refl _ _).alloc o)
theorem Made1.of_nil {w w' : World} (k : Kept Old w w') : Made1 [] w (.slice none 0 0) w' := ⟨none, 0, 0, rfl, Rs.nil _ _, Nat.le_refl _, ⟨fun _ => rfl, fun _ h => by cases h⟩, k⟩
theorem Made1.old {L : List R} {w w1 w2 : World} {v : Value} (h : Made1 L w v w1) (k : Kept Old w1 w2) : Made1 L w v w2 := by
  obtain ⟨A, n, c, h1, r, h2, h3, K⟩ := h
  exact ⟨A, n, c, h1, r.old k, h2, h3, K.trans k⟩
theorem Made1.from {L : List R} {w w1 w2 : World} {v : Value} (h : Made1 L w1 v w2) (k : Kept Old w w1) : Made1 L w v w2 := by
  obtain ⟨A, n, c, h1, r, h2, h3, K⟩ := h
  exact ⟨A, n, c, h1, r, h2, ⟨h3.1, fun ad e => Nat.le_trans k.size (h3.2 ad e)⟩, k.trans K⟩
end Go.Proofs.YtcndilpaijapkaaGreat.Bg
/- What the small functions of package large, and the document's own of large stacks, answer: which stack is valid, which stands ahead, whether two have a word in common, how many words a list has, whether two lists are alike. Own work; each is proved by a walk through the landed text. -/
namespace Go.Proofs.YtcndilpaijapkaaGreat.Bg
open Go.ChangeShapes Go.WideShapes Go.ChangeAt Go.RowKit
set_option maxRecDepth 100000

theorem ahead_ways (a b : R) : (a.2 < b.2 ∧ aheadB a b = true) ∨ (¬ a.2 < b.2 ∧ (a.2 == b.2) = true ∧ aheadB a b = decide (a.1 < b.1)) ∨ (¬ a.2 < b.2 ∧ (a.2 == b.2) = false ∧ aheadB a b = false) := by
  unfold aheadB
  by_cases h : a.2 < b.2
  · exact .inl ⟨h, decide_eq_true (.inl h)⟩
  · by_cases e : a.2 = b.2
    · exact .inr (.inl ⟨h, by simp [e], decide_eq_decide.2 (by omega)⟩)
    · exact .inr (.inr ⟨h, beq_eq_false_iff_ne.2 e, decide_eq_false (by omega)⟩)
theorem before_any (a b : R) (w : World) : Calls Tryz.prog 159 #[run a, run b] w fun e w' => e = .returned (.bool (aheadB a b)) ∧ Kept Old w w' := by
  rcases ahead_ways a b with ⟨h, e⟩ | ⟨h, h1, e⟩ | ⟨h, h1, e⟩
  all_goals
    rw [e]
    clear e
    go_enter Tryz.func159, Tryz.ntmps159
    go_wp2
    go_ret
    exact ⟨rfl, ((Kept.refl Old w).alloc _).alloc _⟩
theorem rahead_any (a b : R) (w : World) : Calls Tryz.prog 103 #[run a, run b] w fun e w' => e = .returned (.bool (aheadB a b)) ∧ Kept Old w w' := by
  have ne : (a.2 != b.2) = !(a.2 == b.2) := rfl
  rcases ahead_ways a b with ⟨h, e⟩ | ⟨h, h1, e⟩ | ⟨h, h1, e⟩
  · have h1 : (a.2 == b.2) = false := beq_eq_false_iff_ne.2 (by omega)
    rw [h1] at ne
    rw [e]
    clear e
    go_enter Tryz.func103, Tryz.ntmps103
    go_wp2
    go_ret
    exact ⟨rfl, ((Kept.refl Old w).alloc _).alloc _⟩
  · rw [h1] at ne
    rw [e]
    clear e
    go_enter Tryz.func103, Tryz.ntmps103
    go_wp2
    go_ret
    exact ⟨rfl, ((Kept.refl Old w).alloc _).alloc _⟩
  · rw [h1] at ne
    rw [e]
    clear e
    go_enter Tryz.func103, Tryz.ntmps103
    go_wp2
    go_ret
    exact ⟨rfl, ((Kept.refl Old w).alloc _).alloc _⟩
/-- Whether a stack is valid, by its class and then its address. -/
theorem may_ways (b : R) : ((b.2 < 4 ∨ 7 < b.2) ∧ mayB b = false) ∨ (4 ≤ b.2 ∧ b.2 ≤ 7 ∧ b.1 < 0 ∧ mayB b = false) ∨ (4 ≤ b.2 ∧ b.2 ≤ 7 ∧ 0 ≤ b.1 ∧ ¬ b.1 % 64 = 0 ∧ mayB b = false) ∨ (4 ≤ b.2 ∧ b.2 ≤ 7 ∧ 0 ≤ b.1 ∧ b.1 % 64 = 0 ∧ mayB b = decide (b.1 ≤ 16384 - wordsI b.2)) := by
  unfold mayB
  by_cases h : b.2 < 4 ∨ 7 < b.2
  · exact .inl ⟨h, decide_eq_false (by omega)⟩
  · by_cases h1 : b.1 < 0
    · exact .inr (.inl ⟨by omega, by omega, h1, decide_eq_false (by omega)⟩)
    · by_cases h2 : b.1 % 64 = 0
      · exact .inr (.inr (.inr ⟨by omega, by omega, by omega, h2, decide_eq_decide.2 (by omega)⟩))
      · exact .inr (.inr (.inl ⟨by omega, by omega, by omega, h2, decide_eq_false (by omega)⟩))
theorem wordsI_eq0 (c : Int) (h : 4 ≤ c) (h1 : c ≤ 7) : (wordsI c == 0) = false := beq_eq_false_iff_ne.2 (by have := words_large h h1; omega)
theorem lies_any (b : R) (w : World) (hb : in64 b.1 ∧ in64 b.2) : Calls Tryz.prog 157 #[run b] w fun e w' => e = .returned (.bool (mayB b)) ∧ Kept Old w w' := by
  obtain ⟨⟨i1, i2⟩, i3, i4⟩ := hb
  rcases may_ways b with ⟨h, e⟩ | ⟨h, h1, h2, e⟩ | ⟨h, h1, h2, h3, e⟩ | ⟨h, h1, h2, h3, e⟩
  · rw [e]
    clear e
    by_cases d : b.2 < 0 ∨ 7 < b.2
    · have z := wordsI_out b.2 d
      have z1 : (wordsI b.2 == 0) = true := by rw [z]; rfl
      have z := Lib.hid z
      go_enter Tryz.func157, Tryz.ntmps157
      go_wp2_with (go_at_call 91; refine (words_any _ _).mono ?_; rintro e w' ⟨rfl, rfl⟩)
      go_ret
      exact ⟨rfl, (Kept.refl Old w).alloc _⟩
    · have d1 : smallB b.2 = true := smallB_in _ (by omega) (by omega)
      have z1 : (wordsI b.2 == 0) = false := by
        rcases cls_ways b.2 with q | q | q | q | q | q | q | q | q
        · omega
        all_goals (rw [q]; decide)
      go_enter Tryz.func157, Tryz.ntmps157
      go_wp2_with (first | (go_at_call 91; refine (words_any _ _).mono ?_; rintro e w' ⟨rfl, rfl⟩) | (go_at_call 68; refine (small_any _ _).mono ?_; rintro e w' ⟨rfl, rfl⟩))
      go_ret
      exact ⟨rfl, (Kept.refl Old w).alloc _⟩
  all_goals
    have z1 := wordsI_eq0 b.2 h h1
    have d1 : smallB b.2 = false := smallB_out _ (by omega)
    have wl := words_large h h1
    rw [e]
    clear e
  · have h2' : decide (0 ≤ b.1) = false := decide_eq_false (by omega)
    go_enter Tryz.func157, Tryz.ntmps157
    go_wp2_with (first | (go_at_call 91; refine (words_any _ _).mono ?_; rintro e w' ⟨rfl, rfl⟩) | (go_at_call 68; refine (small_any _ _).mono ?_; rintro e w' ⟨rfl, rfl⟩))
    go_ret
    exact ⟨rfl, (Kept.refl Old w).alloc _⟩
  · have h4 : (b.1 % 64 == 0) = false := beq_eq_false_iff_ne.2 h3
    go_enter Tryz.func157, Tryz.ntmps157
    go_wp2_with (first | (go_at_call 91; refine (words_any _ _).mono ?_; rintro e w' ⟨rfl, rfl⟩) | (go_at_call 68; refine (small_any _ _).mono ?_; rintro e w' ⟨rfl, rfl⟩))
    go_ret
    exact ⟨rfl, (Kept.refl Old w).alloc _⟩
  · have h4 : (b.1 % 64 == 0) = true := by rw [h3]; rfl
    go_enter Tryz.func157, Tryz.ntmps157
    go_wp2_with (first | (go_at_call 91; refine (words_any _ _).mono ?_; rintro e w' ⟨rfl, rfl⟩) | (go_at_call 68; refine (small_any _ _).mono ?_; rintro e w' ⟨rfl, rfl⟩))
    go_ret
    exact ⟨rfl, (Kept.refl Old w).alloc _⟩
end Go.Proofs.YtcndilpaijapkaaGreat.Bg
/- Whether two large stacks have a word in common, by the program and by the document; which is valid by the document. Own work; each is proved by a walk through the landed text. -/
namespace Go.Proofs.YtcndilpaijapkaaGreat.Bg
open Go.ChangeShapes Go.WideShapes Go.ChangeAt Go.RowKit
set_option maxRecDepth 100000

theorem in_reach (a n : Int) (w : World) (h0 : 0 ≤ a) (h1 : a ≤ 16384) (h2 : 1 ≤ n) (h3 : n ≤ 4096) : Calls Tryz.prog 199 #[.int .i64 a, .int .i64 n] w fun e w' => e = .returned (.bool true) ∧ w = w' := by
  go_enter Tryz.func199, Tryz.ntmps199
  go_wp2
  go_ret
  refine ⟨retS_bool ?_, rfl⟩
  exact decide_eq_true (by omega)
theorem hit_ways (a n b m : Int) : (a < b + m ∧ decide (a < b + m ∧ b < a + n) = decide (b < a + n)) ∨ (¬ a < b + m ∧ decide (a < b + m ∧ b < a + n) = false) := by
  by_cases h : a < b + m
  · exact .inl ⟨h, decide_eq_decide.2 (by omega)⟩
  · exact .inr ⟨h, decide_eq_false (by omega)⟩
/-- num.Over of places in the arena. -/
theorem nover_any (a n b m : Int) (w : World) (h0 : 0 ≤ a) (h1 : a ≤ 16384) (h2 : 1 ≤ n) (h3 : n ≤ 4096) (g0 : 0 ≤ b) (g1 : b ≤ 16384) (g2 : 1 ≤ m) (g3 : m ≤ 4096) :
    Calls Tryz.prog 187 #[.int .i64 a, .int .i64 n, .int .i64 b, .int .i64 m] w fun e w' => e = .returned (.bool (decide (a < b + m ∧ b < a + n))) ∧ w = w' := by
  rcases hit_ways a n b m with ⟨h, e⟩ | ⟨h, e⟩
  all_goals
    rw [e]
    clear e
    go_enter Tryz.func187, Tryz.ntmps187
    go_wp2_with (go_at_call 199; refine (in_reach _ _ _ (by omega) (by omega) (by omega) (by omega)).mono ?_; rintro e w' ⟨rfl, rfl⟩)
    go_ret
    exact ⟨rfl, rfl⟩
theorem rover_any (a n b m : Int) (w : World) (h0 : 0 ≤ a) (h1 : a ≤ 16384) (h2 : 1 ≤ n) (h3 : n ≤ 4096) (g0 : 0 ≤ b) (g1 : b ≤ 16384) (g2 : 1 ≤ m) (g3 : m ≤ 4096) :
    Calls Tryz.prog 41 #[.int .i64 a, .int .i64 n, .int .i64 b, .int .i64 m] w fun e w' => e = .returned (.bool (decide (a < b + m ∧ b < a + n))) ∧ w = w' := by
  rcases hit_ways a n b m with ⟨h, e⟩ | ⟨h, e⟩
  all_goals
    rw [e]
    clear e
    go_enter Tryz.func41, Tryz.ntmps41
    go_wp2
    go_ret
    exact ⟨rfl, rfl⟩
theorem rmay_any (b : R) (w : World) (hb : in64 b.1 ∧ in64 b.2) : Calls Tryz.prog 101 #[run b] w fun e w' => e = .returned (.bool (mayB b)) ∧ Kept Old w w' := by
  obtain ⟨⟨i1, i2⟩, i3, i4⟩ := hb
  rcases may_ways b with ⟨h, e⟩ | ⟨h, h1, h2, e⟩ | ⟨h, h1, h2, h3, e⟩ | ⟨h, h1, h2, h3, e⟩
  · rw [e]
    clear e
    rcases h with h | h
    · go_enter Tryz.func101, Tryz.ntmps101
      go_wp2
      go_ret
      exact ⟨rfl, (Kept.refl Old w).alloc _⟩
    · have h' : ¬ b.2 < 4 := by omega
      go_enter Tryz.func101, Tryz.ntmps101
      go_wp2
      go_ret
      exact ⟨rfl, (Kept.refl Old w).alloc _⟩
  all_goals
    have wl := words_large h h1
  · rw [e]
    clear e
    go_enter Tryz.func101, Tryz.ntmps101
    go_wp2
    go_ret
    exact ⟨rfl, (Kept.refl Old w).alloc _⟩
  · rw [e]
    clear e
    have h4 : (b.1 % 64 != 0) = true := by simpa using h3
    go_enter Tryz.func101, Tryz.ntmps101
    go_wp2
    go_ret
    exact ⟨rfl, (Kept.refl Old w).alloc _⟩
  · have h4 : (b.1 % 64 != 0) = false := by simp [h3]
    by_cases d : b.1 ≤ 16384
    · have d1 : decide (b.1 ≤ 16384) = true := decide_eq_true d
      rw [e, show decide (b.1 ≤ 16384 - wordsI b.2) = decide (wordsI b.2 ≤ 16384 - b.1) from decide_eq_decide.2 (by omega)]
      clear e
      go_enter Tryz.func101, Tryz.ntmps101
      go_wp2
      go_quiet (first | (go_at_call 40; exact Calls.quiet_of_same ((rwords_any _ _).mono fun e w' h => ⟨h.1, h.2.symm⟩)))
      go_wp2
      go_ret
      exact ⟨rfl, ((Kept.refl Old w).alloc _).drewN _⟩
    · have d1 : decide (b.1 ≤ 16384) = false := decide_eq_false d
      rw [e, decide_eq_false (by omega)]
      clear e
      go_enter Tryz.func101, Tryz.ntmps101
      go_wp2
      go_quiet (fail)
      go_wp2
      go_ret
      exact ⟨rfl, ((Kept.refl Old w).alloc _).drewN _⟩
theorem rover_big (a b : R) (w : World) (ha : mayB a = true) (hb : mayB b = true) : Calls Tryz.prog 102 #[run a, run b] w fun e w' => e = .returned (.bool (hitB a b)) ∧ Kept Old w w' := by
  have ma := may_of ha
  have mb := may_of hb
  have o := Lib.hid (fun W => rover_any a.1 (wordsI a.2) b.1 (wordsI b.2) W ma.a0 (by have := ma.fit; have := ma.w0; omega) (by have := ma.w0; omega) ma.w1 mb.a0 (by have := mb.fit; have := mb.w0; omega) (by have := mb.w0; omega) mb.w1)
  clear ha hb ma mb
  go_enter Tryz.func102, Tryz.ntmps102
  go_wp2
  go_quiet (first | (go_at_call 40; exact Calls.quiet_of_same ((rwords_any _ _).mono fun e w' h => ⟨h.1, h.2.symm⟩)) | (go_at_call 41; exact Calls.quiet_of_same ((o.out _).mono fun e w' h => ⟨h.1, h.2.symm⟩)))
  go_wp2
  go_ret
  exact ⟨rfl, (((Kept.refl Old w).alloc _).alloc _).drewN _⟩
end Go.Proofs.YtcndilpaijapkaaGreat.Bg
/- Whether a stack has a word in common with one of a list; a list without one of its stacks; the words of a list; whether two lists are alike. Own work; each is proved by a walk through the landed text. -/
namespace Go.Proofs.YtcndilpaijapkaaGreat.Bg
open Go.ChangeShapes Go.WideShapes Go.ChangeAt Go.RowKit
set_option maxRecDepth 100000


/-- num.Over of two that are valid, where the answer is known. -/
theorem nover_lit {a b : R} {B : Bool} (h : hitB a b = B) (ha : mayB a = true) (hb : mayB b = true) (w : World) :
    Calls Tryz.prog 187 #[.int .i64 a.1, .int .i64 (wordsI a.2), .int .i64 b.1, .int .i64 (wordsI b.2)] w fun e w' => e = .returned (.bool B) ∧ w = w' := by
  subst h
  have ma := may_of ha
  have mb := may_of hb
  exact nover_any a.1 (wordsI a.2) b.1 (wordsI b.2) w ma.a0 (by have := ma.fit; have := ma.w0; omega) (by have := ma.w0; omega) ma.w1 mb.a0 (by have := mb.fit; have := mb.w0; omega) (by have := mb.w0; omega) mb.w1
set_option maxHeartbeats 1000000 in
theorem over_any (A : Option Addr) (n c : Nat) (l : List R) (b : R) (w : World) (h : Rs w A n l) (hm : ∀ x ∈ l, mayB x = true) (hb : mayB b = true) (hn : n ≤ 1000) : Calls Tryz.prog 158 #[.slice A n c, run b] w fun e w' => e = .returned (.bool (anyB l b)) ∧ Kept Old w w' := by
  have HR := Lib.hid h
  have HM := Lib.hid hm
  have HB := Lib.hid hb
  clear h hm hb
  go_enter Tryz.func158, Tryz.ntmps158
  go_wp2_with fail
  have K0 := Lib.hid ((Kept.refl Old w).alloc (.cells #[.int .i64 b.1, .int .i64 b.2] 113))
  have B0 := Lib.hid (Bx.new w b)
  generalize hs : w.heap.size = s at *
  go_loopw [9] (fun j wr => ∃ k : Nat, k ≤ n ∧ j = .int .i64 (k : Int) ∧ Hid (anyB (l.take k) b = false) ∧ Hid (Bx wr s b) ∧ Hid (Kept Old w wr)) (fun j _ => n - (intOf j).toNat)
  case atStart => exact ⟨0, by omega, rfl, Lib.hid rfl, B0, K0⟩
  case round =>
    obtain ⟨k, hk, rfl, HL, B, K⟩ := hrel
    rename World => W
    clear B0 K0
    by_cases d : k < n
    · obtain ⟨g, o, x, rfl, _, hx, f1, f2, c0, c1⟩ := (HR.out.old K.out).get d
      have hx' := Lib.hid hx
      have mx := Lib.hid (HM.out x (List.mem_of_getElem? hx))
      have b0 := B.out.c0
      have b1 := B.out.c1
      have bl := Blk.lt B.out
      clear hx
      cases q : hitB x b with
      | false =>
        have ov := Lib.hid (fun W => nover_lit q mx.out HB.out W)
        have L := Lib.hid (show anyB (l.take (k + 1)) b = false from by rw [any_take hx'.out, HL.out, q]; rfl)
        clear q
        go_wp2_with fail
        go_quiet (first | (go_at_call 91; exact Calls.quiet_of_same ((words_any _ _).mono fun e w' h => ⟨h.1, h.2.symm⟩)) | (go_at_call 187; exact Calls.quiet_of_same ((ov.out _).mono fun e w' h => ⟨h.1, h.2.symm⟩)))
        go_wp2
        refine ⟨⟨k + 1, by omega, by go_num, L, Lib.hid ((B.out.alloc _).drewN _), Lib.hid ((K.out.alloc _).drewN _)⟩, ?_⟩
        simp [intOf]; omega
      | true =>
        have ov := Lib.hid (fun W => nover_lit q mx.out HB.out W)
        have L := Lib.hid (show anyB l b = true from any_true (List.mem_of_getElem? hx'.out) q)
        clear q
        go_wp2_with fail
        go_quiet (first | (go_at_call 91; exact Calls.quiet_of_same ((words_any _ _).mono fun e w' h => ⟨h.1, h.2.symm⟩)) | (go_at_call 187; exact Calls.quiet_of_same ((ov.out _).mono fun e w' h => ⟨h.1, h.2.symm⟩)))
        go_wp2
        go_ret
        exact ⟨by rw [L.out]; rfl, (K.out.alloc _).drewN _⟩
    · have L : anyB l b = false := by
        have := HL.out
        rwa [List.take_of_length_le (by have := HR.out.len; omega)] at this
      have L := Lib.hid L
      go_wp2
      go_ret
      exact ⟨by rw [L.out]; rfl, K.out⟩
end Go.Proofs.YtcndilpaijapkaaGreat.Bg
