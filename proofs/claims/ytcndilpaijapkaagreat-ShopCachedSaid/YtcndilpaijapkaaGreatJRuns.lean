/-
  Joined texts of Runs; own work.
-/
import Derived.Test.YtcndilpaijapkaaGreatRows
import Derived.WalkKit
import Derived.OwnWalk
import Derived.Maps.AppendAt
import Derived.Deep.AppendLies
import Derived.Deep.SlicePairs
import Derived.ProofKit
import Derived.OpenShut
import Derived.Outline
import Derived.Deep.Light
import Derived.Deep.QuietTactic
import Derived.BigQuiet
import Derived.IntWalk
import Derived.StillTailTactics
import Derived.RegionTactic
import Derived.Deep.RegionLaw
import Derived.ChangeAlike
import Derived.Deep.RegionHeld3
import Derived.WalkMore
import Derived.Deep.CutRange
import Derived.Test.YtcndilpaijapkaaGreatJBase
import Derived.Test.YtcndilpaijapkaaGreatJMath
/- A slice of runs that reads as a list of pairs (Rs), a run in a block (Bx), a slice of runs that the call itself made (Ow). Own work; no program is walked here. -/
namespace Go.Proofs.YtcndilpaijapkaaGreat
open Go.ChangeShapes Go.WideShapes Go.ChangeAt Go.RowKit

abbrev run (x : R) : Value := .agg #[.int .i64 x.1, .int .i64 x.2]
/-- A 64-bit integer. -/
def in64 (z : Int) : Prop := -9223372036854775808 ≤ z ∧ z ≤ 9223372036854775807
/-- The slice at A has n runs, those of l. -/
structure Rs (w : World) (A : Option Addr) (n : Nat) (l : List R) : Prop where
  len : l.length = n
  fit : ∀ x ∈ l, in64 x.1 ∧ in64 x.2
  lies : 0 < n → ∃ g o, A = some ⟨g, o, none⟩ ∧ g < w.heap.size ∧ ∀ (i : Nat) (x : R), l[i]? = some x → w.cell? ⟨g, o + i * 2, none⟩ = some (.int .i64 x.1) ∧ w.cell? ⟨g, o + i * 2 + 1, none⟩ = some (.int .i64 x.2)
theorem Rs.kept {D : Nat → Prop} {w w' : World} {A : Option Addr} {n : Nat} {l : List R} (h : Rs w A n l) (k : Kept D w w') (hd : ∀ ad, A = some ad → ¬ D ad.block) : Rs w' A n l :=
  ⟨h.len, h.fit, fun hn => by
    obtain ⟨g, o, rfl, hg, c⟩ := h.lies hn
    have hd' : ¬ D g := hd _ rfl
    exact ⟨g, o, rfl, Nat.lt_of_lt_of_le hg k.size, fun i x hx => ⟨(k.cell (p := ⟨g, o + i * 2, none⟩) hg hd').trans (c i x hx).1, (k.cell (p := ⟨g, o + i * 2 + 1, none⟩) hg hd').trans (c i x hx).2⟩⟩⟩
theorem Rs.old {w w' : World} {A : Option Addr} {n : Nat} {l : List R} (h : Rs w A n l) (k : Kept Old w w') : Rs w' A n l := h.kept k fun _ _ x => x
theorem Rs.nil (w : World) (A : Option Addr) : Rs w A 0 [] := ⟨rfl, fun _ h => (by cases h), fun h => absurd h (Nat.lt_irrefl 0)⟩
theorem Rs.get {w : World} {A : Option Addr} {n : Nat} {l : List R} (h : Rs w A n l) {k : Nat} (hk : k < n) : ∃ (g o : Nat) (x : R), A = some ⟨g, o, none⟩ ∧ g < w.heap.size ∧ l[k]? = some x ∧ in64 x.1 ∧ in64 x.2 ∧ w.cell? ⟨g, o + k * 2, none⟩ = some (.int .i64 x.1) ∧ w.cell? ⟨g, o + k * 2 + 1, none⟩ = some (.int .i64 x.2) := by
  obtain ⟨g, o, rfl, hg, c⟩ := h.lies (by omega)
  have hl : k < l.length := by have := h.len; omega
  have e : l[k]? = some l[k] := List.getElem?_eq_getElem hl
  have f := h.fit _ (List.getElem_mem hl)
  exact ⟨g, o, l[k], rfl, hg, e, f.1, f.2, (c k _ e).1, (c k _ e).2⟩
theorem get_len {w : World} {A : Option Addr} {n : Nat} {l : List R} (h : Rs w A n l) {k : Nat} {x : R} (hx : l[k]? = some x) : k < n := by
  have := (List.getElem?_eq_some_iff.1 hx).1
  have := h.len
  omega

/-- A slice of runs that came in. -/
theorem pairs_in {H : Type} {enc : TypeId × Value → H} {w : World} {a : Option Addr} {len cap : Nat} {d : DataW H} {p : List MemPlace}
    (h : DataW.Trod enc Tryz.prog w 0 (fun _ => true) true 92 (.slice a len cap) d p) : ∃ l : List R, len ≤ cap ∧ cap ≤ maxLen ∧ (a = none → cap = 0) ∧ Rs w a len l := by
  obtain ⟨fuel, hf⟩ := h
  rcases Deep.open_slice_pairs Tryz.underlying92 Tryz.underlying91 (by kernel_rfl) rfl rfl (by kernel_rfl) (by kernel_rfl) hf with ⟨hcs, _⟩ | ⟨x, l, c, m, n, V0, V1, D0, D1, P0, P1, hcs, _, hl, hm, hmm, _, hcell⟩
  · simp [Value.cells] at hcs
    obtain ⟨rfl, rfl, rfl⟩ := hcs
    exact ⟨[], Nat.le_refl _, Nat.zero_le _, fun _ => rfl, Rs.nil _ _⟩
  · simp [Value.cells] at hcs
    obtain ⟨rfl, rfl, rfl⟩ := hcs
    simp only [if_true] at hmm
    subst hmm
    have each : ∀ i, i < len → ∃ q : R, in64 q.1 ∧ in64 q.2 ∧ w.cell? (x.add (i * 2)) = some (.int .i64 q.1) ∧ w.cell? (x.add (i * 2 + 1)) = some (.int .i64 q.2) := by
      intro i hi
      obtain ⟨c0, c1, t0, t1⟩ := hcell i (by omega)
      obtain ⟨z0, e0, _, f0⟩ := DataW.trod_int Tryz.underlying3 t0
      obtain ⟨z1, e1, _, f1⟩ := DataW.trod_int Tryz.underlying3 t1
      rw [List.head_eq_of_cons_eq e0] at c0
      rw [List.head_eq_of_cons_eq e1] at c1
      have b0 := bounds_i64 f0
      have b1 := bounds_i64 f1
      exact ⟨(z0, z1), ⟨by omega, by omega⟩, ⟨by omega, by omega⟩, c0, c1⟩
    obtain ⟨q, hq⟩ := Deep.choose_lt each
    refine ⟨(List.range len).map q, hl, hm, (fun h => by cases h), by simp, fun y hy => ?_, fun hn => ?_⟩
    · obtain ⟨i, hi, rfl⟩ := List.mem_map.1 hy
      have := hq i (List.mem_range.1 hi)
      exact ⟨this.1, this.2.1⟩
    · obtain ⟨b, o, s⟩ := x
      have c0 := (hq 0 (by omega)).2.2.1
      have hs : s = none := by simpa [Addr.add] using World.cell?_spot c0
      subst hs
      refine ⟨b, o, rfl, ?_, fun i y hy => ?_⟩
      · have := block_lt_of_cell c0
        rw [addr_add] at this
        exact this
      · have hi : i < len := by have := (List.getElem?_eq_some_iff.1 hy).1; simpa using this
        rw [List.getElem?_map, List.getElem?_range hi] at hy
        simp only [Option.map_some, Option.some.injEq] at hy
        subst hy
        have := hq i hi
        rw [addr_add, addr_add] at this
        exact ⟨this.2.2.1, this.2.2.2⟩

/-! ### A run in a block -/
def Bx (w : World) (b : Nat) (x : R) : Prop := Blk w b 91 [.int .i64 x.1, .int .i64 x.2]
theorem Bx.c0 {w : World} {b : Nat} {x : R} (h : Bx w b x) : w.cell? ⟨b, 0, none⟩ = some (.int .i64 x.1) := Blk.cell h 0
theorem Bx.c1 {w : World} {b : Nat} {x : R} (h : Bx w b x) : w.cell? ⟨b, 1, none⟩ = some (.int .i64 x.2) := Blk.cell h 1
theorem Bx.new (w : World) (x : R) : Bx (w.alloc (.cells #[.int .i64 x.1, .int .i64 x.2] 91)) w.heap.size x := Blk.new w _ _
theorem Bx.old {w w' : World} {b : Nat} {x : R} (h : Bx w b x) (k : Kept Old w w') : Bx w' b x := Blk.kept h k (fun x => x)
theorem Bx.alloc {w : World} {b : Nat} {x : R} (h : Bx w b x) (o : Obj) : Bx (w.alloc o) b x := Blk.alloc h o
theorem Bx.put2 {w : World} {b : Nat} {x : R} (h : Bx w b x) (y z : Int) : Bx ((w.setCell ⟨b, 0, none⟩ (.int .i64 y)).setCell ⟨b, 1, none⟩ (.int .i64 z)) b (y, z) := (Blk.put h 0 (.int .i64 y)).put 1 (.int .i64 z)

/-! ### A slice that the call itself made -/
/-- Runs as cells. -/
def C : List R → List Value
  | [] => []
  | x :: t => .int .i64 x.1 :: .int .i64 x.2 :: C t
theorem C_length (l : List R) : (C l).length = l.length * 2 := by
  induction l with
  | nil => rfl
  | cons x t ih => simp only [C, List.length_cons, ih]; omega
theorem C_append (a b : List R) : C (a ++ b) = C a ++ C b := by
  induction a with
  | nil => rfl
  | cons x t ih => simp only [List.cons_append, C, ih]
theorem C_one (l : List R) : ∀ u ∈ C l, u.oneCell' = true := by
  induction l with
  | nil => intro u hu; cases hu
  | cons x t ih =>
    intro u hu
    simp only [C, List.mem_cons] at hu
    rcases hu with rfl | rfl | hu
    · rfl
    · rfl
    · exact ih u hu
theorem C_get (l : List R) (i : Nat) (x : R) (h : l[i]? = some x) : (C l)[i * 2]? = some (.int .i64 x.1) ∧ (C l)[i * 2 + 1]? = some (.int .i64 x.2) := by
  induction l generalizing i with
  | nil => cases h
  | cons y t ih =>
    cases i with
    | zero => simp only [List.getElem?_cons_zero, Option.some.injEq] at h; subst h; exact ⟨rfl, rfl⟩
    | succ i =>
      have := ih i (by simpa using h)
      rw [show (i + 1) * 2 = i * 2 + 1 + 1 by omega]
      simpa [C] using this
theorem C_at (l : List R) (j : Nat) (u : Value) (h : (C l)[j]? = some u) : ∃ i x, l[i]? = some x ∧ ((j = i * 2 ∧ u = .int .i64 x.1) ∨ (j = i * 2 + 1 ∧ u = .int .i64 x.2)) := by
  have hj : j < (C l).length := (List.getElem?_eq_some_iff.1 h).1
  rw [C_length] at hj
  have hi : j / 2 < l.length := by omega
  have e : l[j / 2]? = some l[j / 2] := List.getElem?_eq_getElem hi
  have g := C_get l (j / 2) _ e
  refine ⟨j / 2, _, e, ?_⟩
  rcases Nat.mod_two_eq_zero_or_one j with m | m
  · left
    have : j = j / 2 * 2 := by omega
    refine ⟨this, ?_⟩
    rw [← this] at g
    rw [g.1] at h
    exact (Option.some.inj h).symm
  · right
    have : j = j / 2 * 2 + 1 := by omega
    refine ⟨this, ?_⟩
    rw [← this] at g
    rw [g.2] at h
    exact (Option.some.inj h).symm
/-- The slice value v is n runs, those of l, in blocks from B on (or nil). -/
structure Ow (w : World) (B : Nat) (v : Value) (n : Nat) (l : List R) : Prop where
  row : w.ownsRow B 91 2 v n (C l)
  fit : ∀ x ∈ l, in64 x.1 ∧ in64 x.2
theorem Ow.len {w : World} {B : Nat} {v : Value} {n : Nat} {l : List R} (h : Ow w B v n l) : l.length = n := by
  have := h.row.1
  rw [C_length] at this
  omega
theorem Ow.rs {w : World} {B : Nat} {v : Value} {n : Nat} {l : List R} (h : Ow w B v n l) : ∃ A c, v = .slice A n c ∧ Rs w A n l ∧ n ≤ c ∧ (A = none → c = 0) := by
  have hlen := h.len
  rcases h.row.2 with ⟨rfl, rfl⟩ | ⟨g, cap, cur, rfl, hb, hg, hn, hm, hs, ht⟩
  · obtain rfl : l = [] := List.eq_nil_of_length_eq_zero hlen
    exact ⟨none, 0, rfl, Rs.nil _ _, Nat.le_refl _, fun _ => rfl⟩
  · refine ⟨_, cap, rfl, ⟨hlen, h.fit, fun _ => ⟨g, 0, rfl, (Array.getElem?_eq_some_iff.1 hg).1, fun i x hx => ?_⟩⟩, hn, fun h => by cases h⟩
    have hi := (List.getElem?_eq_some_iff.1 hx).1
    have gx := C_get l i x hx
    rw [← ht, List.getElem?_take, List.getElem?_take, if_pos (by omega), if_pos (by omega)] at gx
    rw [Nat.zero_add, cell_of_row w g _ cur 91 (0, 0) hg, cell_of_row w g _ cur 91 (0, 0) hg]
    simpa using gx
theorem Ow.kept {D : Nat → Prop} {w w' : World} {B : Nat} {v : Value} {n : Nat} {l : List R} (h : Ow w B v n l) (k : Kept D w w') (hd : ∀ g, B ≤ g → ¬ D g) : Ow w' B v n l := by
  refine ⟨⟨h.row.1, ?_⟩, h.fit⟩
  rcases h.row.2 with hn | ⟨g, cap, cur, rfl, hb, hg, rest⟩
  · exact .inl hn
  · refine .inr ⟨g, cap, cur, rfl, hb, ?_, rest⟩
    rw [k.block g (Array.getElem?_eq_some_iff.1 hg).1 (hd g hb)]
    exact hg
theorem Ow.old {w w' : World} {B : Nat} {v : Value} {n : Nat} {l : List R} (h : Ow w B v n l) (k : Kept Old w w') : Ow w' B v n l := h.kept k (fun _ _ x => x)
theorem Ow.alloc {w : World} {B : Nat} {v : Value} {n : Nat} {l : List R} (h : Ow w B v n l) (o : Obj) : Ow (w.alloc o) B v n l := ⟨h.row.alloc o, h.fit⟩
theorem Ow.nil (w : World) (B : Nat) : Ow w B (.slice none 0 0) 0 [] := ⟨World.ownsRow_nil _ _ _ _, fun _ h => by cases h⟩
theorem Ow.made (w : World) (B cap : Nat) (cur : Array Value) (hb : B ≤ w.heap.size) (hm : cap ≤ maxLen) (hs : cur.size = cap * 2) : Ow (w.alloc (.cells cur 91)) B (.slice (some ⟨w.heap.size, 0, none⟩) 0 cap) 0 [] :=
  ⟨World.ownsRow_made w cur cap hb hm hs, fun _ h => by cases h⟩
theorem Tryz.runInfo : (Tryz.prog.info? 91).map (fun i => (i.zero, i.size, i.bytes)) = some (some (.agg #[.int .i64 0, .int .i64 0]), 2, 16) := by kernel_rfl
theorem Rs.cells {w : World} {ad : Addr} {n : Nat} {l : List R} (h : Rs w (some ad) n l) : ∀ j u, (C l)[j]? = some u → w.cell? (ad.add j) = some u := by
  intro j u hu
  obtain ⟨i, x, hx, hju⟩ := C_at l j u hu
  obtain ⟨g, o, e, _, c⟩ := h.lies (Nat.lt_of_le_of_lt (Nat.zero_le _) (get_len h hx))
  injection e with e
  subst e
  rw [addr_add]
  rcases hju with ⟨rfl, rfl⟩ | ⟨rfl, rfl⟩
  · exact (c i x hx).1
  · exact (c i x hx).2
/-- append of the runs at A. -/
theorem app_own (w : World) (B : Nat) (v : Value) (n : Nat) (l : List R) (h : Ow w B v n l) (A : Option Addr) (m c : Nat) (news : List R) (hr : Rs w A m news) (hA : A = none → m = 0 ∧ c = 0) (hn : n ≤ 1000) (hm : m ≤ 1000) (hb : B ≤ w.heap.size) :
    ∃ v' w', (Builtin.append_ #[92, 92] 92 #[v, .slice A m c]).run Tryz.prog w = .ok v' w' ∧ Ow w' B v' (n + m) (l ++ news) ∧ Kept (fun k => some k = v.ownBlock) w w' ∧ (v'.ownBlock = v.ownBlock ∨ v'.ownBlock = some w.heap.size) := by
  obtain ⟨i0, hi, hz0, hz1, hz2⟩ := info_parts Tryz.runInfo
  cases A with
  | none =>
    obtain ⟨rfl, rfl⟩ := hA rfl
    obtain rfl : news = [] := List.eq_nil_of_length_eq_zero hr.len
    exact ⟨v, w, run_append_owned_none (P := Tryz.prog) (w := w) B 92 92 91 i0 2 Tryz.underlying92 hi v n (C l) h.row, by simpa using h, Kept.refl _ _, .inl rfl⟩
  | some ad =>
    obtain ⟨v', w', hrun, ho, hg, _, hat⟩ := run_append_own_at (P := Tryz.prog) w B 92 92 91 i0 _ 2 16 Tryz.underlying92 hi hz0 hz1 hz2 rfl (by omega) v n (C l) h.row ad m c (C news) (by rw [C_length, hr.len]) hr.cells (C_one news) (by simp only [maxLen]; omega) (by omega) hb
    rw [← C_append] at ho
    exact ⟨v', w', hrun, ⟨ho, fun x hx => (List.mem_append.1 hx).elim (h.fit x) (hr.fit x)⟩, Kept.grown (Kept.refl _ _) hg (fun g e _ => e.symm), hat⟩
theorem Ow.own {w : World} {B : Nat} {v : Value} {n : Nat} {l : List R} (h : Ow w B v n l) : ∀ k, some k = v.ownBlock → B ≤ k ∧ k < w.heap.size := fun k hk => h.row.lt k hk.symm
/-- The run stated at the operation. -/
theorem app_wp {ops : Array Oper} {rest : List Oper} {o : Oper} {a : Act} {Q : Exit → Act → World → Prop} {w : World} (hgd : o.guard = none) (s x : Operand)
    (ho : o.op = .call { callee := .builtin .append, args := #[s, x], argTypes := #[92, 92] }) (hty : o.type = 92)
    (B : Nat) (v : Value) (n : Nat) (l : List R) (hs : a.eval s = v) (h : Ow w B v n l) (A : Option Addr) (m c : Nat) (news : List R) (hx : a.eval x = .slice A m c) (hr : Rs w A m news) (hA : A = none → m = 0 ∧ c = 0) (hn : n ≤ 1000) (hm : m ≤ 1000) (hb : B ≤ w.heap.size) (N : Nat) (hN : n + m = N) (L : List R) (hL : l ++ news = L)
    (go : ∀ v' w', Hid (Ow w' B v' N L) → Hid (Kept (fun k => some k = v.ownBlock) w w') → Hid (v'.ownBlock = v.ownBlock ∨ v'.ownBlock = some w.heap.size) → wpList Tryz.prog ops Q rest (a.put o.dst v') w') : wpList Tryz.prog ops Q (o :: rest) a w := by
  subst hN
  subst hL
  refine wpList_plain hgd fun K hK => ?_
  obtain ⟨v', w', hrun, h2, h3, h4⟩ := app_own w B v n l h A m c news hr hA hn hm hb
  unfold Oper.wp execOp
  simp only [ho, hty, resolve, invoke, builtin, Sem.run_bind, Sem.run_pure, Result.andThen_ok, List.map_toArray, List.map_cons, List.map_nil, hs, hx, hrun]
  exact hK _ _ (go v' w' h2 h3 h4)
theorem app_step {ops : Array Oper} {o : Oper} {a : Act} {K : Act → World → Prop} {Q : Exit → Act → World → Prop} {E : Prop} {w : World} (hgd : o.guard = none) (s x : Operand)
    (ho : o.op = .call { callee := .builtin .append, args := #[s, x], argTypes := #[92, 92] }) (hty : o.type = 92)
    (B : Nat) (v : Value) (n : Nat) (l : List R) (hs : a.eval s = v) (h : Ow w B v n l) (A : Option Addr) (m c : Nat) (news : List R) (hx : a.eval x = .slice A m c) (hr : Rs w A m news) (hA : A = none → m = 0 ∧ c = 0) (hn : n ≤ 1000) (hm : m ≤ 1000) (hb : B ≤ w.heap.size) (N : Nat) (hN : n + m = N) (L : List R) (hL : l ++ news = L)
    (go : ∀ v' w', Hid (Ow w' B v' N L) → Hid (Kept (fun k => some k = v.ownBlock) w w') → Hid (v'.ownBlock = v.ownBlock ∨ v'.ownBlock = some w.heap.size) → K (a.put o.dst v') w') :
    if Region.wanted o (yielded ops a.tmps) = true then Oper.wp Tryz.prog o a w K Q else E := by
  subst hN
  subst hL
  have hw : Region.wanted o (yielded ops a.tmps) = true := by simp [Region.wanted, hgd]
  rw [if_pos hw]
  obtain ⟨v', w', hrun, h2, h3, h4⟩ := app_own w B v n l h A m c news hr hA hn hm hb
  unfold Oper.wp execOp
  simp only [ho, hty, resolve, invoke, builtin, Sem.run_bind, Sem.run_pure, Result.andThen_ok, List.map_toArray, List.map_cons, List.map_nil, hs, hx, hrun]
  exact go v' w' h2 h3 h4
/-! ### Cuts and makes -/
theorem Rs.take {w : World} {A : Option Addr} {n : Nat} {l : List R} (h : Rs w A n l) {i : Nat} (hi : i ≤ n) : Rs w A i (l.take i) :=
  ⟨by have := h.len; simp; omega, fun x hx => h.fit x (List.mem_of_mem_take hx), fun h0 => by
    obtain ⟨g, o, e, hg, c⟩ := h.lies (by omega)
    refine ⟨g, o, e, hg, fun j x hx => c j x ?_⟩
    have := (List.getElem?_eq_some_iff.1 hx).1
    rw [List.length_take] at this
    rw [List.getElem?_take, if_pos (by omega)] at hx
    exact hx⟩
theorem Rs.drop {w : World} {g o n : Nat} {l : List R} (h : Rs w (some ⟨g, o, none⟩) n l) {i : Nat} (A : Option Addr) (hA : i < n → A = some ⟨g, o + i * 2, none⟩) : Rs w A (n - i) (l.drop i) :=
  ⟨by have := h.len; simp; omega, fun x hx => h.fit x (List.mem_of_mem_drop hx), fun h0 => by
    obtain ⟨g', o', e, hg, c⟩ := h.lies (by omega)
    injection e with e
    injection e with e1 e2
    subst e1
    subst e2
    refine ⟨g, o + i * 2, hA (by omega), hg, fun j x hx => ?_⟩
    rw [List.getElem?_drop] at hx
    have := c (i + j) x hx
    rw [show o + i * 2 + j * 2 = o + (i + j) * 2 by omega]
    exact this⟩
theorem make_runs (w : World) (B n : Nat) (hn : n ≤ 3000) (hb : B ≤ w.heap.size) :
    ∃ w', (Instr.makeSlice 92 (.int .i64 0) (.int .i64 (n : Int))).run Tryz.prog w = .ok (.slice (some ⟨w.heap.size, 0, none⟩) 0 n) w' ∧ Ow w' B (.slice (some ⟨w.heap.size, 0, none⟩) 0 n) 0 [] ∧ Kept Old w w' := by
  obtain ⟨i0, hi, hz0, hz1, hz2⟩ := info_parts Tryz.runInfo
  obtain ⟨w', hrun, r1, r2⟩ := run_make_own (P := Tryz.prog) w B 92 91 i0 _ 2 Tryz.underlying92 hi hz0 hz1 .i64 .i64 n (by rw [hz2]; omega) (by simp only [maxLen]; omega) hb
  exact ⟨w', hrun, ⟨r1, fun _ h => by cases h⟩, Kept.grown (Kept.refl _ _) r2 (fun g e _ => by cases e)⟩
theorem Ow.drew {w : World} {B : Nat} {v : Value} {n : Nat} {l : List R} (h : Ow w B v n l) : Ow w.drew B v n l := ⟨h.row, h.fit⟩
theorem Rs.drew {w : World} {A : Option Addr} {n : Nat} {l : List R} (h : Rs w A n l) : Rs w.drew A n l := ⟨h.len, h.fit, h.lies⟩
/-- Behind an append all that was there ahead of the call is as it was. -/
theorem Ow.step {w0 w w' : World} {v : Value} {n : Nat} {l : List R} (h : Ow w w0.heap.size v n l) (K : Kept Old w0 w) (k : Kept (fun k => some k = v.ownBlock) w w') : Kept Old w0 w' :=
  K.join k fun i hi e => by have := (h.own i e).1; omega
theorem Rs.one (w : World) (x : R) (h1 : in64 x.1) (h2 : in64 x.2) (s : Nat) (hs : w.heap.size = s) : Rs (w.alloc (.cells #[.int .i64 x.1, .int .i64 x.2] 91)) (some ⟨s, 0, none⟩) 1 [x] := by
  subst hs
  exact
  ⟨rfl, fun y hy => by obtain rfl := List.mem_singleton.1 hy; exact ⟨h1, h2⟩, fun _ => ⟨w.heap.size, 0, rfl, Blk.lt (Bx.new w x), fun i y hy => by
    have hi := (List.getElem?_eq_some_iff.1 hy).1
    obtain rfl : i = 0 := by simpa using hi
    simp only [List.getElem?_cons_zero, Option.some.injEq] at hy
    subst hy
    exact ⟨(Bx.new w x).c0, (Bx.new w x).c1⟩⟩⟩
theorem Bx.kept2 {w w' : World} {b : Nat} (k : Kept Old w w') (hb : w.heap.size ≤ b) (x y : Value) : Kept Old w ((w'.setCell ⟨b, 0, none⟩ x).setCell ⟨b, 1, none⟩ y) :=
  (k.setCell (p := ⟨b, 0, none⟩) (fun h => absurd h (Nat.not_lt.2 hb)) x).setCell (p := ⟨b, 1, none⟩) (fun h => absurd h (Nat.not_lt.2 hb)) y
/-- What a call that makes a list answers: the list's runs, new memory. -/
def Made1 (L : List R) (w : World) (v : Value) (w' : World) : Prop := ∃ A n c, v = .slice A n c ∧ Rs w' A n L ∧ n ≤ c ∧ ((A = none → c = 0) ∧ ∀ ad, A = some ad → w.heap.size ≤ ad.block) ∧ Kept Old w w'
theorem made_end {L : List R} {w w' : World} {B n : Nat} {v : Value} (h : Ow w' B v n L) (K : Kept Old w w') (hB : w.heap.size ≤ B := by first | exact Nat.le_refl _ | omega) : Made1 L w v w' := by
  have ow := h.own
  obtain ⟨A, c, rfl, r, h1, h2⟩ := h.rs
  refine ⟨A, n, c, rfl, r, h1, ⟨h2, fun ad e => ?_⟩, K⟩
  rcases h.row.2 with ⟨e', _⟩ | ⟨g, cap, cur, e', hb, _⟩
  · injection e' with e1
    rw [e] at e1
    cases e1
  · injection e' with e1
    rw [e] at e1
    injection e1 with e1
    subst e1
    exact Nat.le_trans hB hb
theorem Made1.drew {L : List R} {w w' : World} {v : Value} (h : Made1 L w v w') : Made1 L w v w'.drew := by
  obtain ⟨A, n, c, h1, r, h2, h3, K⟩ := h
  exact ⟨A, n, c, h1, r.drew, h2, h3, K.drew⟩
theorem Made1.drewN {L : List R} {w w' : World} {v : Value} (h : Made1 L w v w') (k : Nat) : Made1 L w v (w'.drewN k) := by
  obtain ⟨A, n, c, h1, r, h2, h3, K⟩ := h
  exact ⟨A, n, c, h1, ⟨r.len, r.fit, r.lies⟩, h2, h3, K.drewN k⟩
end Go.Proofs.YtcndilpaijapkaaGreat
/- What each function of package runs answers of right runs (and Right of any). Own work; each is proved by a walk through the landed text. -/
namespace Go.Proofs.YtcndilpaijapkaaGreat
open Go.ChangeShapes Go.WideShapes Go.ChangeAt Go.RowKit
set_option maxRecDepth 100000

theorem end_any (x : R) (w : World) (h : in64 (x.1 + x.2)) : Calls Tryz.prog 146 #[run x] w fun e w' => e = .returned (.int .i64 (x.1 + x.2)) ∧ Kept Old w w' := by
  obtain ⟨h1, h2⟩ := h
  go_enter Tryz.func146, Tryz.ntmps146
  go_wp2
  go_ret
  exact ⟨rfl, (Kept.refl _ _).alloc _⟩
def liesB (x : R) (p : Int) : Bool := decide (0 ≤ x.1 ∧ 1 ≤ x.2 ∧ x.1 + x.2 ≤ p)
theorem lies_cases (x : R) (p : Int) : (¬ 0 ≤ x.1 ∧ liesB x p = false ∧ True) ∨ (0 ≤ x.1 ∧ liesB x p = false ∧ ¬ 1 ≤ x.2) ∨ (0 ≤ x.1 ∧ liesB x p = false ∧ 1 ≤ x.2 ∧ ¬ x.1 ≤ p - x.2) ∨ (0 ≤ x.1 ∧ liesB x p = true ∧ 1 ≤ x.2 ∧ x.1 ≤ p - x.2) := by
  unfold liesB
  simp only [decide_eq_false_iff_not, decide_eq_true_eq, and_true]
  omega
theorem lies_any (x : R) (p : Int) (w : World) (h : in64 x.2) (hp : 0 ≤ p ∧ p ≤ 256) : Calls Tryz.prog 144 #[run x, .int .i64 p] w fun e w' => e = .returned (.bool (liesB x p)) ∧ Kept Old w w' := by
  obtain ⟨h1, h2⟩ := h
  obtain ⟨p1, p2⟩ := hp
  rcases lies_cases x p with ⟨c, e, _⟩ | ⟨c, e, d⟩ | ⟨c, e, d, f⟩ | ⟨c, e, d, f⟩
  all_goals
    rw [e]
    clear e
    go_enter Tryz.func144, Tryz.ntmps144
    go_wp2
    go_ret
    exact ⟨rfl, (Kept.refl _ _).alloc _⟩
theorem fit_ok (A : Option Addr) (n c : Nat) (l : List R) (m : Int) (i : Nat) (x : R) (w : World) (h : Rs w A n l) (hm : 1 ≤ m) (f : Fits l m i x) (hn : n ≤ 1000) : Calls Tryz.prog 194 #[.slice A n c, .int .i64 m] w fun e w' => e = .returned (.tuple #[.int .i64 (i : Int), .bool true]) ∧ Kept Old w w' := by
  have hi : i < n := by have := f.lt; have := h.len; omega
  have HR := Lib.hid h
  have HF := Lib.hid f
  clear h f
  go_enter Tryz.func194, Tryz.ntmps194
  go_wp2
  go_loopw [12] (fun j wr => ∃ k : Nat, k ≤ i ∧ j = .int .i64 (k : Int) ∧ Hid (Kept Old w wr)) (fun j _ => i + 1 - (intOf j).toNat)
  case atStart => exact ⟨0, by omega, rfl, Lib.hid (Kept.refl _ _)⟩
  case round =>
    obtain ⟨k, hk, rfl, K⟩ := hrel
    rename World => W
    obtain ⟨g, o, y, rfl, _, hx, f1, f2, c0, c1⟩ := (HR.out.old K.out).get (k := k) (by omega)
    by_cases c : k < i
    · have : y.2 < m := HF.out.below y (List.mem_of_getElem? (i := k) (by rw [List.getElem?_take, if_pos c]; exact hx))
      clear hx
      go_wp2
      refine ⟨⟨k + 1, by omega, by go_num, Lib.hid (K.out.alloc _)⟩, ?_⟩
      simp [intOf]; omega
    · obtain rfl : k = i := by omega
      have hb : m ≤ y.2 := by have := HF.out.at_; rw [hx] at this; obtain rfl := Option.some.inj this; exact HF.out.big
      clear hx
      go_wp2
      go_ret2
      exact ⟨rfl, K.out.alloc _⟩
theorem fit_no (A : Option Addr) (n c : Nat) (l : List R) (m : Int) (w : World) (h : Rs w A n l) (hm : 1 ≤ m) (f : fitB l m = false) (hn : n ≤ 1000) : Calls Tryz.prog 194 #[.slice A n c, .int .i64 m] w fun e w' => e = .returned (.tuple #[.int .i64 0, .bool false]) ∧ Kept Old w w' := by
  have HR := Lib.hid h
  have HF := Lib.hid (fit_none f)
  clear h f
  go_enter Tryz.func194, Tryz.ntmps194
  go_wp2
  go_loopw [12] (fun j wr => ∃ k : Nat, k ≤ n ∧ j = .int .i64 (k : Int) ∧ Hid (Kept Old w wr)) (fun j _ => n - (intOf j).toNat)
  case atStart => exact ⟨0, by omega, rfl, Lib.hid (Kept.refl _ _)⟩
  case round =>
    obtain ⟨k, hk, rfl, K⟩ := hrel
    rename World => W
    by_cases c : k < n
    · obtain ⟨g, o, y, rfl, _, hx, f1, f2, c0, c1⟩ := (HR.out.old K.out).get (k := k) (by omega)
      have : y.2 < m := HF.out y (List.mem_of_getElem? hx)
      clear hx
      go_wp2
      refine ⟨⟨k + 1, by omega, by go_num, Lib.hid (K.out.alloc _)⟩, ?_⟩
      simp [intOf]; omega
    · go_wp2
      go_ret2
      exact ⟨rfl, K.out⟩
theorem fit_bad (A : Option Addr) (n c : Nat) (m : Int) (w : World) (hm : m < 1) : Calls Tryz.prog 194 #[.slice A n c, .int .i64 m] w fun e w' => e = .returned (.tuple #[.int .i64 0, .bool false]) ∧ Kept Old w w' := by
  go_enter Tryz.func194, Tryz.ntmps194
  go_wp2
  go_ret2
  exact ⟨rfl, Kept.refl _ _⟩
theorem join_any (x y : R) (w : World) (h : in64 (x.2 + y.2)) : Calls Tryz.prog 147 #[run x, run y] w fun e w' => e = .returned (run (x.1, x.2 + y.2)) ∧ Kept Old w w' := by
  obtain ⟨h1, h2⟩ := h
  go_enter Tryz.func147, Tryz.ntmps147
  go_wp2
  exact bodyPost_ret (v := run (x.1, x.2 + y.2)) (by simp [results, Tryz.results147, go_sem]) rfl ⟨rfl, (((Kept.refl _ _).alloc _).alloc _).alloc _⟩
theorem cell_on {w w' : World} (k : Kept Old w w') {p : Addr} {v : Value} (h : w.cell? p = some v) : w'.cell? p = some v := (k.cell (block_lt_of_cell h) (fun x => x)).trans h
/-- The place of a run that is free: all below end ahead of it, all others begin behind it. -/
structure Place (l : List R) (r : R) (i : Nat) : Prop where
  le : i ≤ l.length
  lo : ∀ x ∈ l.take i, x.1 + x.2 ≤ r.1
  hi : ∀ x ∈ l.drop i, r.1 + r.2 ≤ x.1
theorem Place.free {l : List R} {r : R} {i : Nat} (h : Place l r i) : freeB l r.1 r.2 = true := by
  refine free_of fun x hx => ?_
  rw [← List.take_append_drop i l] at hx
  rcases List.mem_append.1 hx with hx | hx
  · exact .inl (h.lo x hx)
  · exact .inr (h.hi x hx)
theorem lo_snoc {l : List R} {r x : R} {k : Nat} (h : ∀ y ∈ l.take k, y.1 + y.2 ≤ r.1) (hx : l[k]? = some x) (c : x.1 + x.2 ≤ r.1) : ∀ y ∈ l.take (k + 1), y.1 + y.2 ≤ r.1 := by
  intro y hy
  rw [take_snoc hx] at hy
  rcases List.mem_append.1 hy with hy | hy
  · exact h y hy
  · obtain rfl := List.mem_singleton.1 hy; exact c
theorem hi_all {l : List R} {r x : R} {k : Nat} (hr : Right 256 0 l) (hx : l[k]? = some x) (c : r.1 + r.2 ≤ x.1) : ∀ y ∈ l.drop k, r.1 + r.2 ≤ y.1 := by
  intro y hy
  rw [drop_cons hx] at hy
  rcases List.mem_cons.1 hy with rfl | hy
  · exact c
  · rw [split_at hx] at hr
    obtain ⟨_, _, _, _, _, h2⟩ := right_append.1 hr
    have := h2.mem hy
    have := (right_append.1 hr).2.2.1
    omega
end Go.Proofs.YtcndilpaijapkaaGreat
/- What place answers of right runs. Own work; each is proved by a walk through the landed text. -/
namespace Go.Proofs.YtcndilpaijapkaaGreat
open Go.ChangeShapes Go.WideShapes Go.ChangeAt Go.RowKit
set_option maxRecDepth 100000

/-- What place answers. -/
def PlacePost (l : List R) (r : R) (w : World) (e : Ending) (w' : World) : Prop := (∃ i : Nat, e = .returned (.tuple #[.int .i64 (i : Int), .bool true]) ∧ Place l r i ∨ e = .returned (.tuple #[.int .i64 0, .bool false]) ∧ freeB l r.1 r.2 = false) ∧ Kept Old w w'
set_option maxHeartbeats 4000000 in
theorem place_any (A : Option Addr) (n c : Nat) (l : List R) (r : R) (w : World) (h : Rs w A n l) (hr : Right 256 0 l) (hn : n ≤ 1000) (h0 : 0 ≤ r.1) (h1 : 1 ≤ r.2) (h2 : r.1 + r.2 ≤ 256) : Calls Tryz.prog 145 #[.slice A n c, run r] w (PlacePost l r w) := by
  have HR := Lib.hid h
  have HT := Lib.hid hr
  clear h hr
  have er := Lib.hid (show in64 (r.1 + r.2) from ⟨by omega, by omega⟩)
  go_enter Tryz.func145, Tryz.ntmps145
  go_wp2_with fail
  have K0 := Lib.hid ((Kept.refl Old w).alloc (.cells #[.int .i64 r.1, .int .i64 r.2] 91))
  have B0 := Lib.hid (Bx.new w r)
  generalize hb : w.heap.size = b at *
  go_step3
  go_wp2_with fail
  go_step3
  go_wp2_with fail
  go_loopw [6] (fun j wr => ∃ k : Nat, k ≤ n ∧ j = .int .i64 (k : Int) ∧ Hid (∀ y ∈ l.take k, y.1 + y.2 ≤ r.1) ∧ Hid (Bx wr b r) ∧ Hid (Kept Old w wr)) (fun j _ => n - (intOf j).toNat)
  case atStart => exact ⟨0, by omega, rfl, Lib.hid (fun y hy => by simp at hy), B0, K0⟩
  case round =>
    obtain ⟨k, hk, rfl, HL, B, K⟩ := hrel
    rename World => W
    clear B0 K0
    by_cases c : k < n
    · obtain ⟨g, o, x, rfl, _, hx, f1, f2, c0, c1⟩ := (HR.out.old K.out).get c
      have bx := HT.out.at hx
      have ex := Lib.hid (show in64 (x.1 + x.2) from ⟨by omega, by omega⟩)
      have r0 := B.out.c0
      have r1 := B.out.c1
      have hx := Lib.hid hx
      have kw := Kept.refl Old W
      have le := HR.out.len
      by_cases d : r.1 + r.2 ≤ x.1
      · have P : ∀ w', Kept Old W w' → PlacePost l r w (.returned (.tuple #[.int .i64 (k : Int), .bool true])) w' := fun w' k' => ⟨⟨k, .inl ⟨rfl, by omega, HL.out, hi_all HT.out hx.out d⟩⟩, K.out.trans k'⟩
        have P := Lib.hid P
        clear le HL
        go_wp2_with fail
        go_region_held3 (fun w' => Kept Old W w' ∧ w'.cell? ⟨b, 0, none⟩ = some (.int .i64 r.1) ∧ w'.cell? ⟨b, 1, none⟩ = some (.int .i64 r.2) ∧ w'.cell? ⟨g, o + k * 2, none⟩ = some (.int .i64 x.1) ∧ w'.cell? ⟨g, o + k * 2 + 1, none⟩ = some (.int .i64 x.2))
          (first
            | (exact ⟨‹_›, ‹_›, ‹_›, ‹_›, ‹_›⟩)
            | (exact ⟨Kept.drew ‹_›, ‹_›, ‹_›, ‹_›, ‹_›⟩)
            | (go_split_ands; exact ⟨Kept.trans ‹_› k1, cell_on k1 ‹_›, cell_on k1 ‹_›, cell_on k1 ‹_›, cell_on k1 ‹_›⟩)
            | go_keep)
          (first
            | (go_at_call 146; refine (end_any r _ er.out).mono ?_; rintro e w' ⟨rfl, k1⟩))
        have P := Lib.hid (P.out _ (‹Kept Old W _ ∧ _›).1)
        go_wp2
        rw [Exit.noGoto_ret]
        go_ret2
        exact P.out
      · go_wp2_with fail
        go_region_held3 (fun w' => Kept Old W w' ∧ w'.cell? ⟨b, 0, none⟩ = some (.int .i64 r.1) ∧ w'.cell? ⟨b, 1, none⟩ = some (.int .i64 r.2) ∧ w'.cell? ⟨g, o + k * 2, none⟩ = some (.int .i64 x.1) ∧ w'.cell? ⟨g, o + k * 2 + 1, none⟩ = some (.int .i64 x.2))
          (first
            | (exact ⟨‹_›, ‹_›, ‹_›, ‹_›, ‹_›⟩)
            | (exact ⟨Kept.drew ‹_›, ‹_›, ‹_›, ‹_›, ‹_›⟩)
            | (go_split_ands; exact ⟨Kept.trans ‹_› k1, cell_on k1 ‹_›, cell_on k1 ‹_›, cell_on k1 ‹_›, cell_on k1 ‹_›⟩)
            | go_keep)
          (first
            | (go_at_call 146; refine (end_any r _ er.out).mono ?_; rintro e w' ⟨rfl, k1⟩))
        obtain ⟨kw', r0', r1', c0', c1'⟩ := ‹Kept Old W _ ∧ _›
        clear kw r0 r1 c0 c1
        by_cases d2 : r.1 < x.1 + x.2
        · have P : ∀ w', Kept Old W w' → PlacePost l r w (.returned (.tuple #[.int .i64 0, .bool false])) w' := fun w' k' => ⟨⟨0, .inr ⟨rfl, not_free (List.mem_of_getElem? hx.out) d2 (by omega)⟩⟩, K.out.trans k'⟩
          have P := Lib.hid P
          clear le HL
          go_wp2_with fail
          go_region_held3 (fun w' => Kept Old W w' ∧ w'.cell? ⟨b, 0, none⟩ = some (.int .i64 r.1) ∧ w'.cell? ⟨b, 1, none⟩ = some (.int .i64 r.2) ∧ w'.cell? ⟨g, o + k * 2, none⟩ = some (.int .i64 x.1) ∧ w'.cell? ⟨g, o + k * 2 + 1, none⟩ = some (.int .i64 x.2))
            (first
              | (exact ⟨‹_›, ‹_›, ‹_›, ‹_›, ‹_›⟩)
              | (exact ⟨Kept.drew ‹_›, ‹_›, ‹_›, ‹_›, ‹_›⟩)
              | (go_split_ands; exact ⟨Kept.trans ‹_› k1, cell_on k1 ‹_›, cell_on k1 ‹_›, cell_on k1 ‹_›, cell_on k1 ‹_›⟩)
              | go_keep)
            (first
              | (go_at_call 146; refine (end_any x _ ex.out).mono ?_; rintro e w' ⟨rfl, k1⟩))
          have P := Lib.hid (P.out _ (‹Kept Old W _ ∧ _›).1)
          go_wp2
          rw [Exit.noGoto_ret]
          go_ret2
          exact P.out
        · have L := Lib.hid (lo_snoc HL.out hx.out (by omega))
          clear le HL
          go_wp2_with fail
          go_region_held3 (fun w' => Kept Old W w' ∧ w'.cell? ⟨b, 0, none⟩ = some (.int .i64 r.1) ∧ w'.cell? ⟨b, 1, none⟩ = some (.int .i64 r.2) ∧ w'.cell? ⟨g, o + k * 2, none⟩ = some (.int .i64 x.1) ∧ w'.cell? ⟨g, o + k * 2 + 1, none⟩ = some (.int .i64 x.2))
            (first
              | (exact ⟨‹_›, ‹_›, ‹_›, ‹_›, ‹_›⟩)
              | (exact ⟨Kept.drew ‹_›, ‹_›, ‹_›, ‹_›, ‹_›⟩)
              | (go_split_ands; exact ⟨Kept.trans ‹_› k1, cell_on k1 ‹_›, cell_on k1 ‹_›, cell_on k1 ‹_›, cell_on k1 ‹_›⟩)
              | go_keep)
            (first
              | (go_at_call 146; refine (end_any x _ ex.out).mono ?_; rintro e w' ⟨rfl, k1⟩))
          have k2 := Lib.hid (‹Kept Old W _ ∧ _›).1
          go_wp2
          refine ⟨⟨k + 1, by omega, by go_num, L, Lib.hid (B.out.old k2.out), Lib.hid (K.out.trans k2.out)⟩, ?_⟩
          simp [intOf]; omega
    · have P : PlacePost l r w (.returned (.tuple #[.int .i64 (k : Int), .bool true])) W := by
        have hkl : l.length = k := by have := HR.out.len; omega
        exact ⟨⟨k, .inl ⟨rfl, by omega, HL.out, fun y hy => by rw [List.drop_eq_nil_of_le (by omega)] at hy; cases hy⟩⟩, K.out⟩
      go_wp2
      go_ret2
      exact P
theorem Place.unique {l : List R} {r : R} {i j : Nat} (hr : Right 256 0 l) (h1 : 1 ≤ r.2) (a : Place l r i) (b : Place l r j) : i = j := by
  have key : ∀ {i j : Nat}, Place l r i → Place l r j → ¬ i < j := by
    intro i j a b c
    have hi : i < l.length := by have := b.le; omega
    have hx : l[i]? = some l[i] := List.getElem?_eq_getElem hi
    have m1 : l[i] ∈ l.take j := List.mem_of_getElem? (i := i) (by rw [List.getElem?_take, if_pos c]; exact hx)
    have m2 : l[i] ∈ l.drop i := List.mem_of_getElem? (i := 0) (by rw [List.getElem?_drop]; exact hx)
    have q1 := b.lo _ m1
    have q2 := a.hi _ m2
    have q3 := hr.at hx
    omega
  have k1 := key a b
  have k2 := key b a
  omega
theorem place_exists {p f : Int} {l : List R} {r : R} (hr : Right p f l) (c : ∀ x ∈ l, x.1 + x.2 ≤ r.1 ∨ r.1 + r.2 ≤ x.1) : ∃ i, Place l r i := by
  induction l generalizing f with
  | nil => exact ⟨0, Nat.le_refl _, fun x hx => by simp at hx, fun x hx => by simp at hx⟩
  | cons x t ih =>
    obtain ⟨b0, b1, b2, b3, h2⟩ := hr
    rcases c x (List.mem_cons_self ..) with d | d
    · obtain ⟨i, h⟩ := ih h2 (fun y hy => c y (List.mem_cons_of_mem _ hy))
      refine ⟨i + 1, by have := h.le; simp only [List.length_cons]; omega, fun y hy => ?_, fun y hy => h.hi y (by simpa using hy)⟩
      rw [List.take_succ_cons] at hy
      rcases List.mem_cons.1 hy with rfl | hy
      · exact d
      · exact h.lo y hy
    · refine ⟨0, Nat.zero_le _, fun y hy => by simp at hy, fun y hy => ?_⟩
      rw [List.drop_zero] at hy
      rcases List.mem_cons.1 hy with rfl | hy
      · exact d
      · have := h2.mem hy; omega
theorem place_ok (A : Option Addr) (n c : Nat) (l : List R) (r : R) (i : Nat) (w : World) (h : Rs w A n l) (hr : Right 256 0 l) (hn : n ≤ 1000) (h0 : 0 ≤ r.1) (h1 : 1 ≤ r.2) (h2 : r.1 + r.2 ≤ 256) (hp : Place l r i) : Calls Tryz.prog 145 #[.slice A n c, run r] w fun e w' => e = .returned (.tuple #[.int .i64 (i : Int), .bool true]) ∧ Kept Old w w' := by
  refine (place_any A n c l r w h hr hn h0 h1 h2).mono ?_
  rintro e w' ⟨⟨j, ⟨rfl, q⟩ | ⟨_, q⟩⟩, k⟩
  · obtain rfl := Place.unique hr h1 hp q
    exact ⟨rfl, k⟩
  · rw [hp.free] at q; cases q
theorem place_no (A : Option Addr) (n c : Nat) (l : List R) (r : R) (w : World) (h : Rs w A n l) (hr : Right 256 0 l) (hn : n ≤ 1000) (h0 : 0 ≤ r.1) (h1 : 1 ≤ r.2) (h2 : r.1 + r.2 ≤ 256) (hp : freeB l r.1 r.2 = false) : Calls Tryz.prog 145 #[.slice A n c, run r] w fun e w' => e = .returned (.tuple #[.int .i64 0, .bool false]) ∧ Kept Old w w' := by
  refine (place_any A n c l r w h hr hn h0 h1 h2).mono ?_
  rintro e w' ⟨⟨j, ⟨rfl, q⟩ | ⟨rfl, q⟩⟩, k⟩
  · rw [q.free] at hp; cases hp
  · exact ⟨rfl, k⟩
end Go.Proofs.YtcndilpaijapkaaGreat
/- What Put answers of right runs. Own work; each is proved by a walk through the landed text. -/
namespace Go.Proofs.YtcndilpaijapkaaGreat
open Go.ChangeShapes Go.WideShapes Go.ChangeAt Go.RowKit
set_option maxRecDepth 100000

/-- What Put answers where the run may be put. -/
def PutPost (L : List R) (w : World) (e : Ending) (w' : World) : Prop := ∃ v, e = .returned (.tuple #[v, .int .i64 0]) ∧ Made1 L w v w'
theorem lies_yes (r : R) (w : World) (h0 : 0 ≤ r.1) (h1 : 1 ≤ r.2) (h2 : r.1 + r.2 ≤ 256) : Calls Tryz.prog 144 #[run r, .int .i64 256] w fun e w' => e = .returned (.bool true) ∧ Kept Old w w' := by
  have := lies_any r 256 w ⟨by omega, by omega⟩ ⟨by omega, by omega⟩
  rwa [show liesB r 256 = true from decide_eq_true ⟨h0, h1, h2⟩] at this
theorem put_bad (A : Option Addr) (n c : Nat) (r : R) (w : World) (h : in64 r.2) (hb : liesB r 256 = false) : Calls Tryz.prog 120 #[.slice A n c, run r] w fun e w' => e = .returned (.tuple #[.slice none 0 0, .int .i64 1]) ∧ Kept Old w w' := by
  have hl := lies_any r 256 (w.alloc (.cells #[.int .i64 r.1, .int .i64 r.2] 91)) h ⟨by omega, by omega⟩
  rw [hb] at hl
  have hl := Lib.hid hl
  clear hb h
  go_enter Tryz.func120, Tryz.ntmps120
  go_wp2_with fail
  refine hl.out.mono ?_
  rintro e w1 ⟨rfl, k1⟩
  go_wp2
  go_ret2
  exact ⟨rfl, ((Kept.refl _ _).alloc _).trans k1⟩
theorem put_twice (A : Option Addr) (n c : Nat) (l : List R) (r : R) (w : World) (h : Rs w A n l) (hr : Right 256 0 l) (hn : n ≤ 1000) (h0 : 0 ≤ r.1) (h1 : 1 ≤ r.2) (h2 : r.1 + r.2 ≤ 256) (hp : freeB l r.1 r.2 = false) : Calls Tryz.prog 120 #[.slice A n c, run r] w fun e w' => e = .returned (.tuple #[.slice none 0 0, .int .i64 4]) ∧ Kept Old w w' := by
  have HR := Lib.hid h
  have HT := Lib.hid hr
  have hp := Lib.hid hp
  clear h hr
  go_enter Tryz.func120, Tryz.ntmps120
  go_wp2_with fail
  refine (lies_yes r _ h0 h1 h2).mono ?_
  rintro e w1 ⟨rfl, k1⟩
  have b := (Bx.new w r).old k1
  have x0 := b.c0
  have x1 := b.c1
  have K := Lib.hid (((Kept.refl Old w).alloc _).trans k1)
  clear k1 b
  go_wp2_with fail
  refine (place_no A n c l r _ (HR.out.old K.out) HT.out hn h0 h1 h2 hp.out).mono ?_
  rintro e w2 ⟨rfl, k2⟩
  go_wp2
  go_ret2
  exact ⟨rfl, K.out.trans k2⟩
end Go.Proofs.YtcndilpaijapkaaGreat
/- What Put answers where the run may be put, way by way. Own work; each is proved by a walk through the landed text. -/
namespace Go.Proofs.YtcndilpaijapkaaGreat
open Go.ChangeShapes Go.WideShapes Go.ChangeAt Go.RowKit
set_option maxRecDepth 100000

theorem Ow.stepB {w0 w w' : World} {B : Nat} {v : Value} {n : Nat} {l : List R} (h : Ow w B v n l) (hB : w0.heap.size ≤ B) (K : Kept Old w0 w) (k : Kept (fun k => some k = v.ownBlock) w w') : Kept Old w0 w' :=
  K.join k fun i hi e => by have := (h.own i e).1; omega
theorem Ow.box {w w' : World} {b : Nat} {v : Value} {n : Nat} {l : List R} {x : R} (h : Ow w (b + 1) v n l) (k : Kept (fun k => some k = v.ownBlock) w w') (z : Bx w b x) : Bx w' b x :=
  Blk.kept z k fun e => by have := (h.own b e).1; omega
theorem Bx.drew {w : World} {b : Nat} {x : R} (h : Bx w b x) : Bx w.drew b x := h
theorem Bx.drewN {w : World} {b : Nat} {x : R} (h : Bx w b x) (k : Nat) : Bx (w.drewN k) b x := h
theorem make_wp {ops : Array Oper} {rest : List Oper} {o : Oper} {a : Act} {Q : Exit → Act → World → Prop} {w : World} (hg : o.guard = none) (lo hi : Operand) (hop : o.op = Op.makeSlice 92 lo hi) (B n : Nat) (X : Int) (hl : a.eval lo = .int .i64 0) (hc : a.eval hi = .int .i64 X) (hX : X = (n : Int)) (hn : n ≤ 3000) (hb : B ≤ w.heap.size)
    (go : ∀ w', Hid (Ow w' B (.slice (some ⟨w.heap.size, 0, none⟩) 0 n) 0 []) → Hid (Kept Old w w') → wpList Tryz.prog ops Q rest (a.put o.dst (.slice (some ⟨w.heap.size, 0, none⟩) 0 n)) w') : wpList Tryz.prog ops Q (o :: rest) a w := by
  subst hX
  refine wpList_plain hg fun K hK => ?_
  obtain ⟨w', hrun, r1, r2⟩ := make_runs w B n hn hb
  unfold Oper.wp
  simp [execOp, hop, hl, hc, hrun, Result.andThen]
  exact hK _ _ (go w' r1 r2)
theorem Rs.dropTo {w : World} {A : Option Addr} {g o n m : Nat} {l : List R} (h : Rs w (some ⟨g, o, none⟩) n l) (i : Nat) (hm : n - i = m) (hA : i < n → A = some ⟨g, o + i * 2, none⟩) : Rs w A m (l.drop i) := by
  subst hm
  exact h.drop A hA
end Go.Proofs.YtcndilpaijapkaaGreat
