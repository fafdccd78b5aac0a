/-
  Joined texts of ShpF; own work.
-/
import Derived.Test.YtcndilpaijapkaaGreatRows
import Derived.WalkKit
import Derived.OwnWalk
import Derived.Maps.AppendAt
import Derived.Deep.AppendLies
import Derived.Deep.SlicePairs
import Derived.ProofKit
import Derived.OpenShut
import Derived.Outline
import Derived.Deep.Light
import Derived.Deep.QuietTactic
import Derived.BigQuiet
import Derived.IntWalk
import Derived.Shelf.SlSortCmp.NoneTotal
import Derived.Test.YtcndilpaijapkaaGreatJBase
import Derived.Test.YtcndilpaijapkaaGreatJShpC
import Derived.Test.YtcndilpaijapkaaGreatJStMath
/- A slice of pieces (an address, a number of words) that reads as a list of pairs (Rs), a piece in a block (Bx), a slice of pieces that the call itself made (Ow). Own work; no program is walked here. -/
namespace Go.Proofs.YtcndilpaijapkaaGreat.Pc
open Go.ChangeShapes Go.WideShapes Go.ChangeAt Go.RowKit

/-- An address and a number of words. -/
abbrev R := Int × Int
abbrev run (x : R) : Value := .agg #[.int .i64 x.1, .int .i64 x.2]
/-- A 64-bit integer. -/
def in64 (z : Int) : Prop := -9223372036854775808 ≤ z ∧ z ≤ 9223372036854775807
/-- The slice at A has n runs, those of l. -/
structure Rs (w : World) (A : Option Addr) (n : Nat) (l : List R) : Prop where
  len : l.length = n
  fit : ∀ x ∈ l, in64 x.1 ∧ in64 x.2
  lies : 0 < n → ∃ g o, A = some ⟨g, o, none⟩ ∧ g < w.heap.size ∧ ∀ (i : Nat) (x : R), l[i]? = some x → w.cell? ⟨g, o + i * 2, none⟩ = some (.int .i64 x.1) ∧ w.cell? ⟨g, o + i * 2 + 1, none⟩ = some (.int .i64 x.2)
theorem Rs.kept {D : Nat → Prop} {w w' : World} {A : Option Addr} {n : Nat} {l : List R} (h : Rs w A n l) (k : Kept D w w') (hd : ∀ ad, A = some ad → ¬ D ad.block) : Rs w' A n l :=
  ⟨h.len, h.fit, fun hn => by
    obtain ⟨g, o, rfl, hg, c⟩ := h.lies hn
    have hd' : ¬ D g := hd _ rfl
    exact ⟨g, o, rfl, Nat.lt_of_lt_of_le hg k.size, fun i x hx => ⟨(k.cell (p := ⟨g, o + i * 2, none⟩) hg hd').trans (c i x hx).1, (k.cell (p := ⟨g, o + i * 2 + 1, none⟩) hg hd').trans (c i x hx).2⟩⟩⟩
theorem Rs.old {w w' : World} {A : Option Addr} {n : Nat} {l : List R} (h : Rs w A n l) (k : Kept Old w w') : Rs w' A n l := h.kept k fun _ _ x => x
theorem Rs.nil (w : World) (A : Option Addr) : Rs w A 0 [] := ⟨rfl, fun _ h => (by cases h), fun h => absurd h (Nat.lt_irrefl 0)⟩
theorem Rs.get {w : World} {A : Option Addr} {n : Nat} {l : List R} (h : Rs w A n l) {k : Nat} (hk : k < n) : ∃ (g o : Nat) (x : R), A = some ⟨g, o, none⟩ ∧ g < w.heap.size ∧ l[k]? = some x ∧ in64 x.1 ∧ in64 x.2 ∧ w.cell? ⟨g, o + k * 2, none⟩ = some (.int .i64 x.1) ∧ w.cell? ⟨g, o + k * 2 + 1, none⟩ = some (.int .i64 x.2) := by
  obtain ⟨g, o, rfl, hg, c⟩ := h.lies (by omega)
  have hl : k < l.length := by have := h.len; omega
  have e : l[k]? = some l[k] := List.getElem?_eq_getElem hl
  have f := h.fit _ (List.getElem_mem hl)
  exact ⟨g, o, l[k], rfl, hg, e, f.1, f.2, (c k _ e).1, (c k _ e).2⟩
theorem get_len {w : World} {A : Option Addr} {n : Nat} {l : List R} (h : Rs w A n l) {k : Nat} {x : R} (hx : l[k]? = some x) : k < n := by
  have := (List.getElem?_eq_some_iff.1 hx).1
  have := h.len
  omega

/-! ### A run in a block -/
def Bx (w : World) (b : Nat) (x : R) : Prop := Blk w b 54 [.int .i64 x.1, .int .i64 x.2]
theorem Bx.c0 {w : World} {b : Nat} {x : R} (h : Bx w b x) : w.cell? ⟨b, 0, none⟩ = some (.int .i64 x.1) := Blk.cell h 0
theorem Bx.c1 {w : World} {b : Nat} {x : R} (h : Bx w b x) : w.cell? ⟨b, 1, none⟩ = some (.int .i64 x.2) := Blk.cell h 1
theorem Bx.new (w : World) (x : R) : Bx (w.alloc (.cells #[.int .i64 x.1, .int .i64 x.2] 54)) w.heap.size x := Blk.new w _ _
theorem Bx.old {w w' : World} {b : Nat} {x : R} (h : Bx w b x) (k : Kept Old w w') : Bx w' b x := Blk.kept h k (fun x => x)
theorem Bx.alloc {w : World} {b : Nat} {x : R} (h : Bx w b x) (o : Obj) : Bx (w.alloc o) b x := Blk.alloc h o
theorem Bx.put2 {w : World} {b : Nat} {x : R} (h : Bx w b x) (y z : Int) : Bx ((w.setCell ⟨b, 0, none⟩ (.int .i64 y)).setCell ⟨b, 1, none⟩ (.int .i64 z)) b (y, z) := (Blk.put h 0 (.int .i64 y)).put 1 (.int .i64 z)

/-! ### A slice that the call itself made -/
/-- Runs as cells. -/
def C : List R → List Value
  | [] => []
  | x :: t => .int .i64 x.1 :: .int .i64 x.2 :: C t
theorem C_length (l : List R) : (C l).length = l.length * 2 := by
  induction l with
  | nil => rfl
  | cons x t ih => simp only [C, List.length_cons, ih]; omega
theorem C_append (a b : List R) : C (a ++ b) = C a ++ C b := by
  induction a with
  | nil => rfl
  | cons x t ih => simp only [List.cons_append, C, ih]
theorem C_one (l : List R) : ∀ u ∈ C l, u.oneCell' = true := by
  induction l with
  | nil => intro u hu; cases hu
  | cons x t ih =>
    intro u hu
    simp only [C, List.mem_cons] at hu
    rcases hu with rfl | rfl | hu
    · rfl
    · rfl
    · exact ih u hu
theorem C_get (l : List R) (i : Nat) (x : R) (h : l[i]? = some x) : (C l)[i * 2]? = some (.int .i64 x.1) ∧ (C l)[i * 2 + 1]? = some (.int .i64 x.2) := by
  induction l generalizing i with
  | nil => cases h
  | cons y t ih =>
    cases i with
    | zero => simp only [List.getElem?_cons_zero, Option.some.injEq] at h; subst h; exact ⟨rfl, rfl⟩
    | succ i =>
      have := ih i (by simpa using h)
      rw [show (i + 1) * 2 = i * 2 + 1 + 1 by omega]
      simpa [C] using this
theorem C_at (l : List R) (j : Nat) (u : Value) (h : (C l)[j]? = some u) : ∃ i x, l[i]? = some x ∧ ((j = i * 2 ∧ u = .int .i64 x.1) ∨ (j = i * 2 + 1 ∧ u = .int .i64 x.2)) := by
  have hj : j < (C l).length := (List.getElem?_eq_some_iff.1 h).1
  rw [C_length] at hj
  have hi : j / 2 < l.length := by omega
  have e : l[j / 2]? = some l[j / 2] := List.getElem?_eq_getElem hi
  have g := C_get l (j / 2) _ e
  refine ⟨j / 2, _, e, ?_⟩
  rcases Nat.mod_two_eq_zero_or_one j with m | m
  · left
    have : j = j / 2 * 2 := by omega
    refine ⟨this, ?_⟩
    rw [← this] at g
    rw [g.1] at h
    exact (Option.some.inj h).symm
  · right
    have : j = j / 2 * 2 + 1 := by omega
    refine ⟨this, ?_⟩
    rw [← this] at g
    rw [g.2] at h
    exact (Option.some.inj h).symm
/-- The slice value v is n runs, those of l, in blocks from B on (or nil). -/
structure Ow (w : World) (B : Nat) (v : Value) (n : Nat) (l : List R) : Prop where
  row : w.ownsRow B 54 2 v n (C l)
  fit : ∀ x ∈ l, in64 x.1 ∧ in64 x.2
theorem Ow.len {w : World} {B : Nat} {v : Value} {n : Nat} {l : List R} (h : Ow w B v n l) : l.length = n := by
  have := h.row.1
  rw [C_length] at this
  omega
theorem Ow.rs {w : World} {B : Nat} {v : Value} {n : Nat} {l : List R} (h : Ow w B v n l) : ∃ A c, v = .slice A n c ∧ Rs w A n l ∧ n ≤ c ∧ (A = none → c = 0) := by
  have hlen := h.len
  rcases h.row.2 with ⟨rfl, rfl⟩ | ⟨g, cap, cur, rfl, hb, hg, hn, hm, hs, ht⟩
  · obtain rfl : l = [] := List.eq_nil_of_length_eq_zero hlen
    exact ⟨none, 0, rfl, Rs.nil _ _, Nat.le_refl _, fun _ => rfl⟩
  · refine ⟨_, cap, rfl, ⟨hlen, h.fit, fun _ => ⟨g, 0, rfl, (Array.getElem?_eq_some_iff.1 hg).1, fun i x hx => ?_⟩⟩, hn, fun h => by cases h⟩
    have hi := (List.getElem?_eq_some_iff.1 hx).1
    have gx := C_get l i x hx
    rw [← ht, List.getElem?_take, List.getElem?_take, if_pos (by omega), if_pos (by omega)] at gx
    rw [Nat.zero_add, cell_of_row w g _ cur 54 (0, 0) hg, cell_of_row w g _ cur 54 (0, 0) hg]
    simpa using gx
theorem Ow.kept {D : Nat → Prop} {w w' : World} {B : Nat} {v : Value} {n : Nat} {l : List R} (h : Ow w B v n l) (k : Kept D w w') (hd : ∀ g, B ≤ g → ¬ D g) : Ow w' B v n l := by
  refine ⟨⟨h.row.1, ?_⟩, h.fit⟩
  rcases h.row.2 with hn | ⟨g, cap, cur, rfl, hb, hg, rest⟩
  · exact .inl hn
  · refine .inr ⟨g, cap, cur, rfl, hb, ?_, rest⟩
    rw [k.block g (Array.getElem?_eq_some_iff.1 hg).1 (hd g hb)]
    exact hg
theorem Ow.old {w w' : World} {B : Nat} {v : Value} {n : Nat} {l : List R} (h : Ow w B v n l) (k : Kept Old w w') : Ow w' B v n l := h.kept k (fun _ _ x => x)
theorem Ow.alloc {w : World} {B : Nat} {v : Value} {n : Nat} {l : List R} (h : Ow w B v n l) (o : Obj) : Ow (w.alloc o) B v n l := ⟨h.row.alloc o, h.fit⟩
theorem Ow.nil (w : World) (B : Nat) : Ow w B (.slice none 0 0) 0 [] := ⟨World.ownsRow_nil _ _ _ _, fun _ h => by cases h⟩
theorem Ow.made (w : World) (B cap : Nat) (cur : Array Value) (hb : B ≤ w.heap.size) (hm : cap ≤ maxLen) (hs : cur.size = cap * 2) : Ow (w.alloc (.cells cur 54)) B (.slice (some ⟨w.heap.size, 0, none⟩) 0 cap) 0 [] :=
  ⟨World.ownsRow_made w cur cap hb hm hs, fun _ h => by cases h⟩
theorem Tryz.runInfo : (Tryz.prog.info? 54).map (fun i => (i.zero, i.size, i.bytes)) = some (some (.agg #[.int .i64 0, .int .i64 0]), 2, 16) := by kernel_rfl
theorem Rs.cells {w : World} {ad : Addr} {n : Nat} {l : List R} (h : Rs w (some ad) n l) : ∀ j u, (C l)[j]? = some u → w.cell? (ad.add j) = some u := by
  intro j u hu
  obtain ⟨i, x, hx, hju⟩ := C_at l j u hu
  obtain ⟨g, o, e, _, c⟩ := h.lies (Nat.lt_of_le_of_lt (Nat.zero_le _) (get_len h hx))
  injection e with e
  subst e
  rw [addr_add]
  rcases hju with ⟨rfl, rfl⟩ | ⟨rfl, rfl⟩
  · exact (c i x hx).1
  · exact (c i x hx).2
/-- append of the runs at A. -/
theorem app_own (w : World) (B : Nat) (v : Value) (n : Nat) (l : List R) (h : Ow w B v n l) (A : Option Addr) (m c : Nat) (news : List R) (hr : Rs w A m news) (hA : A = none → m = 0 ∧ c = 0) (hn : n ≤ 3000) (hm : m ≤ 1000) (hb : B ≤ w.heap.size) :
    ∃ v' w', (Builtin.append_ #[42, 42] 42 #[v, .slice A m c]).run Tryz.prog w = .ok v' w' ∧ Ow w' B v' (n + m) (l ++ news) ∧ Kept (fun k => some k = v.ownBlock) w w' ∧ (v'.ownBlock = v.ownBlock ∨ v'.ownBlock = some w.heap.size) := by
  obtain ⟨i0, hi, hz0, hz1, hz2⟩ := info_parts Tryz.runInfo
  cases A with
  | none =>
    obtain ⟨rfl, rfl⟩ := hA rfl
    obtain rfl : news = [] := List.eq_nil_of_length_eq_zero hr.len
    exact ⟨v, w, run_append_owned_none (P := Tryz.prog) (w := w) B 42 42 54 i0 2 Tryz.underlying42 hi v n (C l) h.row, by simpa using h, Kept.refl _ _, .inl rfl⟩
  | some ad =>
    obtain ⟨v', w', hrun, ho, hg, _, hat⟩ := run_append_own_at (P := Tryz.prog) w B 42 42 54 i0 _ 2 16 Tryz.underlying42 hi hz0 hz1 hz2 rfl (by omega) v n (C l) h.row ad m c (C news) (by rw [C_length, hr.len]) hr.cells (C_one news) (by simp only [maxLen]; omega) (by omega) hb
    rw [← C_append] at ho
    exact ⟨v', w', hrun, ⟨ho, fun x hx => (List.mem_append.1 hx).elim (h.fit x) (hr.fit x)⟩, Kept.grown (Kept.refl _ _) hg (fun g e _ => e.symm), hat⟩
theorem Ow.own {w : World} {B : Nat} {v : Value} {n : Nat} {l : List R} (h : Ow w B v n l) : ∀ k, some k = v.ownBlock → B ≤ k ∧ k < w.heap.size := fun k hk => h.row.lt k hk.symm
/-- The run stated at the operation. -/
theorem app_wp {ops : Array Oper} {rest : List Oper} {o : Oper} {a : Act} {Q : Exit → Act → World → Prop} {w : World} (hgd : o.guard = none) (s x : Operand)
    (ho : o.op = .call { callee := .builtin .append, args := #[s, x], argTypes := #[42, 42] }) (hty : o.type = 42)
    (B : Nat) (v : Value) (n : Nat) (l : List R) (hs : a.eval s = v) (h : Ow w B v n l) (A : Option Addr) (m c : Nat) (news : List R) (hx : a.eval x = .slice A m c) (hr : Rs w A m news) (hA : A = none → m = 0 ∧ c = 0) (hn : n ≤ 3000) (hm : m ≤ 1000) (hb : B ≤ w.heap.size) (N : Nat) (hN : n + m = N) (L : List R) (hL : l ++ news = L)
    (go : ∀ v' w', Hid (Ow w' B v' N L) → Hid (Kept (fun k => some k = v.ownBlock) w w') → Hid (v'.ownBlock = v.ownBlock ∨ v'.ownBlock = some w.heap.size) → wpList Tryz.prog ops Q rest (a.put o.dst v') w') : wpList Tryz.prog ops Q (o :: rest) a w := by
  subst hN
  subst hL
  refine wpList_plain hgd fun K hK => ?_
  obtain ⟨v', w', hrun, h2, h3, h4⟩ := app_own w B v n l h A m c news hr hA hn hm hb
  unfold Oper.wp execOp
  simp only [ho, hty, resolve, invoke, builtin, Sem.run_bind, Sem.run_pure, Result.andThen_ok, List.map_toArray, List.map_cons, List.map_nil, hs, hx, hrun]
  exact hK _ _ (go v' w' h2 h3 h4)
theorem app_step {ops : Array Oper} {o : Oper} {a : Act} {K : Act → World → Prop} {Q : Exit → Act → World → Prop} {E : Prop} {w : World} (hgd : o.guard = none) (s x : Operand)
    (ho : o.op = .call { callee := .builtin .append, args := #[s, x], argTypes := #[42, 42] }) (hty : o.type = 42)
    (B : Nat) (v : Value) (n : Nat) (l : List R) (hs : a.eval s = v) (h : Ow w B v n l) (A : Option Addr) (m c : Nat) (news : List R) (hx : a.eval x = .slice A m c) (hr : Rs w A m news) (hA : A = none → m = 0 ∧ c = 0) (hn : n ≤ 3000) (hm : m ≤ 1000) (hb : B ≤ w.heap.size) (N : Nat) (hN : n + m = N) (L : List R) (hL : l ++ news = L)
    (go : ∀ v' w', Hid (Ow w' B v' N L) → Hid (Kept (fun k => some k = v.ownBlock) w w') → Hid (v'.ownBlock = v.ownBlock ∨ v'.ownBlock = some w.heap.size) → K (a.put o.dst v') w') :
    if Region.wanted o (yielded ops a.tmps) = true then Oper.wp Tryz.prog o a w K Q else E := by
  subst hN
  subst hL
  have hw : Region.wanted o (yielded ops a.tmps) = true := by simp [Region.wanted, hgd]
  rw [if_pos hw]
  obtain ⟨v', w', hrun, h2, h3, h4⟩ := app_own w B v n l h A m c news hr hA hn hm hb
  unfold Oper.wp execOp
  simp only [ho, hty, resolve, invoke, builtin, Sem.run_bind, Sem.run_pure, Result.andThen_ok, List.map_toArray, List.map_cons, List.map_nil, hs, hx, hrun]
  exact go v' w' h2 h3 h4
/-! ### Cuts and makes -/
theorem Rs.take {w : World} {A : Option Addr} {n : Nat} {l : List R} (h : Rs w A n l) {i : Nat} (hi : i ≤ n) : Rs w A i (l.take i) :=
  ⟨by have := h.len; simp; omega, fun x hx => h.fit x (List.mem_of_mem_take hx), fun h0 => by
    obtain ⟨g, o, e, hg, c⟩ := h.lies (by omega)
    refine ⟨g, o, e, hg, fun j x hx => c j x ?_⟩
    have := (List.getElem?_eq_some_iff.1 hx).1
    rw [List.length_take] at this
    rw [List.getElem?_take, if_pos (by omega)] at hx
    exact hx⟩
theorem Rs.drop {w : World} {g o n : Nat} {l : List R} (h : Rs w (some ⟨g, o, none⟩) n l) {i : Nat} (A : Option Addr) (hA : i < n → A = some ⟨g, o + i * 2, none⟩) : Rs w A (n - i) (l.drop i) :=
  ⟨by have := h.len; simp; omega, fun x hx => h.fit x (List.mem_of_mem_drop hx), fun h0 => by
    obtain ⟨g', o', e, hg, c⟩ := h.lies (by omega)
    injection e with e
    injection e with e1 e2
    subst e1
    subst e2
    refine ⟨g, o + i * 2, hA (by omega), hg, fun j x hx => ?_⟩
    rw [List.getElem?_drop] at hx
    have := c (i + j) x hx
    rw [show o + i * 2 + j * 2 = o + (i + j) * 2 by omega]
    exact this⟩
theorem make_runs (w : World) (B n : Nat) (hn : n ≤ 3000) (hb : B ≤ w.heap.size) :
    ∃ w', (Instr.makeSlice 42 (.int .i64 0) (.int .i64 (n : Int))).run Tryz.prog w = .ok (.slice (some ⟨w.heap.size, 0, none⟩) 0 n) w' ∧ Ow w' B (.slice (some ⟨w.heap.size, 0, none⟩) 0 n) 0 [] ∧ Kept Old w w' := by
  obtain ⟨i0, hi, hz0, hz1, hz2⟩ := info_parts Tryz.runInfo
  obtain ⟨w', hrun, r1, r2⟩ := run_make_own (P := Tryz.prog) w B 42 54 i0 _ 2 Tryz.underlying42 hi hz0 hz1 .i64 .i64 n (by rw [hz2]; omega) (by simp only [maxLen]; omega) hb
  exact ⟨w', hrun, ⟨r1, fun _ h => by cases h⟩, Kept.grown (Kept.refl _ _) r2 (fun g e _ => by cases e)⟩
theorem Ow.drew {w : World} {B : Nat} {v : Value} {n : Nat} {l : List R} (h : Ow w B v n l) : Ow w.drew B v n l := ⟨h.row, h.fit⟩
theorem Rs.drew {w : World} {A : Option Addr} {n : Nat} {l : List R} (h : Rs w A n l) : Rs w.drew A n l := ⟨h.len, h.fit, h.lies⟩
/-- Behind an append all that was there ahead of the call is as it was. -/
theorem Ow.step {w0 w w' : World} {v : Value} {n : Nat} {l : List R} (h : Ow w w0.heap.size v n l) (K : Kept Old w0 w) (k : Kept (fun k => some k = v.ownBlock) w w') : Kept Old w0 w' :=
  K.join k fun i hi e => by have := (h.own i e).1; omega
theorem Rs.one (w : World) (x : R) (h1 : in64 x.1) (h2 : in64 x.2) (s : Nat) (hs : w.heap.size = s) : Rs (w.alloc (.cells #[.int .i64 x.1, .int .i64 x.2] 54)) (some ⟨s, 0, none⟩) 1 [x] := by
  subst hs
  exact
  ⟨rfl, fun y hy => by obtain rfl := List.mem_singleton.1 hy; exact ⟨h1, h2⟩, fun _ => ⟨w.heap.size, 0, rfl, Blk.lt (Bx.new w x), fun i y hy => by
    have hi := (List.getElem?_eq_some_iff.1 hy).1
    obtain rfl : i = 0 := by simpa using hi
    simp only [List.getElem?_cons_zero, Option.some.injEq] at hy
    subst hy
    exact ⟨(Bx.new w x).c0, (Bx.new w x).c1⟩⟩⟩
theorem Bx.kept2 {w w' : World} {b : Nat} (k : Kept Old w w') (hb : w.heap.size ≤ b) (x y : Value) : Kept Old w ((w'.setCell ⟨b, 0, none⟩ x).setCell ⟨b, 1, none⟩ y) :=
  (k.setCell (p := ⟨b, 0, none⟩) (fun h => absurd h (Nat.not_lt.2 hb)) x).setCell (p := ⟨b, 1, none⟩) (fun h => absurd h (Nat.not_lt.2 hb)) y
/-- What a call that makes a list answers: the list's runs, new memory. -/
def Made1 (L : List R) (w : World) (v : Value) (w' : World) : Prop := ∃ A n c, v = .slice A n c ∧ Rs w' A n L ∧ n ≤ c ∧ ((A = none → c = 0) ∧ ∀ ad, A = some ad → w.heap.size ≤ ad.block) ∧ Kept Old w w'
theorem made_end {L : List R} {w w' : World} {B n : Nat} {v : Value} (h : Ow w' B v n L) (K : Kept Old w w') (hB : w.heap.size ≤ B := by first | exact Nat.le_refl _ | omega) : Made1 L w v w' := by
  have ow := h.own
  obtain ⟨A, c, rfl, r, h1, h2⟩ := h.rs
  refine ⟨A, n, c, rfl, r, h1, ⟨h2, fun ad e => ?_⟩, K⟩
  rcases h.row.2 with ⟨e', _⟩ | ⟨g, cap, cur, e', hb, _⟩
  · injection e' with e1
    rw [e] at e1
    cases e1
  · injection e' with e1
    rw [e] at e1
    injection e1 with e1
    subst e1
    exact Nat.le_trans hB hb
theorem Made1.drew {L : List R} {w w' : World} {v : Value} (h : Made1 L w v w') : Made1 L w v w'.drew := by
  obtain ⟨A, n, c, h1, r, h2, h3, K⟩ := h
  exact ⟨A, n, c, h1, r.drew, h2, h3, K.drew⟩
theorem Made1.drewN {L : List R} {w w' : World} {v : Value} (h : Made1 L w v w') (k : Nat) : Made1 L w v (w'.drewN k) := by
  obtain ⟨A, n, c, h1, r, h2, h3, K⟩ := h
  exact ⟨A, n, c, h1, ⟨r.len, r.fit, r.lies⟩, h2, h3, K.drewN k⟩
end Go.Proofs.YtcndilpaijapkaaGreat.Pc
/- Pieces of pages and of stacks; how far the free stacks of the pools have been told; lists of pieces in blocks apart from each other. Own work; each is proved by a walk through the landed text. -/
namespace Go.Proofs.YtcndilpaijapkaaGreat.Pc
open Go.ChangeShapes Go.WideShapes Go.ChangeAt Go.RowKit
theorem Ow.fr {D : Nat → Prop} {w w' : World} {B : Nat} {v : Value} {n : Nat} {l : List R} (h : Ow w B v n l) (k : Kept D w w') (hd : ∀ g, some g = v.ownBlock → ¬ D g) : Ow w' B v n l := by
  refine ⟨⟨h.row.1, ?_⟩, h.fit⟩
  rcases h.row.2 with hn | ⟨g, cap, cur, rfl, hb, hg, rest⟩
  · exact .inl hn
  · refine .inr ⟨g, cap, cur, rfl, hb, ?_, rest⟩
    rw [k.block g (Array.getElem?_eq_some_iff.1 hg).1 (hd g rfl)]
    exact hg
end Go.Proofs.YtcndilpaijapkaaGreat.Pc
namespace Go.Proofs.YtcndilpaijapkaaGreat.Shp
open Sto
open Go.ChangeShapes Go.WideShapes Go.ChangeAt Go.RowKit
set_option maxRecDepth 100000

theorem pages_piece (a n : Int) (ha : 0 ≤ a ∧ a ≤ 300) (hn : 0 ≤ n ∧ n ≤ 300) (w : World) : Calls Tryz.prog 73 #[.int .i64 a, .int .i64 n] w fun e w' => e = .returned (.agg #[.int .i64 (a * 64), .int .i64 (n * 64)]) ∧ Kept Old w w' := by
  have w1 : IntKind.i64.wrap (a * 64) = a * 64 := IntWalk.i64_in _ (by omega)
  have w2 : IntKind.i64.wrap (n * 64) = n * 64 := IntWalk.i64_in _ (by omega)
  have b := Pc.Bx.new w (a * 64, n * 64)
  have r0 := b.c0
  have r1 := b.c1
  have K := Lib.hid ((Kept.refl Old w).alloc (.cells #[.int .i64 (a * 64), .int .i64 (n * 64)] 54))
  clear b
  go_enter Tryz.func73, Tryz.ntmps73
  go_wp2
  exact bodyPost_ret (v := .agg #[.int .i64 (a * 64), .int .i64 (n * 64)]) (by simp [results, Tryz.results73, go_sem, r0, r1]) rfl ⟨rfl, K.out⟩
theorem stack_piece (a c : Int) (w : World) : Calls Tryz.prog 74 #[.int .i64 a, .int .i64 c] w fun e w' => e = .returned (.agg #[.int .i64 a, .int .i64 (wordsI c)]) ∧ Kept Old w w' := by
  have WC := Lib.hid (fun V => words_any c V)
  go_enter Tryz.func74, Tryz.ntmps74
  go_wp2_with fail
  refine (WC.out _).mono ?_
  rintro e w' ⟨rfl, rfl⟩
  have b := Pc.Bx.new w (a, wordsI c)
  have K := Lib.hid ((Kept.refl Old w).alloc (.cells #[.int .i64 a, .int .i64 (wordsI c)] 54))
  have r0 := b.c0
  have r1 := b.c1
  clear b WC
  go_wp2_with fail
  exact bodyPost_ret (v := .agg #[.int .i64 a, .int .i64 (wordsI c)]) (by simp [results, Tryz.results74, go_sem, r0, r1]) rfl ⟨rfl, K.out⟩
/-- The free stacks of the first n classes. -/
def poolTo (p : Nat → List Prt.Q) : Nat → List Pc
  | 0 => []
  | n + 1 => poolTo p n ++ (if n < 4 then poolC n (p n) else [])
theorem poolTo_8 (p : Nat → List Prt.Q) : poolTo p 8 = poolP p := by
  unfold poolP
  simp [poolTo]
def freeC (p : Nat → List Prt.Q) (c : Nat) : List Nat := if c < 4 then Prt.freeL (p c) else []
theorem poolTo_free (p : Nat → List Prt.Q) (c : Nat) : poolTo p (c + 1) = poolTo p c ++ (freeC p c).map fun (a : Nat) => ((a : Int), wordsI (c : Int)) := by
  show poolTo p c ++ _ = _
  unfold freeC
  by_cases h : c < 4
  · rw [if_pos h, if_pos h]; rfl
  · rw [if_neg h, if_neg h]; rfl
/-- The slice reads as the list. -/
def Reads (W : World) (v : Value) (L : List Pc) : Prop := ∃ A n c, v = .slice A n c ∧ Pc.Rs W A n L ∧ n ≤ c
/-- A list that a call made, in a block from lo on and below hi. -/
structure OwB (W : World) (lo hi : Nat) (v : Value) (n : Nat) (L : List Pc) : Prop where
  ow : Pc.Ow W lo v n L
  hi : ∀ b, some b = v.ownBlock → b < hi
theorem OwB.own {W : World} {lo hi : Nat} {v : Value} {n : Nat} {L : List Pc} (h : OwB W lo hi v n L) : ∀ b, some b = v.ownBlock → lo ≤ b ∧ b < hi := fun b e => ⟨(h.ow.own b e).1, h.hi b e⟩
theorem OwB.fr {D : Nat → Prop} {W W' : World} {lo hi : Nat} {v : Value} {n : Nat} {L : List Pc} (h : OwB W lo hi v n L) (k : Kept D W W') (d : ∀ b, lo ≤ b → b < hi → ¬ D b) : OwB W' lo hi v n L :=
  ⟨h.ow.fr k fun b e => d b (h.own b e).1 (h.own b e).2, h.hi⟩
/-- A list that reads, its block from lo on and below hi. -/
structure RdB (W : World) (lo hi : Nat) (v : Value) (L : List Pc) : Prop where
  rd : Reads W v L
  blk : ∀ b, some b = v.ownBlock → lo ≤ b ∧ b < hi
theorem OwB.rd {W : World} {lo hi : Nat} {v : Value} {n : Nat} {L : List Pc} (h : OwB W lo hi v n L) : RdB W lo hi v L := by
  obtain ⟨A, c, e, r, h1, _⟩ := h.ow.rs
  exact ⟨⟨A, n, c, e, r, h1⟩, h.own⟩
theorem RdB.fr {D : Nat → Prop} {W W' : World} {lo hi : Nat} {v : Value} {L : List Pc} (h : RdB W lo hi v L) (k : Kept D W W') (d : ∀ b, lo ≤ b → b < hi → ¬ D b) : RdB W' lo hi v L := by
  obtain ⟨⟨A, n, c, e, r, h1⟩, b⟩ := h
  refine ⟨⟨A, n, c, e, r.kept k (fun ad ea => ?_), h1⟩, b⟩
  have := b ad.block (by rw [e, ea]; rfl)
  exact d _ this.1 this.2
/-- What Parts tells, list by list. -/
structure PartsOf (nw : Nat) (k : K) (ca : Ca) (live : List Lm.S) (l0 l1 l2 l3 l4 l5 : List Pc) : Prop where
  r : l0 = runsP k.rl
  p : SortOf (poolP k.p) l1
  c : SortOf (outP (cacheL nw ca)) l2
  b : SortOf (outP k.big) l3
  t : SortOf (lateP k.back) l4
  v : l5 = liveP live
theorem PartsOf.one {nw : Nat} {k : K} {ca : Ca} {live : List Lm.S} {l0 l1 l2 l3 l4 l5 m0 m1 m2 m3 m4 m5 : List Pc} (h : PartsOf nw k ca live l0 l1 l2 l3 l4 l5) (g : PartsOf nw k ca live m0 m1 m2 m3 m4 m5) : l0 = m0 ∧ l1 = m1 ∧ l2 = m2 ∧ l3 = m3 ∧ l4 = m4 ∧ l5 = m5 :=
  ⟨h.r.trans g.r.symm, h.p.one g.p, h.c.one g.c, h.b.one g.b, h.t.one g.t, h.v.trans g.v.symm⟩
/-- Seven lists in an api.Parts. -/
def PartsAt (W : World) (e : Value) (l0 l1 l2 l3 l4 l5 l6 : List Pc) : Prop := ∃ v0 v1 v2 v3 v4 v5 v6, e = .agg #[v0, v1, v2, v3, v4, v5, v6] ∧ Reads W v0 l0 ∧ Reads W v1 l1 ∧ Reads W v2 l2 ∧ Reads W v3 l3 ∧ Reads W v4 l4 ∧ Reads W v5 l5 ∧ Reads W v6 l6
theorem Reads.old {W W' : World} {v : Value} {L : List Pc} (h : Reads W v L) (k : Kept Old W W') : Reads W' v L := by
  obtain ⟨A, n, c, e, r, h1⟩ := h
  exact ⟨A, n, c, e, r.old k, h1⟩
theorem Reads.nil (W : World) : Reads W nilS [] := ⟨none, 0, 0, rfl, Pc.Rs.nil _ _, Nat.le_refl _⟩
theorem PartsAt.old {W W' : World} {e : Value} {l0 l1 l2 l3 l4 l5 l6 : List Pc} (h : PartsAt W e l0 l1 l2 l3 l4 l5 l6) (k : Kept Old W W') : PartsAt W' e l0 l1 l2 l3 l4 l5 l6 := by
  obtain ⟨v0, v1, v2, v3, v4, v5, v6, e, r0, r1, r2, r3, r4, r5, r6⟩ := h
  exact ⟨v0, v1, v2, v3, v4, v5, v6, e, r0.old k, r1.old k, r2.old k, r3.old k, r4.old k, r5.old k, r6.old k⟩
def PartsPost (W : World) (nw : Nat) (k : K) (ca : Ca) (live : List Lm.S) (e : Ending) (W' : World) : Prop := ∃ v l0 l1 l2 l3 l4 l5, e = .returned v ∧ PartsAt W' v l0 l1 l2 l3 l4 l5 [] ∧ PartsOf nw k ca live l0 l1 l2 l3 l4 l5 ∧ Kept Old W W'
end Go.Proofs.YtcndilpaijapkaaGreat.Shp
/- A row of pieces that the library's sort has turned: it reads as a list in ascending order of addresses; what the sort leaves alone. Own work, on the library's own contract; no program is walked here. -/
namespace Go.Proofs.YtcndilpaijapkaaGreat.Pc
open Go.ChangeShapes Go.WideShapes Go.ChangeAt Go.RowKit Go.Shelf Go.Lib Go.Sort

def encP (x : R) : List Value := [.int .i64 x.1, .int .i64 x.2]
theorem map_size (w : World) (g : Nat) (f : Array Value → Array Value) : (mapBlock w g f).heap.size = w.heap.size := by unfold mapBlock; simp
theorem map_other (w : World) (g k : Nat) (f : Array Value → Array Value) (h : ¬ k = g) : (mapBlock w g f).heap[k]? = w.heap[k]? := by
  unfold mapBlock
  simp only [Array.getElem?_modify]
  rw [if_neg (fun e => h e.symm)]
theorem kept_sort (w : World) (g off m : Nat) (d : Array R) (os : Array Obj) : Kept (Only g) w (sortWorldK encP 2 w g off m d os) := by
  unfold sortWorldK putRowK putRow
  have s := map_size (Go.Sort.ahead w m) g (putCells id off (flatK encP 2 d))
  refine ⟨rfl, rfl, rfl, ?_, fun k hk hd => ?_⟩
  · rw [size_grow, s]
    exact Nat.le_add_right _ _
  · have e := map_other (Go.Sort.ahead w m) g k (putCells id off (flatK encP 2 d)) hd
    show ((mapBlock (Go.Sort.ahead w m) g (putCells id off (flatK encP 2 d))).heap ++ os)[k]? = _
    rw [Array.getElem?_append_left (by rw [s]; exact hk), e]
    rfl
theorem flat_at (d : Array R) (i : Nat) (hi : i < d.size) : (flatK encP 2 d)[i * 2]! = .int .i64 (d[i]!).1 ∧ (flatK encP 2 d)[i * 2 + 1]! = .int .i64 (d[i]!).2 := by
  rw [get_flatK _ _ _ _ (by omega), get_flatK _ _ _ _ (by omega), show i * 2 / 2 = i by omega, show i * 2 % 2 = 0 by omega, show (i * 2 + 1) / 2 = i by omega, show (i * 2 + 1) % 2 = 1 by omega]
  exact ⟨rfl, rfl⟩
theorem get_list {l : List R} {i : Nat} {x : R} (h : l[i]? = some x) : l.toArray[i]! = x := by
  rw [getElem!_def]
  simp [h]
theorem Ow.ways {w : World} {B : Nat} {v : Value} {n : Nat} {l : List R} (h : Ow w B v n l) : (v = .slice none 0 0 ∧ n = 0) ∨ ∃ g cap, v = .slice (some ⟨g, 0, none⟩) n cap ∧ n ≤ cap ∧ B ≤ g ∧ g < w.heap.size ∧ ∀ i, w.frozen? ⟨g, i, none⟩ = false := by
  rcases h.row.2 with ⟨e, hn⟩ | ⟨g, cap, cur, e, hb, hg, hn, _⟩
  · exact .inl ⟨e, by first | exact hn | (have := h.len; simp_all)⟩
  · have b : Blk w g 54 cur.toList := by first | exact hg | (show w.heap[g]? = _; rw [hg])
    exact .inr ⟨g, cap, e, hn, hb, (Array.getElem?_eq_some_iff.1 hg).1, fun i => Blk.frozen b i⟩
theorem Rs.holds {w : World} {g n : Nat} {l : List R} (h : Rs w (some ⟨g, 0, none⟩) n l) (f : ∀ i, w.frozen? ⟨g, i, none⟩ = false) : HoldsK encP 2 w g 0 l.toArray := by
  intro j hj
  have hj : j < l.toArray.size * 2 := by rw [size_flatK] at hj; exact hj
  have hl : l.toArray.size = l.length := rfl
  have hi : j / 2 < l.length := by omega
  have e : l[j / 2]? = some l[j / 2] := List.getElem?_eq_getElem hi
  obtain ⟨g', o', e', _, c⟩ := h.lies (by have := h.len; omega)
  injection e' with e'
  injection e' with e1 e2
  subst e1
  subst e2
  obtain ⟨f0, f1⟩ := flat_at l.toArray (j / 2) (by omega)
  rw [get_list e] at f0 f1
  refine ⟨?_, f _⟩
  rcases Nat.mod_two_eq_zero_or_one j with m | m
  · rw [show j / 2 * 2 = j by omega] at f0
    rw [f0]
    have := (c _ _ e).1
    rw [show 0 + j / 2 * 2 = 0 + j by omega] at this
    exact this
  · rw [show j / 2 * 2 + 1 = j by omega] at f1
    rw [f1]
    have := (c _ _ e).2
    rw [show 0 + j / 2 * 2 + 1 = 0 + j by omega] at this
    exact this
theorem rs_holds {w : World} {g n : Nat} {M : List R} (h : HoldsK encP 2 w g 0 M.toArray) (hg : g < w.heap.size) (hn : M.length = n) (fit : ∀ x ∈ M, in64 x.1 ∧ in64 x.2) : Rs w (some ⟨g, 0, none⟩) n M := by
  refine ⟨hn, fit, fun _ => ⟨g, 0, rfl, hg, fun i x hx => ?_⟩⟩
  have hi := (List.getElem?_eq_some_iff.1 hx).1
  have hs : M.toArray.size = M.length := rfl
  obtain ⟨f0, f1⟩ := flat_at M.toArray i (by omega)
  rw [get_list hx] at f0 f1
  have a := (h (i * 2) (by rw [size_flatK]; omega)).1
  have b := (h (i * 2 + 1) (by rw [size_flatK]; omega)).1
  rw [f0] at a
  rw [f1] at b
  exact ⟨a, b⟩
theorem ltP (x y : R) (cf : R → R → Int) (h : ∀ x y : R, cf x y < 0 ↔ x.1 < y.1) : ltOf cf x y = decide (x.1 < y.1) := by
  unfold ltOf
  by_cases c : x.1 < y.1
  · rw [decide_eq_true c, decide_eq_true ((h x y).2 c)]
  · rw [decide_eq_false c, decide_eq_false (fun q => c ((h x y).1 q))]
theorem swoP (cf : R → R → Int) (h : ∀ x y : R, cf x y < 0 ↔ x.1 < y.1) : SWO (ltOf cf) where
  irrefl x := by rw [ltP x x cf h]; simp
  trans x y z h1 h2 := by rw [ltP _ _ cf h] at *; simp at *; omega
  ntrans x y z h1 h2 := by rw [ltP _ _ cf h] at *; simp at *; omega
/-- What the sort leaves is the list in ascending order, where no address stands twice. -/
theorem sorted_of {l : List R} {d : Array R} {cf : R → R → Int} (h : ∀ x y : R, cf x y < 0 ↔ x.1 < y.1) (p : PermIn 0 l.toArray.size l.toArray d) (s : SortedIn (ltOf cf) 0 l.toArray.size d) (nd : l.Pairwise (fun x y => x.1 ≠ y.1)) : Sto.SortOf l d.toList := by
  obtain ⟨hsz, _, hp⟩ := p
  have e1 : d.extract 0 l.toArray.size = d := by rw [← hsz]; exact Array.extract_size
  have e2 : l.toArray.extract 0 l.toArray.size = l.toArray := Array.extract_size
  rw [e1, e2] at hp
  have hp : d.toList.Perm l := hp
  refine ⟨hp, ?_⟩
  have nd' := (hp.pairwise_iff (R := fun x y : R => x.1 ≠ y.1) (fun h => h.symm)).2 nd
  rw [List.pairwise_iff_getElem] at nd' ⊢
  intro i j hi hj hij
  have ne := nd' i j hi hj hij
  have hi' : i < d.size := by simpa using hi
  have hj' : j < d.size := by simpa using hj
  have so := s i j (Nat.zero_le _) hij (by omega)
  rw [ltP _ _ cf h] at so
  have so := of_decide_eq_false so
  rw [getElem!_pos d i hi', getElem!_pos d j hj'] at so
  have a : d.toList[i] = d[i] := Array.getElem_toList ..
  have b : d.toList[j] = d[j] := Array.getElem_toList ..
  rw [a, b] at ne ⊢
  omega
end Go.Proofs.YtcndilpaijapkaaGreat.Pc
