/-
  A slice of live stacks that reads as a list (RsS), a live stack in a block (BxS), a slice of live stacks that is owned whole (OwS). Own work; no program is walked here.
-/
import Derived.Test.YtmajgfpfbieakaaRows
import Derived.Test.YtmajgfpfbieakaaKept
import Derived.Test.YtmajgfpfbieakaaShell
import Derived.Test.YtmajgfpfbieakaaModelMath
import Derived.WalkKit
import Derived.OwnWalk
import Derived.Maps.AppendAt
import Derived.Deep.AppendLies
import Derived.Deep.Slices
import Derived.Deep.SlicePairs
namespace Go.Proofs.Ytmajgfpfbieakaa.Lm
open Go.ChangeShapes Go.WideShapes Go.ChangeAt Go.RowKit
set_option maxRecDepth 100000

abbrev spn (x : S) : Value := .agg #[.int .i64 x.a, .int .i64 x.n, .int .i64 x.c]
/-- The three cells of a span at offset o of block g. -/
def At3 (w : World) (g o : Nat) (x : S) : Prop := w.cell? ⟨g, o, none⟩ = some (.int .i64 x.a) ∧ w.cell? ⟨g, o + 1, none⟩ = some (.int .i64 x.n) ∧ w.cell? ⟨g, o + 2, none⟩ = some (.int .i64 x.c)
/-- The slice at A has n spans, those of l. -/
structure RsS (w : World) (A : Option Addr) (n : Nat) (l : List S) : Prop where
  len : l.length = n
  fit : ∀ x ∈ l, Fit x
  lies : 0 < n → ∃ g o, A = some ⟨g, o, none⟩ ∧ g < w.heap.size ∧ ∀ (i : Nat) (x : S), l[i]? = some x → At3 w g (o + i * 3) x
theorem At3.kept {D : Nat → Prop} {w w' : World} {g o : Nat} {x : S} (h : At3 w g o x) (k : Kept D w w') (hg : g < w.heap.size) (hd : ¬ D g) : At3 w' g o x :=
  ⟨(k.cell (p := ⟨g, o, none⟩) hg hd).trans h.1, (k.cell (p := ⟨g, o + 1, none⟩) hg hd).trans h.2.1, (k.cell (p := ⟨g, o + 2, none⟩) hg hd).trans h.2.2⟩
theorem RsS.kept {D : Nat → Prop} {w w' : World} {A : Option Addr} {n : Nat} {l : List S} (h : RsS w A n l) (k : Kept D w w') (hd : ∀ ad, A = some ad → ¬ D ad.block) : RsS w' A n l :=
  ⟨h.len, h.fit, fun hn => by
    obtain ⟨g, o, rfl, hg, c⟩ := h.lies hn
    have hd' : ¬ D g := hd _ rfl
    exact ⟨g, o, rfl, Nat.lt_of_lt_of_le hg k.size, fun i x hx => (c i x hx).kept k hg hd'⟩⟩
theorem RsS.old {w w' : World} {A : Option Addr} {n : Nat} {l : List S} (h : RsS w A n l) (k : Kept Old w w') : RsS w' A n l := h.kept k fun _ _ x => x
theorem RsS.nil (w : World) (A : Option Addr) : RsS w A 0 [] := ⟨rfl, fun _ h => (by cases h), fun h => absurd h (Nat.lt_irrefl 0)⟩
theorem RsS.get {w : World} {A : Option Addr} {n : Nat} {l : List S} (h : RsS w A n l) {k : Nat} (hk : k < n) : ∃ (g o : Nat) (x : S), A = some ⟨g, o, none⟩ ∧ g < w.heap.size ∧ l[k]? = some x ∧ Fit x ∧ w.cell? ⟨g, o + k * 3, none⟩ = some (.int .i64 x.a) ∧ w.cell? ⟨g, o + k * 3 + 1, none⟩ = some (.int .i64 x.n) ∧ w.cell? ⟨g, o + k * 3 + 2, none⟩ = some (.int .i64 x.c) := by
  obtain ⟨g, o, rfl, hg, c⟩ := h.lies (by omega)
  have hl : k < l.length := by have := h.len; omega
  have e : l[k]? = some l[k] := List.getElem?_eq_getElem hl
  have f := h.fit _ (List.getElem_mem hl)
  exact ⟨g, o, l[k], rfl, hg, e, f, (c k _ e).1, (c k _ e).2.1, (c k _ e).2.2⟩
theorem getS_len {w : World} {A : Option Addr} {n : Nat} {l : List S} (h : RsS w A n l) {k : Nat} {x : S} (hx : l[k]? = some x) : k < n := by
  have := (List.getElem?_eq_some_iff.1 hx).1
  have := h.len
  omega

/-! ### A span in a block -/
def BxS (w : World) (b : Nat) (x : S) : Prop := Blk w b 40 [.int .i64 x.a, .int .i64 x.n, .int .i64 x.c]
theorem BxS.c0 {w : World} {b : Nat} {x : S} (h : BxS w b x) : w.cell? ⟨b, 0, none⟩ = some (.int .i64 x.a) := Blk.cell h 0
theorem BxS.c1 {w : World} {b : Nat} {x : S} (h : BxS w b x) : w.cell? ⟨b, 1, none⟩ = some (.int .i64 x.n) := Blk.cell h 1
theorem BxS.c2 {w : World} {b : Nat} {x : S} (h : BxS w b x) : w.cell? ⟨b, 2, none⟩ = some (.int .i64 x.c) := Blk.cell h 2
theorem BxS.new (w : World) (x : S) : BxS (w.alloc (.cells #[.int .i64 x.a, .int .i64 x.n, .int .i64 x.c] 40)) w.heap.size x := Blk.new w _ _
theorem BxS.kept {D : Nat → Prop} {w w' : World} {b : Nat} {x : S} (h : BxS w b x) (k : Kept D w w') (hd : ¬ D b) : BxS w' b x := Blk.kept h k hd
theorem BxS.old {w w' : World} {b : Nat} {x : S} (h : BxS w b x) (k : Kept Old w w') : BxS w' b x := Blk.kept h k (fun x => x)
theorem BxS.alloc {w : World} {b : Nat} {x : S} (h : BxS w b x) (o : Obj) : BxS (w.alloc o) b x := Blk.alloc h o

/-! ### A slice that is owned -/
/-- Spans as cells. -/
def CS : List S → List Value
  | [] => []
  | x :: t => .int .i64 x.a :: .int .i64 x.n :: .int .i64 x.c :: CS t
theorem CS_length (l : List S) : (CS l).length = l.length * 3 := by
  induction l with
  | nil => rfl
  | cons x t ih => simp only [CS, List.length_cons, ih]; omega
theorem CS_append (a b : List S) : CS (a ++ b) = CS a ++ CS b := by
  induction a with
  | nil => rfl
  | cons x t ih => simp only [List.cons_append, CS, ih]
theorem CS_one (l : List S) : ∀ u ∈ CS l, u.oneCell' = true := by
  induction l with
  | nil => intro u hu; cases hu
  | cons x t ih =>
    intro u hu
    simp only [CS, List.mem_cons] at hu
    rcases hu with rfl | rfl | rfl | hu
    · rfl
    · rfl
    · rfl
    · exact ih u hu
theorem C_take (l : List S) (i : Nat) : CS (l.take i) = (CS l).take (i * 3) := by
  induction l generalizing i with
  | nil => simp [CS]
  | cons x t ih =>
    cases i with
    | zero => simp [CS]
    | succ i => rw [show (i + 1) * 3 = i * 3 + 3 by omega]; simp [CS, ih]
theorem C_drop (l : List S) (i : Nat) : CS (l.drop i) = (CS l).drop (i * 3) := by
  induction l generalizing i with
  | nil => simp [CS]
  | cons x t ih =>
    cases i with
    | zero => simp [CS]
    | succ i => rw [show (i + 1) * 3 = i * 3 + 3 by omega]; simp [CS, ih]
theorem CS_get (l : List S) (i : Nat) (x : S) (h : l[i]? = some x) : (CS l)[i * 3]? = some (.int .i64 x.a) ∧ (CS l)[i * 3 + 1]? = some (.int .i64 x.n) ∧ (CS l)[i * 3 + 2]? = some (.int .i64 x.c) := by
  induction l generalizing i with
  | nil => cases h
  | cons y t ih =>
    cases i with
    | zero => simp only [List.getElem?_cons_zero, Option.some.injEq] at h; subst h; exact ⟨rfl, rfl, rfl⟩
    | succ i =>
      have := ih i (by simpa using h)
      rw [show (i + 1) * 3 = i * 3 + 1 + 1 + 1 by omega]
      simpa [CS] using this
theorem CS_at (l : List S) (j : Nat) (u : Value) (h : (CS l)[j]? = some u) : ∃ i x, l[i]? = some x ∧ ((j = i * 3 ∧ u = .int .i64 x.a) ∨ (j = i * 3 + 1 ∧ u = .int .i64 x.n) ∨ (j = i * 3 + 2 ∧ u = .int .i64 x.c)) := by
  have hj : j < (CS l).length := (List.getElem?_eq_some_iff.1 h).1
  rw [CS_length] at hj
  have hi : j / 3 < l.length := by omega
  have e : l[j / 3]? = some l[j / 3] := List.getElem?_eq_getElem hi
  have g := CS_get l (j / 3) _ e
  refine ⟨j / 3, _, e, ?_⟩
  rcases (show j = j / 3 * 3 ∨ j = j / 3 * 3 + 1 ∨ j = j / 3 * 3 + 2 by omega) with m | m | m
  · refine .inl ⟨m, ?_⟩
    rw [← m] at g
    rw [g.1] at h
    exact (Option.some.inj h).symm
  · refine .inr (.inl ⟨m, ?_⟩)
    have q := g.2.1
    rw [← m] at q
    rw [q] at h
    exact (Option.some.inj h).symm
  · refine .inr (.inr ⟨m, ?_⟩)
    have q := g.2.2
    rw [← m] at q
    rw [q] at h
    exact (Option.some.inj h).symm
/-- The slice value v is n spans, those of l, in blocks from B on (or nil). -/
structure OwS (w : World) (B : Nat) (v : Value) (n : Nat) (l : List S) : Prop where
  row : w.ownsRow B 40 3 v n (CS l)
  fit : ∀ x ∈ l, Fit x
theorem OwS.len {w : World} {B : Nat} {v : Value} {n : Nat} {l : List S} (h : OwS w B v n l) : l.length = n := by
  have := h.row.1
  rw [CS_length] at this
  omega
theorem OwS.rs {w : World} {B : Nat} {v : Value} {n : Nat} {l : List S} (h : OwS w B v n l) : ∃ A c, v = .slice A n c ∧ RsS w A n l ∧ n ≤ c ∧ (A = none → c = 0) := by
  have hlen := h.len
  rcases h.row.2 with ⟨rfl, rfl⟩ | ⟨g, cap, cur, rfl, hb, hg, hn, hm, hs, ht⟩
  · obtain rfl : l = [] := List.eq_nil_of_length_eq_zero hlen
    exact ⟨none, 0, rfl, RsS.nil _ _, Nat.le_refl _, fun _ => rfl⟩
  · refine ⟨_, cap, rfl, ⟨hlen, h.fit, fun _ => ⟨g, 0, rfl, (Array.getElem?_eq_some_iff.1 hg).1, fun i x hx => ?_⟩⟩, hn, fun h => by cases h⟩
    have hi := (List.getElem?_eq_some_iff.1 hx).1
    have gx := CS_get l i x hx
    rw [← ht, List.getElem?_take, List.getElem?_take, List.getElem?_take, if_pos (by omega), if_pos (by omega), if_pos (by omega)] at gx
    unfold At3
    rw [Nat.zero_add, cell_of_row w g _ cur 40 (0, 0) hg, cell_of_row w g _ cur 40 (0, 0) hg, cell_of_row w g _ cur 40 (0, 0) hg]
    simpa using gx
theorem OwS.kept {D : Nat → Prop} {w w' : World} {B : Nat} {v : Value} {n : Nat} {l : List S} (h : OwS w B v n l) (k : Kept D w w') (hd : ∀ g, v.ownBlock = some g → ¬ D g) : OwS w' B v n l := by
  refine ⟨⟨h.row.1, ?_⟩, h.fit⟩
  rcases h.row.2 with hn | ⟨g, cap, cur, rfl, hb, hg, rest⟩
  · exact .inl hn
  · refine .inr ⟨g, cap, cur, rfl, hb, ?_, rest⟩
    rw [k.block g (Array.getElem?_eq_some_iff.1 hg).1 (hd g rfl)]
    exact hg
theorem OwS.old {w w' : World} {B : Nat} {v : Value} {n : Nat} {l : List S} (h : OwS w B v n l) (k : Kept Old w w') : OwS w' B v n l := h.kept k (fun _ _ x => x)
theorem OwS.alloc {w : World} {B : Nat} {v : Value} {n : Nat} {l : List S} (h : OwS w B v n l) (o : Obj) : OwS (w.alloc o) B v n l := ⟨h.row.alloc o, h.fit⟩
theorem OwS.nil (w : World) (B : Nat) : OwS w B (.slice none 0 0) 0 [] := ⟨World.ownsRow_nil _ _ _ _, fun _ h => by cases h⟩
theorem OwS.made (w : World) (B cap : Nat) (cur : Array Value) (hb : B ≤ w.heap.size) (hm : cap ≤ maxLen) (hs : cur.size = cap * 3) : OwS (w.alloc (.cells cur 40)) B (.slice (some ⟨w.heap.size, 0, none⟩) 0 cap) 0 [] :=
  ⟨World.ownsRow_made w cur cap hb hm hs, fun _ h => by cases h⟩
theorem Try.spanInfo : (Try.prog.info? 40).map (fun i => (i.zero, i.size, i.bytes)) = some (some (.agg #[.int .i64 0, .int .i64 0, .int .i64 0]), 3, 24) := by kernel_rfl
theorem RsS.cells {w : World} {ad : Addr} {n : Nat} {l : List S} (h : RsS w (some ad) n l) : ∀ j u, (CS l)[j]? = some u → w.cell? (ad.add j) = some u := by
  intro j u hu
  obtain ⟨i, x, hx, hju⟩ := CS_at l j u hu
  obtain ⟨g, o, e, _, c⟩ := h.lies (Nat.lt_of_le_of_lt (Nat.zero_le _) (getS_len h hx))
  injection e with e
  subst e
  rw [addr_add]
  rcases hju with ⟨rfl, rfl⟩ | ⟨rfl, rfl⟩ | ⟨rfl, rfl⟩
  · exact (c i x hx).1
  · exact (c i x hx).2.1
  · exact (c i x hx).2.2
/-- append of the spans at A. -/
theorem appS_own (w : World) (B : Nat) (v : Value) (n : Nat) (l : List S) (h : OwS w B v n l) (A : Option Addr) (m c : Nat) (news : List S) (hr : RsS w A m news) (hA : A = none → m = 0 ∧ c = 0) (hn : n ≤ 1000) (hm : m ≤ 1000) (hb : B ≤ w.heap.size) :
    ∃ v' w', (Builtin.append_ #[22, 22] 22 #[v, .slice A m c]).run Try.prog w = .ok v' w' ∧ OwS w' B v' (n + m) (l ++ news) ∧ Kept (fun k => some k = v.ownBlock) w w' ∧ (v'.ownBlock = v.ownBlock ∨ v'.ownBlock = some w.heap.size) := by
  obtain ⟨i0, hi, hz0, hz1, hz2⟩ := info_parts Try.spanInfo
  cases A with
  | none =>
    obtain ⟨rfl, rfl⟩ := hA rfl
    obtain rfl : news = [] := List.eq_nil_of_length_eq_zero hr.len
    exact ⟨v, w, run_append_owned_none (P := Try.prog) (w := w) B 22 22 40 i0 3 Try.underlying22 hi v n (CS l) h.row, by simpa using h, Kept.refl _ _, .inl rfl⟩
  | some ad =>
    obtain ⟨v', w', hrun, ho, hg, _, hat⟩ := run_append_own_at (P := Try.prog) w B 22 22 40 i0 _ 3 24 Try.underlying22 hi hz0 hz1 hz2 rfl (by omega) v n (CS l) h.row ad m c (CS news) (by rw [CS_length, hr.len]) hr.cells (CS_one news) (by simp only [maxLen]; omega) (by omega) hb
    rw [← CS_append] at ho
    exact ⟨v', w', hrun, ⟨ho, fun x hx => (List.mem_append.1 hx).elim (h.fit x) (hr.fit x)⟩, Kept.grown (Kept.refl _ _) hg (fun g e _ => e.symm), hat⟩
theorem OwS.own {w : World} {B : Nat} {v : Value} {n : Nat} {l : List S} (h : OwS w B v n l) : ∀ k, some k = v.ownBlock → B ≤ k ∧ k < w.heap.size := fun k hk => h.row.lt k hk.symm
/-- The run stated at the operation. -/
theorem appS_wp {ops : Array Oper} {rest : List Oper} {o : Oper} {a : Act} {Q : Exit → Act → World → Prop} {w : World} (hgd : o.guard = none) (s x : Operand)
    (ho : o.op = .call { callee := .builtin .append, args := #[s, x], argTypes := #[22, 22] }) (hty : o.type = 22)
    (B : Nat) (v : Value) (n : Nat) (l : List S) (hs : a.eval s = v) (h : OwS w B v n l) (A : Option Addr) (m c : Nat) (news : List S) (hx : a.eval x = .slice A m c) (hr : RsS w A m news) (hA : A = none → m = 0 ∧ c = 0) (hn : n ≤ 1000) (hm : m ≤ 1000) (hb : B ≤ w.heap.size) (N : Nat) (hN : n + m = N) (L : List S) (hL : l ++ news = L)
    (go : ∀ v' w', Hid (OwS w' B v' N L) → Hid (Kept (fun k => some k = v.ownBlock) w w') → Hid (v'.ownBlock = v.ownBlock ∨ v'.ownBlock = some w.heap.size) → wpList Try.prog ops Q rest (a.put o.dst v') w') : wpList Try.prog ops Q (o :: rest) a w := by
  subst hN
  subst hL
  refine wpList_plain hgd fun K hK => ?_
  obtain ⟨v', w', hrun, h2, h3, h4⟩ := appS_own w B v n l h A m c news hr hA hn hm hb
  unfold Oper.wp execOp
  simp only [ho, hty, resolve, invoke, builtin, Sem.run_bind, Sem.run_pure, Result.andThen_ok, List.map_toArray, List.map_cons, List.map_nil, hs, hx, hrun]
  exact hK _ _ (go v' w' h2 h3 h4)
theorem appS_step {ops : Array Oper} {o : Oper} {a : Act} {K : Act → World → Prop} {Q : Exit → Act → World → Prop} {E : Prop} {w : World} (hgd : o.guard = none) (s x : Operand)
    (ho : o.op = .call { callee := .builtin .append, args := #[s, x], argTypes := #[22, 22] }) (hty : o.type = 22)
    (B : Nat) (v : Value) (n : Nat) (l : List S) (hs : a.eval s = v) (h : OwS w B v n l) (A : Option Addr) (m c : Nat) (news : List S) (hx : a.eval x = .slice A m c) (hr : RsS w A m news) (hA : A = none → m = 0 ∧ c = 0) (hn : n ≤ 1000) (hm : m ≤ 1000) (hb : B ≤ w.heap.size) (N : Nat) (hN : n + m = N) (L : List S) (hL : l ++ news = L)
    (go : ∀ v' w', Hid (OwS w' B v' N L) → Hid (Kept (fun k => some k = v.ownBlock) w w') → Hid (v'.ownBlock = v.ownBlock ∨ v'.ownBlock = some w.heap.size) → K (a.put o.dst v') w') :
    if Region.wanted o (yielded ops a.tmps) = true then Oper.wp Try.prog o a w K Q else E := by
  subst hN
  subst hL
  have hw : Region.wanted o (yielded ops a.tmps) = true := by simp [Region.wanted, hgd]
  rw [if_pos hw]
  obtain ⟨v', w', hrun, h2, h3, h4⟩ := appS_own w B v n l h A m c news hr hA hn hm hb
  unfold Oper.wp execOp
  simp only [ho, hty, resolve, invoke, builtin, Sem.run_bind, Sem.run_pure, Result.andThen_ok, List.map_toArray, List.map_cons, List.map_nil, hs, hx, hrun]
  exact go v' w' h2 h3 h4
/-! ### Cuts and makes -/
theorem RsS.take {w : World} {A : Option Addr} {n : Nat} {l : List S} (h : RsS w A n l) {i : Nat} (hi : i ≤ n) : RsS w A i (l.take i) :=
  ⟨by have := h.len; simp; omega, fun x hx => h.fit x (List.mem_of_mem_take hx), fun h0 => by
    obtain ⟨g, o, e, hg, c⟩ := h.lies (by omega)
    refine ⟨g, o, e, hg, fun j x hx => c j x ?_⟩
    have := (List.getElem?_eq_some_iff.1 hx).1
    rw [List.length_take] at this
    rw [List.getElem?_take, if_pos (by omega)] at hx
    exact hx⟩
theorem RsS.drop {w : World} {g o n : Nat} {l : List S} (h : RsS w (some ⟨g, o, none⟩) n l) {i : Nat} (A : Option Addr) (hA : i < n → A = some ⟨g, o + i * 3, none⟩) : RsS w A (n - i) (l.drop i) :=
  ⟨by have := h.len; simp; omega, fun x hx => h.fit x (List.mem_of_mem_drop hx), fun h0 => by
    obtain ⟨g', o', e, hg, c⟩ := h.lies (by omega)
    injection e with e
    injection e with e1 e2
    subst e1
    subst e2
    refine ⟨g, o + i * 3, hA (by omega), hg, fun j x hx => ?_⟩
    rw [List.getElem?_drop] at hx
    have := c (i + j) x hx
    rw [show o + i * 3 + j * 3 = o + (i + j) * 3 by omega]
    exact this⟩
theorem OwS.drew {w : World} {B : Nat} {v : Value} {n : Nat} {l : List S} (h : OwS w B v n l) : OwS w.drew B v n l := ⟨h.row, h.fit⟩
theorem RsS.drew {w : World} {A : Option Addr} {n : Nat} {l : List S} (h : RsS w A n l) : RsS w.drew A n l := ⟨h.len, h.fit, h.lies⟩
theorem RsS.alloc {w : World} {A : Option Addr} {n : Nat} {l : List S} (h : RsS w A n l) (o : Obj) : RsS (w.alloc o) A n l := h.old ((Kept.refl _ _).alloc o)
/-- Behind an append all that was there ahead of the call is as it was. -/
theorem OwS.step {w0 w w' : World} {v : Value} {n : Nat} {l : List S} (h : OwS w w0.heap.size v n l) (K : Kept Old w0 w) (k : Kept (fun k => some k = v.ownBlock) w w') : Kept Old w0 w' :=
  K.join k fun i hi e => by have := (h.own i e).1; omega
theorem RsS.one (w : World) (x : S) (h : Fit x) (s : Nat) (hs : w.heap.size = s) : RsS (w.alloc (.cells #[.int .i64 x.a, .int .i64 x.n, .int .i64 x.c] 40)) (some ⟨s, 0, none⟩) 1 [x] := by
  subst hs
  exact
  ⟨rfl, fun y hy => by obtain rfl := List.mem_singleton.1 hy; exact h, fun _ => ⟨w.heap.size, 0, rfl, Blk.lt (BxS.new w x), fun i y hy => by
    have hi := (List.getElem?_eq_some_iff.1 hy).1
    obtain rfl : i = 0 := by simpa using hi
    simp only [List.getElem?_cons_zero, Option.some.injEq] at hy
    subst hy
    exact ⟨(BxS.new w x).c0, (BxS.new w x).c1, (BxS.new w x).c2⟩⟩⟩
/-- What a call that makes a list answers: the list's stacks, new memory. -/
def MadeS (L : List S) (w : World) (v : Value) (w' : World) : Prop := ∃ A n c, v = .slice A n c ∧ RsS w' A n L ∧ n ≤ c ∧ ((A = none → c = 0) ∧ ∀ ad, A = some ad → w.heap.size ≤ ad.block) ∧ Kept Old w w'
theorem madeS_end {L : List S} {w w' : World} {B n : Nat} {v : Value} (h : OwS w' B v n L) (K : Kept Old w w') (hB : w.heap.size ≤ B := by first | exact Nat.le_refl _ | omega) : MadeS L w v w' := by
  obtain ⟨A, c, rfl, r, h1, h2⟩ := h.rs
  refine ⟨A, n, c, rfl, r, h1, ⟨h2, fun ad e => ?_⟩, K⟩
  rcases h.row.2 with ⟨e', _⟩ | ⟨g, cap, cur, e', hb, _⟩
  · injection e' with e1
    rw [e] at e1
    cases e1
  · injection e' with e1
    rw [e] at e1
    injection e1 with e1
    subst e1
    exact Nat.le_trans hB hb
theorem MadeS.drew {L : List S} {w w' : World} {v : Value} (h : MadeS L w v w') : MadeS L w v w'.drew := by
  obtain ⟨A, n, c, h1, r, h2, h3, K⟩ := h
  exact ⟨A, n, c, h1, r.drew, h2, h3, K.drew⟩
theorem MadeS.kept {L : List S} {w w' : World} {v : Value} (h : MadeS L w v w') : Kept Old w w' := by
  obtain ⟨_, _, _, _, _, _, _, K⟩ := h
  exact K
theorem MadeS.form {L : List S} {w w' : World} {v : Value} (h : MadeS L w v w') : ∃ A n c, v = .slice A n c := by
  obtain ⟨A, n, c, h1, _⟩ := h
  exact ⟨A, n, c, h1⟩
theorem MadeS.from {L : List S} {w w1 w2 : World} {v : Value} (h : MadeS L w1 v w2) (k : Kept Old w w1) : MadeS L w v w2 := by
  obtain ⟨A, n, c, h1, r, h2, h3, K⟩ := h
  exact ⟨A, n, c, h1, r, h2, ⟨h3.1, fun ad e => Nat.le_trans k.size (h3.2 ad e)⟩, k.trans K⟩
theorem MadeS.old {L : List S} {w w1 w2 : World} {v : Value} (h : MadeS L w v w1) (k : Kept Old w1 w2) : MadeS L w v w2 := by
  obtain ⟨A, n, c, h1, r, h2, h3, K⟩ := h
  exact ⟨A, n, c, h1, r.old k, h2, h3, K.trans k⟩
theorem MadeS.of_nil {w w' : World} (k : Kept Old w w') : MadeS [] w (.slice none 0 0) w' := ⟨none, 0, 0, rfl, RsS.nil _ _, Nat.le_refl _, ⟨fun _ => rfl, fun _ h => by cases h⟩, k⟩
theorem emptyS (V : World) : OwS (V.alloc (.cells #[] 40)) V.heap.size (.slice (some ⟨V.heap.size, 0, none⟩) 0 0) 0 [] := OwS.made V V.heap.size 0 #[] (Nat.le_refl _) (Nat.zero_le _) rfl
/-- A make of a slice with room for n. -/
theorem make_lives (w : World) (B n : Nat) (hn : n ≤ 1000) (hb : B ≤ w.heap.size) :
    ∃ w', (Instr.makeSlice 22 (.int .i64 0) (.int .i64 (n : Int))).run Try.prog w = .ok (.slice (some ⟨w.heap.size, 0, none⟩) 0 n) w' ∧ OwS w' B (.slice (some ⟨w.heap.size, 0, none⟩) 0 n) 0 [] ∧ Kept Old w w' := by
  obtain ⟨i0, hi, hz0, hz1, hz2⟩ := info_parts Try.spanInfo
  obtain ⟨w', hrun, r1, r2⟩ := run_make_own (P := Try.prog) w B 22 40 i0 _ 3 Try.underlying22 hi hz0 hz1 .i64 .i64 n (by rw [hz2]; omega) (by simp only [maxLen]; omega) hb
  exact ⟨w', hrun, ⟨r1, fun _ h => by cases h⟩, Kept.grown (Kept.refl _ _) r2 (fun g e _ => by cases e)⟩
theorem make_wpS {ops : Array Oper} {rest : List Oper} {o : Oper} {a : Act} {Q : Exit → Act → World → Prop} {w : World} (hg : o.guard = none) (lo hi : Operand) (hop : o.op = Op.makeSlice 22 lo hi) (B n : Nat) (X : Int) (hl : a.eval lo = .int .i64 0) (hc : a.eval hi = .int .i64 X) (hX : X = (n : Int)) (hn : n ≤ 1000) (hb : B ≤ w.heap.size)
    (go : ∀ w', Hid (OwS w' B (.slice (some ⟨w.heap.size, 0, none⟩) 0 n) 0 []) → Hid (Kept Old w w') → wpList Try.prog ops Q rest (a.put o.dst (.slice (some ⟨w.heap.size, 0, none⟩) 0 n)) w') : wpList Try.prog ops Q (o :: rest) a w := by
  subst hX
  refine wpList_plain hg fun K hK => ?_
  obtain ⟨w', hrun, r1, r2⟩ := make_lives w B n hn hb
  unfold Oper.wp
  simp [execOp, hop, hl, hc, hrun, Result.andThen]
  exact hK _ _ (go w' r1 r2)
end Go.Proofs.Ytmajgfpfbieakaa.Lm
