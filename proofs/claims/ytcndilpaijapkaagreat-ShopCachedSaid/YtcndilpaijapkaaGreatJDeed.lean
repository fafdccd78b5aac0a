/-
  Joined texts of Deed; own work.
-/
import Derived.Test.YtcndilpaijapkaaGreatRows
import Derived.WalkKit
import Derived.OwnWalk
import Derived.Maps.AppendAt
import Derived.Deep.AppendLies
import Derived.Deep.Slices
import Derived.Deep.SlicePairs
import Derived.Test.YtcndilpaijapkaaGreatJBase
import Derived.Test.YtcndilpaijapkaaGreatJLive
/- A slice of deeds that reads as a list (RsD), a deed in a block (BxD), a slice of deeds that is owned whole (OwD). Own work; no program is walked here. -/
namespace Go.Proofs.YtcndilpaijapkaaGreat.Lm
open Go.ChangeShapes Go.WideShapes Go.ChangeAt Go.RowKit
set_option maxRecDepth 100000

abbrev ded (x : D) : Value := .agg #[.int .i64 x.k, .int .i64 x.n, .int .i64 x.a, .int .i64 x.c]
/-- The three cells of a span at offset o of block g. -/
def At4 (w : World) (g o : Nat) (x : D) : Prop := w.cell? ⟨g, o, none⟩ = some (.int .i64 x.k) ∧ w.cell? ⟨g, o + 1, none⟩ = some (.int .i64 x.n) ∧ w.cell? ⟨g, o + 2, none⟩ = some (.int .i64 x.a) ∧ w.cell? ⟨g, o + 3, none⟩ = some (.int .i64 x.c)
/-- The slice at A has n spans, those of l. -/
structure RsD (w : World) (A : Option Addr) (n : Nat) (l : List D) : Prop where
  len : l.length = n
  fit : ∀ x ∈ l, FitD x
  lies : 0 < n → ∃ g o, A = some ⟨g, o, none⟩ ∧ g < w.heap.size ∧ ∀ (i : Nat) (x : D), l[i]? = some x → At4 w g (o + i * 4) x
theorem At4.kept {E : Nat → Prop} {w w' : World} {g o : Nat} {x : D} (h : At4 w g o x) (k : Kept E w w') (hg : g < w.heap.size) (hd : ¬ E g) : At4 w' g o x :=
  ⟨(k.cell (p := ⟨g, o, none⟩) hg hd).trans h.1, (k.cell (p := ⟨g, o + 1, none⟩) hg hd).trans h.2.1, (k.cell (p := ⟨g, o + 2, none⟩) hg hd).trans h.2.2.1, (k.cell (p := ⟨g, o + 3, none⟩) hg hd).trans h.2.2.2⟩
theorem RsD.kept {E : Nat → Prop} {w w' : World} {A : Option Addr} {n : Nat} {l : List D} (h : RsD w A n l) (k : Kept E w w') (hd : ∀ ad, A = some ad → ¬ E ad.block) : RsD w' A n l :=
  ⟨h.len, h.fit, fun hn => by
    obtain ⟨g, o, rfl, hg, c⟩ := h.lies hn
    have hd' : ¬ E g := hd _ rfl
    exact ⟨g, o, rfl, Nat.lt_of_lt_of_le hg k.size, fun i x hx => (c i x hx).kept k hg hd'⟩⟩
theorem RsD.old {w w' : World} {A : Option Addr} {n : Nat} {l : List D} (h : RsD w A n l) (k : Kept Old w w') : RsD w' A n l := h.kept k fun _ _ x => x
theorem RsD.nil (w : World) (A : Option Addr) : RsD w A 0 [] := ⟨rfl, fun _ h => (by cases h), fun h => absurd h (Nat.lt_irrefl 0)⟩
theorem RsD.get {w : World} {A : Option Addr} {n : Nat} {l : List D} (h : RsD w A n l) {k : Nat} (hk : k < n) : ∃ (g o : Nat) (x : D), A = some ⟨g, o, none⟩ ∧ g < w.heap.size ∧ l[k]? = some x ∧ FitD x ∧ w.cell? ⟨g, o + k * 4, none⟩ = some (.int .i64 x.k) ∧ w.cell? ⟨g, o + k * 4 + 1, none⟩ = some (.int .i64 x.n) ∧ w.cell? ⟨g, o + k * 4 + 2, none⟩ = some (.int .i64 x.a) ∧ w.cell? ⟨g, o + k * 4 + 3, none⟩ = some (.int .i64 x.c) := by
  obtain ⟨g, o, rfl, hg, c⟩ := h.lies (by omega)
  have hl : k < l.length := by have := h.len; omega
  have e : l[k]? = some l[k] := List.getElem?_eq_getElem hl
  have f := h.fit _ (List.getElem_mem hl)
  exact ⟨g, o, l[k], rfl, hg, e, f, (c k _ e).1, (c k _ e).2.1, (c k _ e).2.2.1, (c k _ e).2.2.2⟩
theorem getD_len {w : World} {A : Option Addr} {n : Nat} {l : List D} (h : RsD w A n l) {k : Nat} {x : D} (hx : l[k]? = some x) : k < n := by
  have := (List.getElem?_eq_some_iff.1 hx).1
  have := h.len
  omega

/-! ### A span in a block -/
def BxD (w : World) (b : Nat) (x : D) : Prop := Blk w b 29 [.int .i64 x.k, .int .i64 x.n, .int .i64 x.a, .int .i64 x.c]
theorem BxD.c0 {w : World} {b : Nat} {x : D} (h : BxD w b x) : w.cell? ⟨b, 0, none⟩ = some (.int .i64 x.k) := Blk.cell h 0
theorem BxD.c1 {w : World} {b : Nat} {x : D} (h : BxD w b x) : w.cell? ⟨b, 1, none⟩ = some (.int .i64 x.n) := Blk.cell h 1
theorem BxD.c2 {w : World} {b : Nat} {x : D} (h : BxD w b x) : w.cell? ⟨b, 2, none⟩ = some (.int .i64 x.a) := Blk.cell h 2
theorem BxD.c3 {w : World} {b : Nat} {x : D} (h : BxD w b x) : w.cell? ⟨b, 3, none⟩ = some (.int .i64 x.c) := Blk.cell h 3
theorem BxD.new (w : World) (x : D) : BxD (w.alloc (.cells #[.int .i64 x.k, .int .i64 x.n, .int .i64 x.a, .int .i64 x.c] 29)) w.heap.size x := Blk.new w _ _
theorem BxD.kept {E : Nat → Prop} {w w' : World} {b : Nat} {x : D} (h : BxD w b x) (k : Kept E w w') (hd : ¬ E b) : BxD w' b x := Blk.kept h k hd
theorem BxD.old {w w' : World} {b : Nat} {x : D} (h : BxD w b x) (k : Kept Old w w') : BxD w' b x := Blk.kept h k (fun x => x)
theorem BxD.alloc {w : World} {b : Nat} {x : D} (h : BxD w b x) (o : Obj) : BxD (w.alloc o) b x := Blk.alloc h o

/-! ### A slice that is owned -/
/-- Spans as cells. -/
def CD : List D → List Value
  | [] => []
  | x :: t => .int .i64 x.k :: .int .i64 x.n :: .int .i64 x.a :: .int .i64 x.c :: CD t
theorem CD_length (l : List D) : (CD l).length = l.length * 4 := by
  induction l with
  | nil => rfl
  | cons x t ih => simp only [CD, List.length_cons, ih]; omega
theorem CD_append (a b : List D) : CD (a ++ b) = CD a ++ CD b := by
  induction a with
  | nil => rfl
  | cons x t ih => simp only [List.cons_append, CD, ih]
theorem CD_one (l : List D) : ∀ u ∈ CD l, u.oneCell' = true := by
  induction l with
  | nil => intro u hu; cases hu
  | cons x t ih =>
    intro u hu
    simp only [CD, List.mem_cons] at hu
    rcases hu with rfl | rfl | rfl | rfl | hu
    · rfl
    · rfl
    · rfl
    · rfl
    · exact ih u hu
theorem CD_take (l : List D) (i : Nat) : CD (l.take i) = (CD l).take (i * 4) := by
  induction l generalizing i with
  | nil => simp [CD]
  | cons x t ih =>
    cases i with
    | zero => simp [CD]
    | succ i => rw [show (i + 1) * 4 = i * 4 + 4 by omega]; simp [CD, ih]
theorem CD_drop (l : List D) (i : Nat) : CD (l.drop i) = (CD l).drop (i * 4) := by
  induction l generalizing i with
  | nil => simp [CD]
  | cons x t ih =>
    cases i with
    | zero => simp [CD]
    | succ i => rw [show (i + 1) * 4 = i * 4 + 4 by omega]; simp [CD, ih]
theorem CD_get (l : List D) (i : Nat) (x : D) (h : l[i]? = some x) : (CD l)[i * 4]? = some (.int .i64 x.k) ∧ (CD l)[i * 4 + 1]? = some (.int .i64 x.n) ∧ (CD l)[i * 4 + 2]? = some (.int .i64 x.a) ∧ (CD l)[i * 4 + 3]? = some (.int .i64 x.c) := by
  induction l generalizing i with
  | nil => cases h
  | cons y t ih =>
    cases i with
    | zero => simp only [List.getElem?_cons_zero, Option.some.injEq] at h; subst h; exact ⟨rfl, rfl, rfl, rfl⟩
    | succ i =>
      have := ih i (by simpa using h)
      rw [show (i + 1) * 4 = i * 4 + 1 + 1 + 1 + 1 by omega]
      simpa [CD] using this
theorem CD_at (l : List D) (j : Nat) (u : Value) (h : (CD l)[j]? = some u) : ∃ i x, l[i]? = some x ∧ ((j = i * 4 ∧ u = .int .i64 x.k) ∨ (j = i * 4 + 1 ∧ u = .int .i64 x.n) ∨ (j = i * 4 + 2 ∧ u = .int .i64 x.a) ∨ (j = i * 4 + 3 ∧ u = .int .i64 x.c)) := by
  have hj : j < (CD l).length := (List.getElem?_eq_some_iff.1 h).1
  rw [CD_length] at hj
  have hi : j / 4 < l.length := by omega
  have e : l[j / 4]? = some l[j / 4] := List.getElem?_eq_getElem hi
  have g := CD_get l (j / 4) _ e
  refine ⟨j / 4, _, e, ?_⟩
  rcases (show j = j / 4 * 4 ∨ j = j / 4 * 4 + 1 ∨ j = j / 4 * 4 + 2 ∨ j = j / 4 * 4 + 3 by omega) with m | m | m | m
  · refine .inl ⟨m, ?_⟩
    rw [← m] at g
    rw [g.1] at h
    exact (Option.some.inj h).symm
  · refine .inr (.inl ⟨m, ?_⟩)
    have q := g.2.1
    rw [← m] at q
    rw [q] at h
    exact (Option.some.inj h).symm
  · refine .inr (.inr (.inl ⟨m, ?_⟩))
    have q := g.2.2.1
    rw [← m] at q
    rw [q] at h
    exact (Option.some.inj h).symm
  · refine .inr (.inr (.inr ⟨m, ?_⟩))
    have q := g.2.2.2
    rw [← m] at q
    rw [q] at h
    exact (Option.some.inj h).symm
/-- The slice value v is n spans, those of l, in blocks from B on (or nil). -/
structure OwD (w : World) (B : Nat) (v : Value) (n : Nat) (l : List D) : Prop where
  row : w.ownsRow B 29 4 v n (CD l)
  fit : ∀ x ∈ l, FitD x
theorem OwD.len {w : World} {B : Nat} {v : Value} {n : Nat} {l : List D} (h : OwD w B v n l) : l.length = n := by
  have := h.row.1
  rw [CD_length] at this
  omega
theorem OwD.rs {w : World} {B : Nat} {v : Value} {n : Nat} {l : List D} (h : OwD w B v n l) : ∃ A c, v = .slice A n c ∧ RsD w A n l ∧ n ≤ c ∧ (A = none → c = 0) := by
  have hlen := h.len
  rcases h.row.2 with ⟨rfl, rfl⟩ | ⟨g, cap, cur, rfl, hb, hg, hn, hm, hs, ht⟩
  · obtain rfl : l = [] := List.eq_nil_of_length_eq_zero hlen
    exact ⟨none, 0, rfl, RsD.nil _ _, Nat.le_refl _, fun _ => rfl⟩
  · refine ⟨_, cap, rfl, ⟨hlen, h.fit, fun _ => ⟨g, 0, rfl, (Array.getElem?_eq_some_iff.1 hg).1, fun i x hx => ?_⟩⟩, hn, fun h => by cases h⟩
    have hi := (List.getElem?_eq_some_iff.1 hx).1
    have gx := CD_get l i x hx
    rw [← ht, List.getElem?_take, List.getElem?_take, List.getElem?_take, List.getElem?_take, if_pos (by omega), if_pos (by omega), if_pos (by omega), if_pos (by omega)] at gx
    unfold At4
    rw [Nat.zero_add, cell_of_row w g _ cur 29 (0, 0) hg, cell_of_row w g _ cur 29 (0, 0) hg, cell_of_row w g _ cur 29 (0, 0) hg, cell_of_row w g _ cur 29 (0, 0) hg]
    simpa using gx
theorem OwD.kept {E : Nat → Prop} {w w' : World} {B : Nat} {v : Value} {n : Nat} {l : List D} (h : OwD w B v n l) (k : Kept E w w') (hd : ∀ g, v.ownBlock = some g → ¬ E g) : OwD w' B v n l := by
  refine ⟨⟨h.row.1, ?_⟩, h.fit⟩
  rcases h.row.2 with hn | ⟨g, cap, cur, rfl, hb, hg, rest⟩
  · exact .inl hn
  · refine .inr ⟨g, cap, cur, rfl, hb, ?_, rest⟩
    rw [k.block g (Array.getElem?_eq_some_iff.1 hg).1 (hd g rfl)]
    exact hg
theorem OwD.old {w w' : World} {B : Nat} {v : Value} {n : Nat} {l : List D} (h : OwD w B v n l) (k : Kept Old w w') : OwD w' B v n l := h.kept k (fun _ _ x => x)
theorem OwD.alloc {w : World} {B : Nat} {v : Value} {n : Nat} {l : List D} (h : OwD w B v n l) (o : Obj) : OwD (w.alloc o) B v n l := ⟨h.row.alloc o, h.fit⟩
theorem OwD.nil (w : World) (B : Nat) : OwD w B (.slice none 0 0) 0 [] := ⟨World.ownsRow_nil _ _ _ _, fun _ h => by cases h⟩
theorem OwD.made (w : World) (B cap : Nat) (cur : Array Value) (hb : B ≤ w.heap.size) (hm : cap ≤ maxLen) (hs : cur.size = cap * 4) : OwD (w.alloc (.cells cur 29)) B (.slice (some ⟨w.heap.size, 0, none⟩) 0 cap) 0 [] :=
  ⟨World.ownsRow_made w cur cap hb hm hs, fun _ h => by cases h⟩
theorem Tryz.deedInfo : (Tryz.prog.info? 29).map (fun i => (i.zero, i.size, i.bytes)) = some (some (.agg #[.int .i64 0, .int .i64 0, .int .i64 0, .int .i64 0]), 4, 32) := by kernel_rfl
theorem RsD.cells {w : World} {ad : Addr} {n : Nat} {l : List D} (h : RsD w (some ad) n l) : ∀ j u, (CD l)[j]? = some u → w.cell? (ad.add j) = some u := by
  intro j u hu
  obtain ⟨i, x, hx, hju⟩ := CD_at l j u hu
  obtain ⟨g, o, e, _, c⟩ := h.lies (Nat.lt_of_le_of_lt (Nat.zero_le _) (getD_len h hx))
  injection e with e
  subst e
  rw [addr_add]
  rcases hju with ⟨rfl, rfl⟩ | ⟨rfl, rfl⟩ | ⟨rfl, rfl⟩ | ⟨rfl, rfl⟩
  · exact (c i x hx).1
  · exact (c i x hx).2.1
  · exact (c i x hx).2.2.1
  · exact (c i x hx).2.2.2
/-- append of the spans at A. -/
theorem appD_own (w : World) (B : Nat) (v : Value) (n : Nat) (l : List D) (h : OwD w B v n l) (A : Option Addr) (m c : Nat) (news : List D) (hr : RsD w A m news) (hA : A = none → m = 0 ∧ c = 0) (hn : n ≤ 1000) (hm : m ≤ 1000) (hb : B ≤ w.heap.size) :
    ∃ v' w', (Builtin.append_ #[61, 61] 61 #[v, .slice A m c]).run Tryz.prog w = .ok v' w' ∧ OwD w' B v' (n + m) (l ++ news) ∧ Kept (fun k => some k = v.ownBlock) w w' ∧ (v'.ownBlock = v.ownBlock ∨ v'.ownBlock = some w.heap.size) := by
  obtain ⟨i0, hi, hz0, hz1, hz2⟩ := info_parts Tryz.deedInfo
  cases A with
  | none =>
    obtain ⟨rfl, rfl⟩ := hA rfl
    obtain rfl : news = [] := List.eq_nil_of_length_eq_zero hr.len
    exact ⟨v, w, run_append_owned_none (P := Tryz.prog) (w := w) B 61 61 29 i0 4 Tryz.underlying61 hi v n (CD l) h.row, by simpa using h, Kept.refl _ _, .inl rfl⟩
  | some ad =>
    obtain ⟨v', w', hrun, ho, hg, _, hat⟩ := run_append_own_at (P := Tryz.prog) w B 61 61 29 i0 _ 4 32 Tryz.underlying61 hi hz0 hz1 hz2 rfl (by omega) v n (CD l) h.row ad m c (CD news) (by rw [CD_length, hr.len]) hr.cells (CD_one news) (by simp only [maxLen]; omega) (by omega) hb
    rw [← CD_append] at ho
    exact ⟨v', w', hrun, ⟨ho, fun x hx => (List.mem_append.1 hx).elim (h.fit x) (hr.fit x)⟩, Kept.grown (Kept.refl _ _) hg (fun g e _ => e.symm), hat⟩
theorem OwD.own {w : World} {B : Nat} {v : Value} {n : Nat} {l : List D} (h : OwD w B v n l) : ∀ k, some k = v.ownBlock → B ≤ k ∧ k < w.heap.size := fun k hk => h.row.lt k hk.symm
/-- The run stated at the operation. -/
theorem appD_wp {ops : Array Oper} {rest : List Oper} {o : Oper} {a : Act} {Q : Exit → Act → World → Prop} {w : World} (hgd : o.guard = none) (s x : Operand)
    (ho : o.op = .call { callee := .builtin .append, args := #[s, x], argTypes := #[61, 61] }) (hty : o.type = 61)
    (B : Nat) (v : Value) (n : Nat) (l : List D) (hs : a.eval s = v) (h : OwD w B v n l) (A : Option Addr) (m c : Nat) (news : List D) (hx : a.eval x = .slice A m c) (hr : RsD w A m news) (hA : A = none → m = 0 ∧ c = 0) (hn : n ≤ 1000) (hm : m ≤ 1000) (hb : B ≤ w.heap.size) (N : Nat) (hN : n + m = N) (L : List D) (hL : l ++ news = L)
    (go : ∀ v' w', Hid (OwD w' B v' N L) → Hid (Kept (fun k => some k = v.ownBlock) w w') → Hid (v'.ownBlock = v.ownBlock ∨ v'.ownBlock = some w.heap.size) → wpList Tryz.prog ops Q rest (a.put o.dst v') w') : wpList Tryz.prog ops Q (o :: rest) a w := by
  subst hN
  subst hL
  refine wpList_plain hgd fun K hK => ?_
  obtain ⟨v', w', hrun, h2, h3, h4⟩ := appD_own w B v n l h A m c news hr hA hn hm hb
  unfold Oper.wp execOp
  simp only [ho, hty, resolve, invoke, builtin, Sem.run_bind, Sem.run_pure, Result.andThen_ok, List.map_toArray, List.map_cons, List.map_nil, hs, hx, hrun]
  exact hK _ _ (go v' w' h2 h3 h4)
theorem appD_step {ops : Array Oper} {o : Oper} {a : Act} {K : Act → World → Prop} {Q : Exit → Act → World → Prop} {E : Prop} {w : World} (hgd : o.guard = none) (s x : Operand)
    (ho : o.op = .call { callee := .builtin .append, args := #[s, x], argTypes := #[61, 61] }) (hty : o.type = 61)
    (B : Nat) (v : Value) (n : Nat) (l : List D) (hs : a.eval s = v) (h : OwD w B v n l) (A : Option Addr) (m c : Nat) (news : List D) (hx : a.eval x = .slice A m c) (hr : RsD w A m news) (hA : A = none → m = 0 ∧ c = 0) (hn : n ≤ 1000) (hm : m ≤ 1000) (hb : B ≤ w.heap.size) (N : Nat) (hN : n + m = N) (L : List D) (hL : l ++ news = L)
    (go : ∀ v' w', Hid (OwD w' B v' N L) → Hid (Kept (fun k => some k = v.ownBlock) w w') → Hid (v'.ownBlock = v.ownBlock ∨ v'.ownBlock = some w.heap.size) → K (a.put o.dst v') w') :
    if Region.wanted o (yielded ops a.tmps) = true then Oper.wp Tryz.prog o a w K Q else E := by
  subst hN
  subst hL
  have hw : Region.wanted o (yielded ops a.tmps) = true := by simp [Region.wanted, hgd]
  rw [if_pos hw]
  obtain ⟨v', w', hrun, h2, h3, h4⟩ := appD_own w B v n l h A m c news hr hA hn hm hb
  unfold Oper.wp execOp
  simp only [ho, hty, resolve, invoke, builtin, Sem.run_bind, Sem.run_pure, Result.andThen_ok, List.map_toArray, List.map_cons, List.map_nil, hs, hx, hrun]
  exact go v' w' h2 h3 h4
/-! ### Cuts and makes -/
theorem RsD.take {w : World} {A : Option Addr} {n : Nat} {l : List D} (h : RsD w A n l) {i : Nat} (hi : i ≤ n) : RsD w A i (l.take i) :=
  ⟨by have := h.len; simp; omega, fun x hx => h.fit x (List.mem_of_mem_take hx), fun h0 => by
    obtain ⟨g, o, e, hg, c⟩ := h.lies (by omega)
    refine ⟨g, o, e, hg, fun j x hx => c j x ?_⟩
    have := (List.getElem?_eq_some_iff.1 hx).1
    rw [List.length_take] at this
    rw [List.getElem?_take, if_pos (by omega)] at hx
    exact hx⟩
theorem RsD.drop {w : World} {g o n : Nat} {l : List D} (h : RsD w (some ⟨g, o, none⟩) n l) {i : Nat} (A : Option Addr) (hA : i < n → A = some ⟨g, o + i * 4, none⟩) : RsD w A (n - i) (l.drop i) :=
  ⟨by have := h.len; simp; omega, fun x hx => h.fit x (List.mem_of_mem_drop hx), fun h0 => by
    obtain ⟨g', o', e, hg, c⟩ := h.lies (by omega)
    injection e with e
    injection e with e1 e2
    subst e1
    subst e2
    refine ⟨g, o + i * 4, hA (by omega), hg, fun j x hx => ?_⟩
    rw [List.getElem?_drop] at hx
    have := c (i + j) x hx
    rw [show o + i * 4 + j * 4 = o + (i + j) * 4 by omega]
    exact this⟩
theorem OwD.drew {w : World} {B : Nat} {v : Value} {n : Nat} {l : List D} (h : OwD w B v n l) : OwD w.drew B v n l := ⟨h.row, h.fit⟩
theorem RsD.drew {w : World} {A : Option Addr} {n : Nat} {l : List D} (h : RsD w A n l) : RsD w.drew A n l := ⟨h.len, h.fit, h.lies⟩
theorem RsD.alloc {w : World} {A : Option Addr} {n : Nat} {l : List D} (h : RsD w A n l) (o : Obj) : RsD (w.alloc o) A n l := h.old ((Kept.refl _ _).alloc o)
/-- Behind an append all that was there ahead of the call is as it was. -/
theorem OwD.step {w0 w w' : World} {v : Value} {n : Nat} {l : List D} (h : OwD w w0.heap.size v n l) (K : Kept Old w0 w) (k : Kept (fun k => some k = v.ownBlock) w w') : Kept Old w0 w' :=
  K.join k fun i hi e => by have := (h.own i e).1; omega
theorem RsD.one (w : World) (x : D) (h : FitD x) (s : Nat) (hs : w.heap.size = s) : RsD (w.alloc (.cells #[.int .i64 x.k, .int .i64 x.n, .int .i64 x.a, .int .i64 x.c] 29)) (some ⟨s, 0, none⟩) 1 [x] := by
  subst hs
  exact
  ⟨rfl, fun y hy => by obtain rfl := List.mem_singleton.1 hy; exact h, fun _ => ⟨w.heap.size, 0, rfl, Blk.lt (BxD.new w x), fun i y hy => by
    have hi := (List.getElem?_eq_some_iff.1 hy).1
    obtain rfl : i = 0 := by simpa using hi
    simp only [List.getElem?_cons_zero, Option.some.injEq] at hy
    subst hy
    exact ⟨(BxD.new w x).c0, (BxD.new w x).c1, (BxD.new w x).c2, (BxD.new w x).c3⟩⟩⟩
/-- What a call that makes a list of deeds answers: new memory. -/
def MadeD (L : List D) (w : World) (v : Value) (w' : World) : Prop := ∃ A n c, v = .slice A n c ∧ RsD w' A n L ∧ n ≤ c ∧ ((A = none → c = 0) ∧ ∀ ad, A = some ad → w.heap.size ≤ ad.block) ∧ Kept Old w w'
theorem madeD_end {L : List D} {w w' : World} {B n : Nat} {v : Value} (h : OwD w' B v n L) (K : Kept Old w w') (hB : w.heap.size ≤ B := by first | exact Nat.le_refl _ | omega) : MadeD L w v w' := by
  obtain ⟨A, c, rfl, r, h1, h2⟩ := h.rs
  refine ⟨A, n, c, rfl, r, h1, ⟨h2, fun ad e => ?_⟩, K⟩
  rcases h.row.2 with ⟨e', _⟩ | ⟨g, cap, cur, e', hb, _⟩
  · injection e' with e1
    rw [e] at e1
    cases e1
  · injection e' with e1
    rw [e] at e1
    injection e1 with e1
    subst e1
    exact Nat.le_trans hB hb
/-- A slice of deeds that came in. -/
theorem quads_in {H : Type} {enc : TypeId × Value → H} {w : World} {a : Option Addr} {len cap : Nat} {d : DataW H} {p : List MemPlace}
    (h : DataW.Trod enc Tryz.prog w 0 (fun _ => true) true 61 (.slice a len cap) d p) : ∃ l : List D, len ≤ cap ∧ cap ≤ maxLen ∧ (a = none → cap = 0) ∧ RsD w a len l := by
  obtain ⟨fuel, hf⟩ := h
  rcases Deep.open_slice Tryz.underlying61 hf with ⟨hcs, _⟩ | ⟨x, l, c, m, n, Dd, Pl, hcs, _, hl, hm, hmm, _, hx⟩
  · simp [Value.cells] at hcs
    obtain ⟨rfl, rfl, rfl⟩ := hcs
    exact ⟨[], Nat.le_refl _, Nat.zero_le _, fun _ => rfl, RsD.nil _ _⟩
  · simp [Value.cells] at hcs
    obtain ⟨rfl, rfl, rfl⟩ := hcs
    simp only [if_true] at hmm
    subst hmm
    have ce : Tryz.prog.cellsOf 29 = 4 := by kernel_rfl
    have each : ∀ i, i < len → ∃ q : D, FitD q ∧ w.cell? (x.add (i * 4)) = some (.int .i64 q.k) ∧ w.cell? (x.add (i * 4 + 1)) = some (.int .i64 q.n) ∧ w.cell? (x.add (i * 4 + 2)) = some (.int .i64 q.a) ∧ w.cell? (x.add (i * 4 + 3)) = some (.int .i64 q.c) := by
      intro i hi
      obtain ⟨cs', h1, h2⟩ := hx i (by omega)
      rw [ce] at h1
      obtain ⟨_, hlen, hcell⟩ := World.cells?_some h1
      obtain ⟨xs, k, hk, hxy, _, hxl, hf'⟩ := DataW.trod_struct Tryz.underlying29 h2
      match xs, hxl, cs', hlen with
      | [y0, y1, y2, y3], _, [v0, v1, v2, v3], _ =>
        have g0 := hf' 0 _ rfl
        have g1 := hf' 1 _ rfl
        have g2 := hf' 2 _ rfl
        have g3 := hf' 3 _ rfl
        have c1 : Tryz.prog.cellsOf 3 = 1 := by kernel_rfl
        have c2 : Tryz.prog.cellsOf 27 = 1 := by kernel_rfl
        simp [c1, c2] at g0 g1 g2 g3
        have e0 := hcell 0 (by omega)
        have e1 := hcell 1 (by omega)
        have e2 := hcell 2 (by omega)
        have e3 := hcell 3 (by omega)
        rw [Deep.add_add] at e0 e1 e2 e3
        obtain ⟨z0, q0, _, f0⟩ := DataW.trod_int Tryz.underlying3 g0
        obtain ⟨z1, q1, _, f1⟩ := DataW.trod_int Tryz.underlying3 g1
        obtain ⟨z2, q2, _, f2⟩ := DataW.trod_int Tryz.underlying3 g2
        obtain ⟨z3, q3, _, f3⟩ := DataW.trod_int Tryz.underlying27 g3
        have b0 := bounds_i64 f0
        have b1 := bounds_i64 f1
        have b2 := bounds_i64 f2
        have b3 := bounds_i64 f3
        have q0 := List.head_eq_of_cons_eq q0
        have q1 := List.head_eq_of_cons_eq q1
        have q2 := List.head_eq_of_cons_eq q2
        have q3 := List.head_eq_of_cons_eq q3
        have i0 : in64S z0 := ⟨by omega, by omega⟩
        have i1 : in64S z1 := ⟨by omega, by omega⟩
        have i2 : in64S z2 := ⟨by omega, by omega⟩
        have i3 : in64S z3 := ⟨by omega, by omega⟩
        refine ⟨⟨z0, z1, z2, z3⟩, ⟨i0, i1, i2, i3⟩, ?_, ?_, ?_, ?_⟩
        · rw [← q0]; simpa using e0
        · rw [← q1]; simpa using e1
        · rw [← q2]; simpa using e2
        · rw [← q3]; simpa using e3
    obtain ⟨q, hq⟩ := Deep.choose_lt each
    refine ⟨(List.range len).map q, hl, hm, (fun h => by cases h), by simp, fun y hy => ?_, fun hn => ?_⟩
    · obtain ⟨i, hi, rfl⟩ := List.mem_map.1 hy
      exact (hq i (List.mem_range.1 hi)).1
    · obtain ⟨b, o, s⟩ := x
      have c0 := (hq 0 (by omega)).2.1
      have hs : s = none := by simpa [Addr.add] using World.cell?_spot c0
      subst hs
      refine ⟨b, o, rfl, ?_, fun i y hy => ?_⟩
      · have := block_lt_of_cell c0
        rw [addr_add] at this
        exact this
      · have hi : i < len := by have := (List.getElem?_eq_some_iff.1 hy).1; simpa using this
        rw [List.getElem?_map, List.getElem?_range hi] at hy
        simp only [Option.map_some, Option.some.injEq] at hy
        subst hy
        have := hq i hi
        rw [addr_add, addr_add, addr_add, addr_add] at this
        exact ⟨this.2.1, this.2.2.1, this.2.2.2.1, this.2.2.2.2⟩
end Go.Proofs.YtcndilpaijapkaaGreat.Lm
/- A model (a struct of a number and a slice of live stacks) in a block, as an argument, as a result. Own work; no program is walked here. -/
namespace Go.Proofs.YtcndilpaijapkaaGreat.Lm
open Go.ChangeShapes Go.WideShapes Go.ChangeAt Go.RowKit Go.Deep
set_option maxRecDepth 100000

abbrev md (W : Int) (A : Option Addr) (n c : Nat) : Value := .agg #[.int .i64 W, .slice A n c]
/-- Block b is a model's struct. -/
def Bm (w : World) (b : Nat) (W : Int) (v : Value) : Prop := Blk w b 63 [.int .i64 W, v]
theorem Bm.c0 {w : World} {b : Nat} {W : Int} {v : Value} (h : Bm w b W v) : w.cell? ⟨b, 0, none⟩ = some (.int .i64 W) := Blk.cell h 0
theorem Bm.c1 {w : World} {b : Nat} {W : Int} {v : Value} (h : Bm w b W v) : w.cell? ⟨b, 1, none⟩ = some v := Blk.cell h 1
theorem Bm.f0 {w : World} {b : Nat} {W : Int} {v : Value} (h : Bm w b W v) : w.frozen? ⟨b, 0, none⟩ = false := Blk.frozen h 0
theorem Bm.f1 {w : World} {b : Nat} {W : Int} {v : Value} (h : Bm w b W v) : w.frozen? ⟨b, 1, none⟩ = false := Blk.frozen h 1
theorem Bm.new (w : World) (W : Int) (v : Value) : Bm (w.alloc (.cells #[.int .i64 W, v] 63)) w.heap.size W v := Blk.new w _ _
theorem Bm.new2 (w : World) (x y : Obj) (W : Int) (v : Value) (e : y = .cells #[.int .i64 W, v] 63) : Bm ((w.alloc x).alloc y) (w.heap.size + 1) W v := by
  subst e
  have := Blk.new (w.alloc x) 63 [.int .i64 W, v]
  rwa [show (w.alloc x).heap.size = w.heap.size + 1 by simp] at this
theorem Bm.old {w w' : World} {b : Nat} {W : Int} {v : Value} (h : Bm w b W v) (k : Kept Old w w') : Bm w' b W v := Blk.kept h k (fun x => x)
theorem Bm.alloc {w : World} {b : Nat} {W : Int} {v : Value} (h : Bm w b W v) (o : Obj) : Bm (w.alloc o) b W v := Blk.alloc h o
theorem Bm.drew {w : World} {b : Nat} {W : Int} {v : Value} (h : Bm w b W v) : Bm w.drew b W v := h
theorem Bm.put2 {w : World} {b : Nat} {W : Int} {v : Value} (h : Bm w b W v) (x y : Value) : Blk ((w.setCell ⟨b, 0, none⟩ x).setCell ⟨b, 1, none⟩ y) b 63 [x, y] := (Blk.put h 0 x).put 1 y
theorem put2_kept (w : World) (b : Nat) (x y : Value) : Kept (Only b) w ((w.setCell ⟨b, 0, none⟩ x).setCell ⟨b, 1, none⟩ y) := (only_setCell w b 0 x).trans (only_setCell _ b 1 y)
theorem put3_kept (w : World) (b : Nat) (x y z : Value) : Kept (Only b) w (((w.setCell ⟨b, 0, none⟩ x).setCell ⟨b, 1, none⟩ y).setCell ⟨b, 2, none⟩ z) := (put2_kept w b x y).trans (only_setCell _ b 2 z)
/-- A list that was made outlives stores into a block of the caller's own. -/
theorem MadeS.put {L : List S} {w W1 w2 V : World} {v : Value} {b : Nat} (h : MadeS L W1 v w2) (k : Kept Old w W1) (hb : w.heap.size ≤ b) (hb1 : b < W1.heap.size) (kv : Kept (Only b) w2 V) : MadeS L w v V := by
  obtain ⟨A, n, c, h1, r, h2, h3, K⟩ := h
  refine ⟨A, n, c, h1, r.kept kv (fun ad e q => ?_), h2, ⟨h3.1, fun ad e => Nat.le_trans k.size (h3.2 ad e)⟩, (k.trans K).join kv (fun i hi e => ?_)⟩
  · have q : ad.block = b := q
    have := h3.2 ad e
    omega
  · have e : i = b := e
    omega
/-- The end of a function whose first result is a model. -/
theorem Bm.end2 {w w1 w' : World} {b : Nat} {W0 : Int} {u : Value} {L : List S} {v : Value} (z : Bm w' b W0 u) (M : MadeS L w1 v w') (k : Kept Old w w1) (hb : w.heap.size ≤ b) (hb1 : b < w1.heap.size) (x : Int) :
    ∃ W, (w'.setCell ⟨b, 0, none⟩ (.int .i64 x)).setCell ⟨b, 1, none⟩ v = W ∧ W.cell? ⟨b, 0, none⟩ = some (.int .i64 x) ∧ W.cell? ⟨b, 1, none⟩ = some v ∧ MadeS L w v W :=
  ⟨_, rfl, (z.put2 _ _).cell 0, (z.put2 _ _).cell 1, M.put k hb hb1 (put2_kept _ _ _ _)⟩
/-- The same where the model is the zero one. -/
theorem Bm.end0 {w w' : World} {b : Nat} {W0 : Int} {u : Value} (z : Bm w' b W0 u) (k : Kept Old w w') (hb : w.heap.size ≤ b) :
    ∃ W, (w'.setCell ⟨b, 0, none⟩ (.int .i64 0)).setCell ⟨b, 1, none⟩ (.slice none 0 0) = W ∧ W.cell? ⟨b, 0, none⟩ = some (.int .i64 0) ∧ W.cell? ⟨b, 1, none⟩ = some (.slice none 0 0) ∧ MadeS [] w (.slice none 0 0) W :=
  ⟨_, rfl, (z.put2 _ _).cell 0, (z.put2 _ _).cell 1, MadeS.of_nil (k.join (put2_kept _ _ _ _) (fun i hi e => by have e : i = b := e; omega))⟩
theorem kept2 (w : World) (x y : Obj) : Kept Old w ((w.alloc x).alloc y) := ((Kept.refl Old w).alloc x).alloc y
theorem cell_on {w w' : World} {p : Addr} {v : Value} (k : Kept Old w w') (c : w.cell? p = some v) : w'.cell? p = some v := by
  have hb : p.block < w.heap.size := block_lt_of_cell c
  rw [k.cell hb (fun x => x)]
  exact c
theorem BxS.f {w : World} {b : Nat} {x : S} (h : BxS w b x) (i : Nat) : w.frozen? ⟨b, i, none⟩ = false := Blk.frozen h i
theorem BxS.drew {w : World} {b : Nat} {x : S} (h : BxS w b x) : BxS w.drew b x := h
theorem BxS.new2 (w : World) (x y : Obj) (z : S) (e : y = .cells #[.int .i64 z.a, .int .i64 z.n, .int .i64 z.c] 52) : BxS ((w.alloc x).alloc y) (w.heap.size + 1) z := by
  subst e
  have := BxS.new (w.alloc x) z
  rwa [show (w.alloc x).heap.size = w.heap.size + 1 by simp] at this
/-- The end of a function one of whose results is a live stack. -/
theorem BxS.end3 {w w' : World} {b : Nat} {u : S} (z : BxS w' b u) (k : Kept Old w w') (hb : w.heap.size ≤ b) (p q r : Int) :
    ∃ W, ((w'.setCell ⟨b, 0, none⟩ (.int .i64 p)).setCell ⟨b, 1, none⟩ (.int .i64 q)).setCell ⟨b, 2, none⟩ (.int .i64 r) = W ∧ W.cell? ⟨b, 0, none⟩ = some (.int .i64 p) ∧ W.cell? ⟨b, 1, none⟩ = some (.int .i64 q) ∧ W.cell? ⟨b, 2, none⟩ = some (.int .i64 r) ∧ Kept Old w W := by
  have h := ((Blk.put z 0 (.int .i64 p)).put 1 (.int .i64 q)).put 2 (.int .i64 r)
  exact ⟨_, rfl, h.cell 0, h.cell 1, h.cell 2, k.join (put3_kept _ _ _ _ _) (fun i hi e => by have e : i = b := e; omega)⟩
/-- A model and whether it is one. -/
def AllocPost (W : Int) (L : List S) (B : Bool) (w : World) (e : Ending) (w' : World) : Prop := ∃ v, e = .returned (.tuple #[.agg #[.int .i64 W, v], .bool B]) ∧ MadeS L w v w'
/-- A model and a code. -/
def FreePost (W : Int) (L : List S) (C : Int) (w : World) (e : Ending) (w' : World) : Prop := ∃ v, e = .returned (.tuple #[.agg #[.int .i64 W, v], .int .i64 C]) ∧ MadeS L w v w'
/-- A model, a number, and whether all were accepted. -/
def AccPost (W : Int) (L : List S) (K : Int) (B : Bool) (w : World) (e : Ending) (w' : World) : Prop := ∃ v, e = .returned (.tuple #[.agg #[.int .i64 W, v], .int .i64 K, .bool B]) ∧ MadeS L w v w'

/-- A slice of live stacks that came in as a field of a struct. -/
theorem lives_field {H : Type} {enc : TypeId × Value → H} {w : World} {v : Value} {f : Nat} {d : DataW H} {p : List MemPlace}
    (h : DataW.trod enc Tryz.prog w 0 (fun _ => true) true f 47 [v] = some (d, p)) : ∃ a len cap l, v = .slice a len cap ∧ len ≤ cap ∧ cap ≤ maxLen ∧ (a = none → cap = 0) ∧ RsS w a len l := by
  rcases Deep.open_slice Tryz.underlying47 h with ⟨hcs, _⟩ | ⟨x, l, c, m, n, Dd, Pl, hcs, _, hl, hm, hmm, _, hx⟩
  · obtain rfl := List.head_eq_of_cons_eq hcs
    exact ⟨none, 0, 0, [], rfl, Nat.le_refl _, Nat.zero_le _, fun _ => rfl, RsS.nil _ _⟩
  · obtain rfl := List.head_eq_of_cons_eq hcs
    simp only [if_true] at hmm
    subst hmm
    have ce : Tryz.prog.cellsOf 52 = 3 := by kernel_rfl
    have each : ∀ i, i < l → ∃ q : S, Fit q ∧ w.cell? (x.add (i * 3)) = some (.int .i64 q.a) ∧ w.cell? (x.add (i * 3 + 1)) = some (.int .i64 q.n) ∧ w.cell? (x.add (i * 3 + 2)) = some (.int .i64 q.c) := by
      intro i hi
      obtain ⟨cs', h1, h2⟩ := hx i (by omega)
      rw [ce] at h1
      obtain ⟨_, hlen, hcell⟩ := World.cells?_some h1
      obtain ⟨xs, k, hk, hxy, _, hxl, hf'⟩ := DataW.trod_struct Tryz.underlying52 h2
      match xs, hxl, cs', hlen with
      | [y0, y1, y2], _, [v0, v1, v2], _ =>
        have g0 := hf' 0 _ rfl
        have g1 := hf' 1 _ rfl
        have g2 := hf' 2 _ rfl
        have c1 : Tryz.prog.cellsOf 3 = 1 := by kernel_rfl
        simp [c1] at g0 g1 g2
        have e0 := hcell 0 (by omega)
        have e1 := hcell 1 (by omega)
        have e2 := hcell 2 (by omega)
        rw [Deep.add_add] at e0 e1 e2
        obtain ⟨z0, q0, _, f0⟩ := DataW.trod_int Tryz.underlying3 g0
        obtain ⟨z1, q1, _, f1⟩ := DataW.trod_int Tryz.underlying3 g1
        obtain ⟨z2, q2, _, f2⟩ := DataW.trod_int Tryz.underlying3 g2
        have b0 := bounds_i64 f0
        have b1 := bounds_i64 f1
        have b2 := bounds_i64 f2
        have q0 := List.head_eq_of_cons_eq q0
        have q1 := List.head_eq_of_cons_eq q1
        have q2 := List.head_eq_of_cons_eq q2
        have i0 : in64S z0 := ⟨by omega, by omega⟩
        have i1 : in64S z1 := ⟨by omega, by omega⟩
        have i2 : in64S z2 := ⟨by omega, by omega⟩
        refine ⟨⟨z0, z1, z2⟩, ⟨i0, i1, i2⟩, ?_, ?_, ?_⟩
        · rw [← q0]; simpa using e0
        · rw [← q1]; simpa using e1
        · rw [← q2]; simpa using e2
    obtain ⟨q, hq⟩ := Deep.choose_lt each
    refine ⟨some x, l, _, (List.range l).map q, rfl, hl, hm, (fun h => by cases h), by simp, fun y hy => ?_, fun hn => ?_⟩
    · obtain ⟨i, hi, rfl⟩ := List.mem_map.1 hy
      exact (hq i (List.mem_range.1 hi)).1
    · obtain ⟨b, o, s⟩ := x
      have c0 := (hq 0 (by omega)).2.1
      have hs : s = none := by simpa [Addr.add] using World.cell?_spot c0
      subst hs
      refine ⟨b, o, rfl, ?_, fun i y hy => ?_⟩
      · have := block_lt_of_cell c0
        rw [addr_add] at this
        exact this
      · have hi : i < l := by have := (List.getElem?_eq_some_iff.1 hy).1; simpa using this
        rw [List.getElem?_map, List.getElem?_range hi] at hy
        simp only [Option.map_some, Option.some.injEq] at hy
        subst hy
        have := hq i hi
        rw [addr_add, addr_add, addr_add] at this
        exact ⟨this.2.1, this.2.2.1, this.2.2.2⟩
end Go.Proofs.YtcndilpaijapkaaGreat.Lm
/- A list of live stacks that a call owns whole: what is told of it, stores into it. Own work; no program is walked here. -/
namespace Go.Proofs.YtcndilpaijapkaaGreat.Lm
open Go.ChangeShapes Go.WideShapes Go.ChangeAt Go.RowKit

theorem OwS.downS {w : World} {B B' : Nat} {v : Value} {n : Nat} {l : List S} (h : OwS w B v n l) (hB : B' ≤ B) : OwS w B' v n l :=
  ⟨⟨h.row.1, by
    rcases h.row.2 with q | ⟨g, cap, cur, e, hb, rest⟩
    · exact .inl q
    · exact .inr ⟨g, cap, cur, e, Nat.le_trans hB hb, rest⟩⟩, h.fit⟩
/-- The value is a list of the caller's own, made since w. -/
def OwnS (L : List S) (w : World) (v : Value) (w' : World) : Prop := ∃ n, OwS w' w.heap.size v n L
theorem OwnS.put2 {L : List S} {w w1 w' : World} {v : Value} {b : Nat} (h : OwnS L w1 v w') (k : Kept Old w w1) (hb : b < w1.heap.size) (x y : Value) : OwnS L w v ((w'.setCell ⟨b, 0, none⟩ x).setCell ⟨b, 1, none⟩ y) := by
  obtain ⟨n, h⟩ := h
  exact ⟨n, (h.kept (put2_kept w' b x y) (fun g e q => by have := (h.own g e.symm).1; have q : g = b := q; omega)).downS k.size⟩
/-- A model of a list of one's own, and whether it is one. -/
def AllocOwn (W : Int) (L : List S) (B : Bool) (w : World) (e : Ending) (w' : World) : Prop := ∃ v, e = .returned (.tuple #[.agg #[.int .i64 W, v], .bool B]) ∧ MadeS L w v w' ∧ OwnS L w v w'
theorem CS_set : ∀ (l : List S) (k : Nat) (x : S), CS (l.set k x) = (((CS l).set (k * 3) (.int .i64 x.a)).set (k * 3 + 1) (.int .i64 x.n)).set (k * 3 + 2) (.int .i64 x.c) := by
  intro l
  induction l with
  | nil => intro k x; simp [CS]
  | cons y t ih =>
    intro k x
    cases k with
    | zero => rfl
    | succ k =>
      rw [show (k + 1) * 3 = k * 3 + 3 by omega]
      simp only [List.set_cons_succ, CS, ih, show k * 3 + 3 + 1 = k * 3 + 1 + 3 by omega, show k * 3 + 3 + 2 = k * 3 + 2 + 3 by omega]
theorem set_same {l : List Value} {i : Nat} {u : Value} (h : l[i]? = some u) : l.set i u = l := by
  obtain ⟨q1, q2⟩ := List.getElem?_eq_some_iff.1 h
  rw [← q2]
  exact List.set_getElem_self q1
/-- The third number of the k-th one is written. -/
theorem OwS.putc {w : World} {B g n c : Nat} {l : List S} (h : OwS w B (.slice (some ⟨g, 0, none⟩) n c) n l) {k : Nat} {x : S} (hx : l[k]? = some x) (z : Int) (hz : in64S z) :
    OwS (w.setCell ⟨g, k * 3 + 2, none⟩ (.int .i64 z)) B (.slice (some ⟨g, 0, none⟩) n c) n (l.set k ⟨x.a, x.n, z⟩) := by
  rcases h.blk with ⟨e, _⟩ | ⟨g', c', r, e, hb, b, hr, hn, hm⟩
  · cases e
  · injection e with e1 e2 e3
    injection e1 with e1
    injection e1 with e1
    subst e1
    subst e3
    have hl := h.len
    have hk := (List.getElem?_eq_some_iff.1 hx).1
    have b2 := b.put (k * 3 + 2) (.int .i64 z)
    have g0 := (CS_get l k x hx).1
    have g1 := (CS_get l k x hx).2.1
    have ll := CS_length l
    have e : (CS l ++ r).set (k * 3 + 2) (.int .i64 z) = CS (l.set k ⟨x.a, x.n, z⟩) ++ r := by
      rw [CS_set]
      simp only [set_same g0, set_same g1]
      rw [List.set_append_left _ _ (by omega)]
    rw [e] at b2
    refine OwS.ofBlk hb b2 (by rw [List.length_set]; exact hl) hr hn hm (fun s hs => ?_)
    obtain ⟨i, hi⟩ := List.getElem?_of_mem hs
    rw [List.getElem?_set] at hi
    by_cases e1 : k = i
    · rw [if_pos e1, if_pos hk] at hi
      injection hi with hi
      subst hi
      exact ⟨(h.fit x (List.mem_of_getElem? hx)).1, (h.fit x (List.mem_of_getElem? hx)).2.1, hz⟩
    · rw [if_neg e1] at hi
      exact h.fit s (List.mem_of_getElem? hi)
theorem OwS.free {w : World} {B g n c : Nat} {l : List S} (h : OwS w B (.slice (some ⟨g, 0, none⟩) n c) n l) (i : Nat) : w.frozen? ⟨g, i, none⟩ = false := by
  rcases h.blk with ⟨e, _⟩ | ⟨g', c', r, e, hb, b, hr, hn, hm⟩
  · cases e
  · injection e with e1 e2 e3
    injection e1 with e1
    injection e1 with e1
    subst e1
    exact Blk.frozen b i
end Go.Proofs.YtcndilpaijapkaaGreat.Lm
