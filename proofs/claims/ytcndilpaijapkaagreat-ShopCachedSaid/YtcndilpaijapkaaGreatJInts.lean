/-
  Joined texts of Ints; own work.
-/
import Derived.Test.YtcndilpaijapkaaGreatRows
import Derived.WalkKit
import Derived.OwnWalk
import Derived.Maps.AppendAt
import Derived.Deep.AppendLies
import Derived.ProofKit
import Derived.OpenShut
import Derived.Outline
import Derived.Deep.Light
import Derived.IntWalk
import Derived.Test.YtcndilpaijapkaaGreatJBase
/- A slice of integers that reads as a list (RsI), and one that the call itself made (OwI), with append. Own work; no program is walked here. -/
namespace Go.Proofs.YtcndilpaijapkaaGreat
open Go.ChangeShapes Go.WideShapes Go.ChangeAt Go.RowKit

/-- A 64-bit integer. -/
def inI (z : Int) : Prop := -9223372036854775808 ≤ z ∧ z ≤ 9223372036854775807
/-- Integers as cells. -/
def CI (l : List Int) : List Value := l.map fun x => .int .i64 x
theorem CI_length (l : List Int) : (CI l).length = l.length := by unfold CI; simp
theorem CI_append (a b : List Int) : CI (a ++ b) = CI a ++ CI b := by unfold CI; simp
theorem CI_get (l : List Int) (i : Nat) : (CI l)[i]? = (l[i]?).map fun x => .int .i64 x := by unfold CI; simp
theorem CI_one (l : List Int) : ∀ u ∈ CI l, u.oneCell' = true := by
  intro u hu
  unfold CI at hu
  obtain ⟨x, _, rfl⟩ := List.mem_map.1 hu
  rfl
/-- The slice at A has n integers, those of l. -/
structure RsI (w : World) (A : Option Addr) (n : Nat) (l : List Int) : Prop where
  len : l.length = n
  fit : ∀ x ∈ l, inI x
  lies : 0 < n → ∃ g o, A = some ⟨g, o, none⟩ ∧ g < w.heap.size ∧ ∀ (i : Nat) (x : Int), l[i]? = some x → w.cell? ⟨g, o + i, none⟩ = some (.int .i64 x)
theorem RsI.kept {D : Nat → Prop} {w w' : World} {A : Option Addr} {n : Nat} {l : List Int} (h : RsI w A n l) (k : Kept D w w') (hd : ∀ ad, A = some ad → ¬ D ad.block) : RsI w' A n l :=
  ⟨h.len, h.fit, fun hn => by
    obtain ⟨g, o, rfl, hg, c⟩ := h.lies hn
    have hd' : ¬ D g := hd _ rfl
    exact ⟨g, o, rfl, Nat.lt_of_lt_of_le hg k.size, fun i x hx => (k.cell (p := ⟨g, o + i, none⟩) hg hd').trans (c i x hx)⟩⟩
theorem RsI.old {w w' : World} {A : Option Addr} {n : Nat} {l : List Int} (h : RsI w A n l) (k : Kept Old w w') : RsI w' A n l := h.kept k fun _ _ x => x
theorem RsI.nil (w : World) (A : Option Addr) : RsI w A 0 [] := ⟨rfl, fun _ h => (by cases h), fun h => absurd h (Nat.lt_irrefl 0)⟩
theorem RsI.drew {w : World} {A : Option Addr} {n : Nat} {l : List Int} (h : RsI w A n l) : RsI w.drew A n l := ⟨h.len, h.fit, h.lies⟩
theorem RsI.drewN {w : World} {A : Option Addr} {n : Nat} {l : List Int} (h : RsI w A n l) (k : Nat) : RsI (w.drewN k) A n l := ⟨h.len, h.fit, h.lies⟩
theorem RsI.get {w : World} {A : Option Addr} {n : Nat} {l : List Int} (h : RsI w A n l) {k : Nat} (hk : k < n) : ∃ (g o : Nat) (x : Int), A = some ⟨g, o, none⟩ ∧ g < w.heap.size ∧ l[k]? = some x ∧ inI x ∧ w.cell? ⟨g, o + k, none⟩ = some (.int .i64 x) := by
  obtain ⟨g, o, rfl, hg, c⟩ := h.lies (by omega)
  have hl : k < l.length := by have := h.len; omega
  have e : l[k]? = some l[k] := List.getElem?_eq_getElem hl
  exact ⟨g, o, l[k], rfl, hg, e, h.fit _ (List.getElem_mem hl), c k _ e⟩
theorem RsI.cells {w : World} {ad : Addr} {n : Nat} {l : List Int} (h : RsI w (some ad) n l) : ∀ j u, (CI l)[j]? = some u → w.cell? (ad.add j) = some u := by
  intro j u hu
  rw [CI_get] at hu
  obtain ⟨x, hx, rfl⟩ := Option.map_eq_some_iff.1 hu
  have hi := (List.getElem?_eq_some_iff.1 hx).1
  obtain ⟨g, o, e, _, c⟩ := h.lies (by have := h.len; omega)
  injection e with e
  subst e
  rw [addr_add]
  exact c j x hx
theorem RsI.take {w : World} {A : Option Addr} {n : Nat} {l : List Int} (h : RsI w A n l) {i : Nat} (hi : i ≤ n) : RsI w A i (l.take i) :=
  ⟨by have := h.len; simp; omega, fun x hx => h.fit x (List.mem_of_mem_take hx), fun h0 => by
    obtain ⟨g, o, e, hg, c⟩ := h.lies (by omega)
    refine ⟨g, o, e, hg, fun j x hx => c j x ?_⟩
    have := (List.getElem?_eq_some_iff.1 hx).1
    rw [List.length_take] at this
    rw [List.getElem?_take, if_pos (by omega)] at hx
    exact hx⟩
theorem RsI.one (w : World) (x : Int) (h : inI x) (s : Nat) (hs : w.heap.size = s) : RsI (w.alloc (.cells #[.int .i64 x] 3)) (some ⟨s, 0, none⟩) 1 [x] := by
  subst hs
  have b := Blk.new w 3 [.int .i64 x]
  exact
  ⟨rfl, fun y hy => by obtain rfl := List.mem_singleton.1 hy; exact h, fun _ => ⟨w.heap.size, 0, rfl, b.lt, fun i y hy => by
    have hi := (List.getElem?_eq_some_iff.1 hy).1
    obtain rfl : i = 0 := by simpa using hi
    simp only [List.getElem?_cons_zero, Option.some.injEq] at hy
    subst hy
    exact b.cell 0⟩⟩

/-! ### A slice that the call itself made -/
/-- The slice value v is n integers, those of l, in blocks from B on (or nil). -/
structure OwI (w : World) (B : Nat) (v : Value) (n : Nat) (l : List Int) : Prop where
  row : w.ownsRow B 3 1 v n (CI l)
  fit : ∀ x ∈ l, inI x
theorem OwI.len {w : World} {B : Nat} {v : Value} {n : Nat} {l : List Int} (h : OwI w B v n l) : l.length = n := by
  have := h.row.1
  rw [CI_length] at this
  omega
theorem OwI.rs {w : World} {B : Nat} {v : Value} {n : Nat} {l : List Int} (h : OwI w B v n l) : ∃ A c, v = .slice A n c ∧ RsI w A n l ∧ n ≤ c ∧ (A = none → c = 0) := by
  have hlen := h.len
  rcases h.row.2 with ⟨rfl, rfl⟩ | ⟨g, cap, cur, rfl, hb, hg, hn, hm, hs, ht⟩
  · obtain rfl : l = [] := List.eq_nil_of_length_eq_zero hlen
    exact ⟨none, 0, rfl, RsI.nil _ _, Nat.le_refl _, fun _ => rfl⟩
  · refine ⟨_, cap, rfl, ⟨hlen, h.fit, fun _ => ⟨g, 0, rfl, (Array.getElem?_eq_some_iff.1 hg).1, fun i x hx => ?_⟩⟩, hn, fun h => by cases h⟩
    have hi := (List.getElem?_eq_some_iff.1 hx).1
    have gx := CI_get l i
    rw [hx, ← ht, List.getElem?_take, if_pos (by omega)] at gx
    rw [Nat.zero_add, cell_of_row w g _ cur 3 (0, 0) hg]
    simpa using gx
theorem OwI.kept {D : Nat → Prop} {w w' : World} {B : Nat} {v : Value} {n : Nat} {l : List Int} (h : OwI w B v n l) (k : Kept D w w') (hd : ∀ g, v.ownBlock = some g → ¬ D g) : OwI w' B v n l := by
  refine ⟨⟨h.row.1, ?_⟩, h.fit⟩
  rcases h.row.2 with hn | ⟨g, cap, cur, rfl, hb, hg, rest⟩
  · exact .inl hn
  · refine .inr ⟨g, cap, cur, rfl, hb, ?_, rest⟩
    rw [k.block g (Array.getElem?_eq_some_iff.1 hg).1 (hd g rfl)]
    exact hg
theorem OwI.old {w w' : World} {B : Nat} {v : Value} {n : Nat} {l : List Int} (h : OwI w B v n l) (k : Kept Old w w') : OwI w' B v n l := h.kept k (fun _ _ x => x)
theorem OwI.alloc {w : World} {B : Nat} {v : Value} {n : Nat} {l : List Int} (h : OwI w B v n l) (o : Obj) : OwI (w.alloc o) B v n l := ⟨h.row.alloc o, h.fit⟩
theorem OwI.drew {w : World} {B : Nat} {v : Value} {n : Nat} {l : List Int} (h : OwI w B v n l) : OwI w.drew B v n l := ⟨h.row, h.fit⟩
theorem OwI.nil (w : World) (B : Nat) : OwI w B (.slice none 0 0) 0 [] := ⟨World.ownsRow_nil _ _ _ _, fun _ h => by cases h⟩
theorem OwI.made (w : World) (B cap : Nat) (cur : Array Value) (hb : B ≤ w.heap.size) (hm : cap ≤ maxLen) (hs : cur.size = cap * 1) : OwI (w.alloc (.cells cur 3)) B (.slice (some ⟨w.heap.size, 0, none⟩) 0 cap) 0 [] :=
  ⟨World.ownsRow_made w cur cap hb hm hs, fun _ h => by cases h⟩
theorem OwI.own {w : World} {B : Nat} {v : Value} {n : Nat} {l : List Int} (h : OwI w B v n l) : ∀ k, some k = v.ownBlock → B ≤ k ∧ k < w.heap.size := fun k hk => h.row.lt k hk.symm
theorem Tryz.intInfo1 : (Tryz.prog.info? 3).map (fun i => (i.zero, i.size, i.bytes)) = some (some (.int .i64 0), 1, 8) := by kernel_rfl
/-- append of the integers at A. -/
theorem app_ownI (w : World) (B : Nat) (v : Value) (n : Nat) (l : List Int) (h : OwI w B v n l) (A : Option Addr) (m c : Nat) (news : List Int) (hr : RsI w A m news) (hA : A = none → m = 0 ∧ c = 0) (hn : n ≤ 100000) (hm : m ≤ 100000) (hb : B ≤ w.heap.size) :
    ∃ v' w', (Builtin.append_ #[35, 35] 35 #[v, .slice A m c]).run Tryz.prog w = .ok v' w' ∧ OwI w' B v' (n + m) (l ++ news) ∧ Kept (fun k => some k = v.ownBlock) w w' ∧ (v'.ownBlock = v.ownBlock ∨ v'.ownBlock = some w.heap.size) := by
  obtain ⟨i0, hi, hz0, hz1, hz2⟩ := info_parts Tryz.intInfo1
  cases A with
  | none =>
    obtain ⟨rfl, rfl⟩ := hA rfl
    obtain rfl : news = [] := List.eq_nil_of_length_eq_zero hr.len
    exact ⟨v, w, run_append_owned_none (P := Tryz.prog) (w := w) B 35 35 3 i0 1 Tryz.underlying35 hi v n (CI l) h.row, by simpa using h, Kept.refl _ _, .inl rfl⟩
  | some ad =>
    obtain ⟨v', w', hrun, ho, hg, _, hat⟩ := run_append_own_at (P := Tryz.prog) w B 35 35 3 i0 _ 1 8 Tryz.underlying35 hi hz0 hz1 hz2 rfl (by omega) v n (CI l) h.row ad m c (CI news) (by rw [CI_length, hr.len, Nat.mul_one]) hr.cells (CI_one news) (by simp only [maxLen]; omega) (by omega) hb
    rw [← CI_append] at ho
    exact ⟨v', w', hrun, ⟨ho, fun x hx => (List.mem_append.1 hx).elim (h.fit x) (hr.fit x)⟩, Kept.grown (Kept.refl _ _) hg (fun g e _ => e.symm), hat⟩
/-- The run stated at the operation. -/
theorem app_wpI {ops : Array Oper} {rest : List Oper} {o : Oper} {a : Act} {Q : Exit → Act → World → Prop} {w : World} (hgd : o.guard = none) (s x : Operand)
    (ho : o.op = .call { callee := .builtin .append, args := #[s, x], argTypes := #[35, 35] }) (hty : o.type = 35)
    (B : Nat) (v : Value) (n : Nat) (l : List Int) (hs : a.eval s = v) (h : OwI w B v n l) (A : Option Addr) (m c : Nat) (news : List Int) (hx : a.eval x = .slice A m c) (hr : RsI w A m news) (hA : A = none → m = 0 ∧ c = 0) (hn : n ≤ 100000) (hm : m ≤ 100000) (hb : B ≤ w.heap.size) (N : Nat) (hN : n + m = N) (L : List Int) (hL : l ++ news = L)
    (go : ∀ v' w', Hid (OwI w' B v' N L) → Hid (Kept (fun k => some k = v.ownBlock) w w') → Hid (v'.ownBlock = v.ownBlock ∨ v'.ownBlock = some w.heap.size) → wpList Tryz.prog ops Q rest (a.put o.dst v') w') : wpList Tryz.prog ops Q (o :: rest) a w := by
  subst hN
  subst hL
  refine wpList_plain hgd fun K hK => ?_
  obtain ⟨v', w', hrun, h2, h3, h4⟩ := app_ownI w B v n l h A m c news hr hA hn hm hb
  unfold Oper.wp execOp
  simp only [ho, hty, resolve, invoke, builtin, Sem.run_bind, Sem.run_pure, Result.andThen_ok, List.map_toArray, List.map_cons, List.map_nil, hs, hx, hrun]
  exact hK _ _ (go v' w' h2 h3 h4)
theorem app_stepI {ops : Array Oper} {o : Oper} {a : Act} {K : Act → World → Prop} {Q : Exit → Act → World → Prop} {E : Prop} {w : World} (hgd : o.guard = none) (s x : Operand)
    (ho : o.op = .call { callee := .builtin .append, args := #[s, x], argTypes := #[35, 35] }) (hty : o.type = 35)
    (B : Nat) (v : Value) (n : Nat) (l : List Int) (hs : a.eval s = v) (h : OwI w B v n l) (A : Option Addr) (m c : Nat) (news : List Int) (hx : a.eval x = .slice A m c) (hr : RsI w A m news) (hA : A = none → m = 0 ∧ c = 0) (hn : n ≤ 100000) (hm : m ≤ 100000) (hb : B ≤ w.heap.size) (N : Nat) (hN : n + m = N) (L : List Int) (hL : l ++ news = L)
    (go : ∀ v' w', Hid (OwI w' B v' N L) → Hid (Kept (fun k => some k = v.ownBlock) w w') → Hid (v'.ownBlock = v.ownBlock ∨ v'.ownBlock = some w.heap.size) → K (a.put o.dst v') w') :
    if Region.wanted o (yielded ops a.tmps) = true then Oper.wp Tryz.prog o a w K Q else E := by
  subst hN
  subst hL
  have hw : Region.wanted o (yielded ops a.tmps) = true := by simp [Region.wanted, hgd]
  rw [if_pos hw]
  obtain ⟨v', w', hrun, h2, h3, h4⟩ := app_ownI w B v n l h A m c news hr hA hn hm hb
  unfold Oper.wp execOp
  simp only [ho, hty, resolve, invoke, builtin, Sem.run_bind, Sem.run_pure, Result.andThen_ok, List.map_toArray, List.map_cons, List.map_nil, hs, hx, hrun]
  exact go v' w' h2 h3 h4
/-- Behind an append all that was there ahead of the call is as it was. -/
theorem OwI.step {w0 w w' : World} {v : Value} {n : Nat} {l : List Int} (h : OwI w w0.heap.size v n l) (K : Kept Old w0 w) (k : Kept (fun k => some k = v.ownBlock) w w') : Kept Old w0 w' :=
  K.join k fun i hi e => by have := (h.own i e).1; omega
/-- What a call that makes a list answers: the list, new memory. -/
def MadeI (L : List Int) (w : World) (v : Value) (w' : World) : Prop := ∃ A n c, v = .slice A n c ∧ RsI w' A n L ∧ n ≤ c ∧ ((A = none → c = 0) ∧ ∀ ad, A = some ad → w.heap.size ≤ ad.block) ∧ Kept Old w w'
theorem made_endI {L : List Int} {w w' : World} {B n : Nat} {v : Value} (h : OwI w' B v n L) (K : Kept Old w w') (hB : w.heap.size ≤ B := by first | exact Nat.le_refl _ | omega) : MadeI L w v w' := by
  obtain ⟨A, c, rfl, r, h1, h2⟩ := h.rs
  refine ⟨A, n, c, rfl, r, h1, ⟨h2, fun ad e => ?_⟩, K⟩
  rcases h.row.2 with ⟨e', _⟩ | ⟨g, cap, cur, e', hb, _⟩
  · injection e' with e1
    rw [e] at e1
    cases e1
  · injection e' with e1
    rw [e] at e1
    injection e1 with e1
    subst e1
    exact Nat.le_trans hB hb
theorem MadeI.drew {L : List Int} {w w' : World} {v : Value} (h : MadeI L w v w') : MadeI L w v w'.drew := by
  obtain ⟨A, n, c, h1, r, h2, h3, K⟩ := h
  exact ⟨A, n, c, h1, r.drew, h2, h3, K.drew⟩
/-- Natural numbers as integers. -/
def NI (l : List Nat) : List Int := l.map fun (x : Nat) => (x : Int)
theorem NI_length (l : List Nat) : (NI l).length = l.length := by unfold NI; simp
theorem NI_append (a b : List Nat) : NI (a ++ b) = NI a ++ NI b := by unfold NI; simp
theorem NI_get (l : List Nat) (i : Nat) : (NI l)[i]? = (l[i]?).map fun (x : Nat) => (x : Int) := by unfold NI; simp
theorem NI_take (l : List Nat) (i : Nat) : NI (l.take i) = (NI l).take i := by unfold NI; simp
theorem RsI.getN {w : World} {A : Option Addr} {n : Nat} {l : List Nat} (h : RsI w A n (NI l)) {k : Nat} (hk : k < n) : ∃ (g o x : Nat), A = some ⟨g, o, none⟩ ∧ g < w.heap.size ∧ l[k]? = some x ∧ inI (x : Int) ∧ w.cell? ⟨g, o + k, none⟩ = some (.int .i64 (x : Int)) := by
  obtain ⟨g, o, x, h1, h2, h3, h4, h5⟩ := h.get hk
  rw [NI_get] at h3
  obtain ⟨y, hy, rfl⟩ := Option.map_eq_some_iff.1 h3
  exact ⟨g, o, y, h1, h2, hy, h4, h5⟩
theorem RsI.lenN {w : World} {A : Option Addr} {n : Nat} {l : List Nat} (h : RsI w A n (NI l)) : l.length = n := by
  have := h.len
  rwa [NI_length] at this
end Go.Proofs.YtcndilpaijapkaaGreat
/- slices.Contains of integers, and make of an empty slice of integers with room. Own work; proved by walks through the landed text. -/
namespace Go.Proofs.YtcndilpaijapkaaGreat.Fi
open Go.ChangeShapes Go.WideShapes Go.ChangeAt Go.RowKit
set_option maxRecDepth 100000

theorem take_atI {l : List Int} {k : Nat} {x : Int} (hx : l[k]? = some x) : l.take (k + 1) = l.take k ++ [x] := by
  rw [List.take_add_one, hx]; rfl
theorem index_any (A : Option Addr) (n cc : Nat) (l : List Int) (a : Int) (w : World) (h : RsI w A n l) (hn : n ≤ 100000) :
    Calls Tryz.prog 188 #[.slice A n cc, .int .i64 a] w fun e w' => ∃ z : Int, e = .returned (.int .i64 z) ∧ (0 ≤ z ↔ a ∈ l) ∧ w = w' := by
  have HR := Lib.hid h
  clear h
  go_enter Tryz.func188, Tryz.ntmps188
  go_wp2_with fail
  go_loopw [8] (fun i wr => ∃ k : Nat, k ≤ n ∧ i = .int .i64 (k : Int) ∧ Hid (a ∉ l.take k) ∧ w = wr) (fun i _ => n - (intOf i).toNat)
  case atStart => exact ⟨0, by omega, rfl, Lib.hid (by simp), rfl⟩
  case round =>
    obtain ⟨k, hk, rfl, HB, rfl⟩ := hrel
    by_cases c : k < n
    · obtain ⟨g, o, x, rfl, _, hx, _, cx⟩ := HR.out.get c
      have hx := Lib.hid hx
      by_cases d : a = x
      · subst d
        have P1 := Lib.hid (show (0 ≤ (k : Int) ↔ a ∈ l) from ⟨fun _ => List.mem_of_getElem? hx.out, fun _ => by omega⟩)
        clear hx
        go_wp2_with fail
        go_ret
        exact ⟨_, rfl, P1.out, rfl⟩
      · have d' : (a == x) = false := by simp [d]
        have hs := Lib.hid (show a ∉ l.take (k + 1) from fun hm => by
          rw [take_atI hx.out] at hm
          rcases List.mem_append.1 hm with hm | hm
          · exact HB.out hm
          · exact d (List.mem_singleton.1 hm))
        have dd := Lib.hid d
        clear d hx
        go_wp2_with fail
        refine ⟨⟨k + 1, by omega, by go_num, hs, by first | trivial | rfl⟩, ?_⟩
        simp [intOf]; omega
    · obtain rfl : k = n := by omega
      have P1 := Lib.hid (show ((0 : Int) ≤ -1 ↔ a ∈ l) from ⟨fun h => by omega, fun h => absurd h (by have := HB.out; rw [← HR.out.len, List.take_length] at this; exact this)⟩)
      go_wp2_with fail
      go_ret
      exact ⟨_, rfl, P1.out, rfl⟩
theorem contains_any (A : Option Addr) (n cc : Nat) (l : List Int) (a : Int) (w : World) (h : RsI w A n l) (hn : n ≤ 100000) :
    Calls Tryz.prog 162 #[.slice A n cc, .int .i64 a] w fun e w' => e = .returned (.bool (decide (a ∈ l))) ∧ w = w' := by
  have HC := Lib.hid (index_any A n cc l a w h hn)
  clear h
  go_enter Tryz.func162, Tryz.ntmps162
  go_wp2_with fail
  refine HC.out.mono ?_
  rintro e w' ⟨z, rfl, hz, rfl⟩
  have e := Lib.hid (show decide ((0 : Int) ≤ z) = decide (a ∈ l) from decide_eq_decide.mpr hz)
  clear hz
  go_wp2_with fail
  go_ret
  exact ⟨by rw [← e.out]; rfl, rfl⟩
theorem make_ints (w : World) (B n : Nat) (hn : n ≤ 100000) (hb : B ≤ w.heap.size) :
    ∃ w', (Instr.makeSlice 35 (.int .i64 0) (.int .i64 (n : Int))).run Tryz.prog w = .ok (.slice (some ⟨w.heap.size, 0, none⟩) 0 n) w' ∧ OwI w' B (.slice (some ⟨w.heap.size, 0, none⟩) 0 n) 0 [] ∧ Kept Old w w' := by
  obtain ⟨i0, hi, hz0, hz1, hz2⟩ := info_parts Tryz.intInfo1
  obtain ⟨w', hrun, r1, r2⟩ := run_make_own (P := Tryz.prog) w B 35 3 i0 _ 1 Tryz.underlying35 hi hz0 hz1 .i64 .i64 n (by rw [hz2]; omega) (by simp only [maxLen]; omega) hb
  exact ⟨w', hrun, ⟨r1, fun _ h => by cases h⟩, Kept.grown (Kept.refl _ _) r2 (fun g e _ => by cases e)⟩
theorem make_wpI {ops : Array Oper} {rest : List Oper} {o : Oper} {a : Act} {Q : Exit → Act → World → Prop} {w : World} (hg : o.guard = none) (lo hi : Operand) (hop : o.op = Op.makeSlice 35 lo hi) (B n : Nat) (X : Int) (hl : a.eval lo = .int .i64 0) (hc : a.eval hi = .int .i64 X) (hX : X = (n : Int)) (hn : n ≤ 100000) (hb : B ≤ w.heap.size)
    (go : ∀ w', Hid (OwI w' B (.slice (some ⟨w.heap.size, 0, none⟩) 0 n) 0 []) → Hid (Kept Old w w') → wpList Tryz.prog ops Q rest (a.put o.dst (.slice (some ⟨w.heap.size, 0, none⟩) 0 n)) w') : wpList Tryz.prog ops Q (o :: rest) a w := by
  subst hX
  refine wpList_plain hg fun K hK => ?_
  obtain ⟨w', hrun, r1, r2⟩ := make_ints w B n hn hb
  unfold Oper.wp
  simp [execOp, hop, hl, hc, hrun, Result.andThen]
  exact hK _ _ (go w' r1 r2)
end Go.Proofs.YtcndilpaijapkaaGreat.Fi
