/-
  The document's own shop as far as chapter 7 goes (Sp): its runs and its spans, in blocks F; a heap beside it; NewShop without workers. Own work; each is proved by a walk through the landed text.
-/
import Derived.Test.YtdolchlhphoggaaRows
import Derived.Test.YtdolchlhphoggaaHeapSt
import Derived.Test.YtdolchlhphoggaaSpanApp
namespace Go.Proofs.Ytdolchlhphoggaa
open Go.ChangeShapes Go.WideShapes Go.ChangeAt Go.RowKit
set_option maxRecDepth 100000

/-! ### A heap beside what turns in F -/
theorem StS.moreD {D : Nat → Prop} {w0 W W' : World} {p : Nat} {P : Int} {l : List S} {F G : Nat → Prop} (h : StS w0 W p P l F) (k : Kept D W W') (hD : ∀ b, D b → F b ∧ w0.heap.size ≤ b) (hG : ∀ b, G b → F b ∨ (W.heap.size ≤ b ∧ b < W'.heap.size)) : StS w0 W' p P l G := by
  obtain ⟨v, T, g, hP, K, f⟩ := h
  refine ⟨v, T.kept k (fun e => (f p (hD p e).1).1 rfl) (fun g hg e => (f g (hD g e).1).2.1 hg), g, hP, K.join k (fun i hi e => by have := (hD i e).2; omega), fun b hb => ?_⟩
  rcases hG b hb with e | ⟨e1, e2⟩
  · exact ⟨(f b e).1, (f b e).2.1, Nat.lt_of_lt_of_le (f b e).2.2 k.size⟩
  · exact ⟨fun e => by have := T.box.lt; omega, fun e => by have := (T.own.own b e.symm).2; omega, e2⟩
theorem Hp.moreD {D : Nat → Prop} {w0 W W' : World} {h : Nat} {P : Int} {rl : List R} {sl : List S} {F G : Nat → Prop} (H : Hp w0 W h P rl sl F) (k : Kept D W W') (hD : ∀ b, D b → F b ∧ w0.heap.size ≤ b) (hG : ∀ b, G b → F b ∨ (W.heap.size ≤ b ∧ b < W'.heap.size)) : Hp w0 W' h P rl sl G := by
  obtain ⟨q, A, n, c, H⟩ := H
  have hl := H.box.lt
  refine ⟨q, A, n, c, H.box.kept k (fun e => (H.far h (hD h e).1).1 rfl), H.runs.fr k (fun b hb e => (H.far b (hD b e).1).2 hb), H.cap, H.nil, H.tab.moreD k (fun b e => ⟨.inl (hD b e).1, (hD b e).2⟩) (fun b hb => ?_), H.whole, H.low, fun b hb => ?_⟩
  · rcases hb with hb | hb
    · rcases hG b hb with e | e
      · exact .inl (.inl e)
      · exact .inr e
    · exact .inl (.inr hb)
  · rcases hG b hb with e | e
    · exact H.far b e
    · exact ⟨by omega, fun z => by have := H.runs.ltB z; omega⟩
theorem rsS_fr {D : Nat → Prop} {W W' : World} {A : Option Addr} {n : Nat} {l : List S} (h : RsS W A n l) (k : Kept D W W') (hd : ∀ b, FR A n b → ¬ D b) : RsS W' A n l :=
  ⟨h.len, h.fit, fun hn => by
    obtain ⟨g, o, rfl, hg, c⟩ := h.lies hn
    have hd' : ¬ D g := hd g ⟨hn, _, rfl, rfl⟩
    exact ⟨g, o, rfl, Nat.lt_of_lt_of_le hg k.size, fun i x hx => (c i x hx).kept k hg hd'⟩⟩
theorem rsS_ltB {W : World} {A : Option Addr} {n : Nat} {l : List S} (h : RsS W A n l) {b : Nat} (hb : FR A n b) : b < W.heap.size := by
  obtain ⟨hn, ad, e, rfl⟩ := hb
  obtain ⟨g, o, rfl, hg, _⟩ := h.lies hn
  injection e with e
  subst e
  exact hg

/-! ### A shop -/
structure SpAt (W : World) (s : Nat) (P : Int) (rl : List R) (sl : List S) (F : Nat → Prop) (A : Option Addr) (n c : Nat) (B : Option Addr) (m d : Nat) (r : List Value) : Prop where
  box : Blk W s 39 (.int .i64 P :: .slice A n c :: .slice B m d :: r)
  runs : Rs W A n rl
  rcap : n ≤ c
  rnil : A = none → c = 0
  spans : RsS W B m sl
  scap : m ≤ d
  shape : Shape B d
  at_s : F s
  at_r : ∀ b, FR A n b → F b
  at_p : ∀ b, FR B m b → F b
  apart : ∀ b, FR A n b ∨ FR B m b → b ≠ s
/-- At s lies a shop whose runs are rl and whose spans are sl, in blocks of F. -/
def Sp (W : World) (s : Nat) (P : Int) (rl : List R) (sl : List S) (F : Nat → Prop) : Prop := ∃ A n c B m d r, SpAt W s P rl sl F A n c B m d r
theorem SpAt.fr {D : Nat → Prop} {W W' : World} {s : Nat} {P : Int} {rl : List R} {sl : List S} {F : Nat → Prop} {A : Option Addr} {n c : Nat} {B : Option Addr} {m d : Nat} {r : List Value} (H : SpAt W s P rl sl F A n c B m d r) (k : Kept D W W') (hd : ∀ b, F b → ¬ D b) : SpAt W' s P rl sl F A n c B m d r :=
  ⟨H.box.kept k (hd s H.at_s), H.runs.fr k (fun b hb => hd b (H.at_r b hb)), H.rcap, H.rnil, rsS_fr H.spans k (fun b hb => hd b (H.at_p b hb)), H.scap, H.shape, H.at_s, H.at_r, H.at_p, H.apart⟩
theorem SpAt.old {W W' : World} {s : Nat} {P : Int} {rl : List R} {sl : List S} {F : Nat → Prop} {A : Option Addr} {n c : Nat} {B : Option Addr} {m d : Nat} {r : List Value} (H : SpAt W s P rl sl F A n c B m d r) (k : Kept Old W W') : SpAt W' s P rl sl F A n c B m d r := H.fr k (fun _ _ x => x)
theorem Sp.fr {D : Nat → Prop} {W W' : World} {s : Nat} {P : Int} {rl : List R} {sl : List S} {F : Nat → Prop} (H : Sp W s P rl sl F) (k : Kept D W W') (hd : ∀ b, F b → ¬ D b) : Sp W' s P rl sl F := by
  obtain ⟨A, n, c, B, m, d, r, H⟩ := H
  exact ⟨A, n, c, B, m, d, r, H.fr k hd⟩
theorem Sp.old {W W' : World} {s : Nat} {P : Int} {rl : List R} {sl : List S} {F : Nat → Prop} (H : Sp W s P rl sl F) (k : Kept Old W W') : Sp W' s P rl sl F := H.fr k (fun _ _ x => x)
theorem Sp.mono {W : World} {s : Nat} {P : Int} {rl : List R} {sl : List S} {F G : Nat → Prop} (H : Sp W s P rl sl F) (h : ∀ b, F b → G b) : Sp W s P rl sl G := by
  obtain ⟨A, n, c, B, m, d, r, H⟩ := H
  exact ⟨A, n, c, B, m, d, r, H.box, H.runs, H.rcap, H.rnil, H.spans, H.scap, H.shape, h _ H.at_s, fun b hb => h b (H.at_r b hb), fun b hb => h b (H.at_p b hb), H.apart⟩
/-- F, and what came since. -/
def Fw (F : Nat → Prop) (W W' : World) (b : Nat) : Prop := F b ∨ (W.heap.size ≤ b ∧ b < W'.heap.size)

/-! ### NewShop -/
/-- No block. -/
abbrev F9 (_ : Nat) : Prop := False
theorem Try.poolInfo : (Try.prog.info? 73).map (fun i => (i.zero, i.size, i.bytes)) = some (some (.agg #[.int .i64 0, .int .i64 0, .slice none 0 0]), 3, 40) := by kernel_rfl
/-- append of one pool. -/
theorem appP_run (w : World) (B : Nat) (v : Value) (n : Nat) (cs : List Value) (h : w.ownsRow B 73 3 v n cs) (g c : Nat) (x y : Int) (hb : Blk w g 73 [.int .i64 x, .int .i64 y, .slice none 0 0]) (hn : n ≤ 1000) (hB : B ≤ w.heap.size) :
    ∃ v' w' cs', (Builtin.append_ #[32, 32] 32 #[v, .slice (some ⟨g, 0, none⟩) 1 c]).run Try.prog w = .ok v' w' ∧ w'.ownsRow B 73 3 v' (n + 1) cs' ∧ Kept (fun k => some k = v.ownBlock) w w' := by
  obtain ⟨i0, hi, hz0, hz1, hz2⟩ := info_parts Try.poolInfo
  obtain ⟨v', w', hrun, ho, hg, _, hat⟩ := run_append_own_at (P := Try.prog) w B 32 32 73 i0 _ 3 40 Try.underlying32 hi hz0 hz1 hz2 rfl (by omega) v n cs h ⟨g, 0, none⟩ 1 c [.int .i64 x, .int .i64 y, .slice none 0 0] rfl (fun j u hu => by rw [addr_add, Nat.zero_add, hb.cell]; exact hu) (by intro u hu; simp only [List.mem_cons, List.not_mem_nil, or_false] at hu; rcases hu with rfl | rfl | rfl <;> rfl) (by simp only [maxLen]; omega) (by omega) hB
  exact ⟨v', w', _, hrun, ho, Kept.grown (Kept.refl _ _) hg (fun g e _ => e.symm)⟩
theorem own_kept {D : Nat → Prop} {w w' : World} {B : Nat} {t : TypeId} {z : Nat} {v : Value} {n : Nat} {cs : List Value} (h : w.ownsRow B t z v n cs) (k : Kept D w w') (hd : ∀ g, v.ownBlock = some g → ¬ D g) : w'.ownsRow B t z v n cs := by
  refine ⟨h.1, ?_⟩
  rcases h.2 with hn | ⟨g, cap, cur, rfl, hb, hg, rest⟩
  · exact .inl hn
  · refine .inr ⟨g, cap, cur, rfl, hb, ?_, rest⟩
    rw [k.block g (Array.getElem?_eq_some_iff.1 hg).1 (hd g rfl)]
    exact hg
/-- The shop's cells while its pools grow. -/
def shopCells (P : Int) (g : Nat) (v : Value) : List Value := [.int .i64 P, .slice (some ⟨g, 0, none⟩) 1 1, .slice none 0 0, v, .slice none 0 0, .bool false, .slice none 0 0, .slice none 0 0, .slice none 0 0]
structure NS (W : World) (P : Int) (k : Nat) (v : Value) (X : World) : Prop where
  box : Blk X (W.heap.size + 1) 39 (shopCells P W.heap.size v)
  own : ∃ cs, X.ownsRow (W.heap.size + 2) 73 3 v k cs
  runs : Rs X (some ⟨W.heap.size, 0, none⟩) 1 [(0, P)]
  kept : Kept Old W X
  low : W.heap.size + 2 ≤ X.heap.size
theorem NS.new (W : World) (P : Int) (h1 : 1 ≤ P) (h2 : P ≤ 256) : NS W P 0 (.slice none 0 0) ((W.alloc (.cells #[.int .i64 0, .int .i64 P] 63)).alloc (.cells (shopCells P W.heap.size (.slice none 0 0)).toArray 39)) := by
  have B := Blk.new (W.alloc (.cells #[.int .i64 0, .int .i64 P] 63)) 39 (shopCells P W.heap.size (.slice none 0 0))
  rw [show (W.alloc (.cells #[.int .i64 0, .int .i64 P] 63)).heap.size = W.heap.size + 1 by simp] at B
  refine ⟨B, ⟨[], World.ownsRow_nil _ _ _ _⟩, (Rs.one W (0, P) ⟨by omega, by omega⟩ ⟨by show _ ≤ P; omega, by show P ≤ _; omega⟩ _ rfl).old ((Kept.refl _ _).alloc _), ((Kept.refl _ _).alloc _).alloc _, by simp⟩
theorem NS.step {W X : World} {P : Int} {k : Nat} {v : Value} (h : NS W P k v X) (hk : k ≤ 900) :
    ∃ v' w', (∃ A m c, v' = .slice A m c) ∧ (Builtin.append_ #[32, 32] 32 #[v, .slice (some ⟨X.heap.size, 0, none⟩) 1 1]).run Try.prog (X.alloc (.cells #[.int .i64 (k : Int), .int .i64 P, .slice none 0 0] 73)) = .ok v' w' ∧
      w'.cell? ⟨W.heap.size + 1, 3, none⟩ = some v ∧ w'.frozen? ⟨W.heap.size + 1, 3, none⟩ = false ∧ NS W P (k + 1) v' (w'.setCell ⟨W.heap.size + 1, 3, none⟩ v') := by
  obtain ⟨cs, ow⟩ := h.own
  have hl := h.low
  have k1 := (Kept.refl Old X).alloc (.cells #[.int .i64 (k : Int), .int .i64 P, .slice none 0 0] 73)
  obtain ⟨v', w', cs', hrun, ow', k2⟩ := appP_run _ _ v k cs (ow.alloc _) X.heap.size 1 (k : Int) P (Blk.new X 73 [.int .i64 (k : Int), .int .i64 P, .slice none 0 0]) (by omega) (by have := k1.size; omega)
  have far : ∀ i, i < W.heap.size + 2 → ¬ some i = v.ownBlock := fun i hi e => by have := (ow.lt i e.symm).1; omega
  have B2 := (h.box.kept k1 (fun x => x)).kept k2 (far _ (by omega))
  have R2 := (h.runs.old k1).fr k2 (fun b hb => far b (by
    obtain ⟨_, ad, e, rfl⟩ := hb
    injection e with e
    subst e
    show W.heap.size < _
    omega))
  have k3 : Kept (Only (W.heap.size + 1)) w' (w'.setCell ⟨W.heap.size + 1, 3, none⟩ v') := only_setCell _ _ _ _
  have c3 := B2.cell 3
  have sh : ∃ A m c, v' = .slice A m c := by
    rcases ow'.2 with ⟨e, _⟩ | ⟨g, cap, cur, e, _⟩
    · exact ⟨_, _, _, e⟩
    · exact ⟨_, _, _, e⟩
  refine ⟨v', w', sh, hrun, c3, B2.frozen 3, B2.put 3 v', ⟨cs', own_kept ow' k3 (fun g e d => by have := (ow'.lt g e).1; have : g = W.heap.size + 1 := d; omega)⟩, R2.fr k3 (fun b hb d => ?_), ?_, ?_⟩
  · obtain ⟨_, ad, e, rfl⟩ := hb
    injection e with e
    subst e
    have : W.heap.size = W.heap.size + 1 := d
    omega
  · exact ((h.kept.trans k1).join k2 (fun i hi e => far i (by omega) e)).join k3 (fun i hi e => by have : i = W.heap.size + 1 := e; omega)
  · have := k1.size
    have := k2.size
    have := k3.size
    omega
theorem NS.sp {W X : World} {P : Int} {k : Nat} {v : Value} (h : NS W P k v X) : Sp X (W.heap.size + 1) P [(0, P)] [] (Fw F9 W X) := by
  have hl := h.low
  refine ⟨_, 1, 1, none, 0, 0, _, h.box, h.runs, Nat.le_refl _, fun e => by (cases e), RsS.nil _ _, Nat.le_refl _, .inl ⟨rfl, rfl⟩, .inr ⟨by omega, by omega⟩, fun b hb => ?_, fun b hb => ?_, fun b hb => ?_⟩
  · obtain ⟨_, ad, e, rfl⟩ := hb
    injection e with e
    subst e
    exact .inr ⟨Nat.le_refl _, by show W.heap.size < _; omega⟩
  · exact absurd hb.1 (Nat.lt_irrefl 0)
  · rcases hb with hb | hb
    · obtain ⟨_, ad, e, rfl⟩ := hb
      injection e with e
      subst e
      show W.heap.size ≠ _
      omega
    · exact absurd hb.1 (Nat.lt_irrefl 0)
theorem appP_wp {ops : Array Oper} {rest : List Oper} {o : Oper} {a : Act} {Q : Exit → Act → World → Prop} {w : World} (hgd : o.guard = none) (s x : Operand)
    (ho : o.op = .call { callee := .builtin .append, args := #[s, x], argTypes := #[32, 32] }) (hty : o.type = 32) (v u v' : Value) (w' : World) (hs : a.eval s = v) (hx : a.eval x = u)
    (hrun : (Builtin.append_ #[32, 32] 32 #[v, u]).run Try.prog w = .ok v' w')
    (go : wpList Try.prog ops Q rest (a.put o.dst v') w') : wpList Try.prog ops Q (o :: rest) a w := by
  refine wpList_plain hgd fun K hK => ?_
  unfold Oper.wp execOp
  simp only [ho, hty, resolve, invoke, builtin, Sem.run_bind, Sem.run_pure, Result.andThen_ok, List.map_toArray, List.map_cons, List.map_nil, hs, hx, hrun]
  exact hK _ _ go
/-- What NewShop answers. -/
def NewSp (P : Int) (W : World) (e : Ending) (W' : World) : Prop := ∃ s, e = .returned (ptr s) ∧ Sp W' s P [(0, P)] [] (Fw F9 W W') ∧ Kept Old W W' ∧ W.heap.size ≤ s
set_option maxHeartbeats 1000000 in
theorem shop_new (P : Int) (W : World) (h1 : 1 ≤ P) (h2 : P ≤ 256) : Calls Try.prog 10 #[.int .i64 P, .int .i64 0] W (NewSp P W) := by
  have N0 := Lib.hid (NS.new W P h1 h2)
  clear h1 h2
  go_enter Try.func10, Try.ntmps10
  go_wp2_with fail
  go_loopw [6] (fun i wr => ∃ (k : Nat) (v : Value), k ≤ 4 ∧ i = .int .i64 (k : Int) ∧ Hid (NS W P k v wr)) (fun i _ => 4 - (intOf i).toNat)
  case atStart => exact ⟨0, _, by omega, rfl, N0⟩
  case round =>
    obtain ⟨k, v, hk, rfl, N1⟩ := hrel
    rename World => X
    clear N0
    have c3 := N1.out.box.cell 3
    simp only [shopCells, List.getElem?_cons_succ, List.getElem?_cons_zero] at c3
    have hl := N1.out.low
    by_cases c : k < 4
    · obtain ⟨v', w', ⟨A', m', c', rfl⟩, hrun, d3, f3, N2⟩ := N1.out.step (by omega)
      have N2 := Lib.hid N2
      have hlt : W.heap.size + 1 < X.heap.size := by omega
      have hrun := Lib.hid hrun
      clear N1
      go_wp2_with (at_builtin; refine appP_wp rfl (.tmp 22) (.tmp 26) rfl rfl _ _ (.slice A' m' c') w' rfl rfl hrun.out ?_)
      refine ⟨⟨k + 1, .slice A' m' c', by omega, by go_num, N2⟩, ?_⟩
      simp [intOf]; omega
    · have E : NewSp P W (.returned (ptr (W.heap.size + 1))) X := ⟨_, rfl, N1.out.sp, N1.out.kept, by omega⟩
      have E := Lib.hid E
      clear N1
      go_wp2_with fail
      go_loopw [7] (fun i wr => i = .int .i64 0 ∧ wr = X) (fun _ _ => 0)
      case atStart => exact ⟨rfl, rfl⟩
      case round =>
        obtain ⟨rfl, rfl⟩ := hrel
        go_wp2
        go_ret
        exact E.out
end Go.Proofs.Ytdolchlhphoggaa
