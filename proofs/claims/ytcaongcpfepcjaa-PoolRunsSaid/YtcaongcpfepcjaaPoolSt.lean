/-
  A pool and its arena among other blocks (StP), each call of package pool in one contract, and the document's example. Own work; proved by walks through the landed text.
-/
import Derived.Test.YtcaongcpfepcjaaRows
import Derived.Test.YtcaongcpfepcjaaPoolCalls
import Derived.Test.YtcaongcpfepcjaaPoolFind
import Derived.Test.YtcaongcpfepcjaaPoolTake
import Derived.Test.YtcaongcpfepcjaaPoolAdd
import Derived.Test.YtcaongcpfepcjaaPoolPut
namespace Go.Proofs.Ytcaongcpfepcjaa.Prt
open Go.ChangeShapes Go.WideShapes Go.ChangeAt Go.RowKit
set_option maxRecDepth 100000

/-- All but the blocks of F may turn. -/
abbrev Fr (F : Nat → Prop) (k : Nat) : Prop := ¬ F k
/-- At p lies a pool of class c with the spans of L, at a an arena of P pages; their blocks are new since w0, and none of F's; F's are there. -/
def StP (w0 W : World) (p a g P c : Nat) (L : List Q) (F : Nat → Prop) : Prop :=
  ∃ v ws, Pt W w0.heap.size p v c L ∧ Ar W a g ws ∧ Chs ws L ∧ ws.length = P * 64 ∧ GoodP P c L ∧ P ≤ 256 ∧ (w0.heap.size ≤ a ∧ w0.heap.size ≤ g) ∧ Kept Old w0 W ∧ ∀ b, F b → b ≠ p ∧ b ≠ a ∧ b ≠ g ∧ v.ownBlock ≠ some b ∧ b < W.heap.size
theorem StP.good {w0 W : World} {p a g P c : Nat} {L : List Q} {F : Nat → Prop} (h : StP w0 W p a g P c L F) : GoodP P c L := by obtain ⟨v, ws, _, _, _, _, h, _⟩ := h; exact h
theorem StP.big {w0 W : World} {p a g P c : Nat} {L : List Q} {F : Nat → Prop} (h : StP w0 W p a g P c L F) : P ≤ 256 := by obtain ⟨v, ws, _, _, _, _, _, h, _⟩ := h; exact h
theorem StP.kept {w0 W : World} {p a g P c : Nat} {L : List Q} {F : Nat → Prop} (h : StP w0 W p a g P c L F) : Kept Old w0 W := by obtain ⟨v, ws, _, _, _, _, _, _, _, h, _⟩ := h; exact h
theorem StP.len {w0 W : World} {p a g P c : Nat} {L : List Q} {F : Nat → Prop} (h : StP w0 W p a g P c L F) : L.length ≤ 32 := by have := h.good.len; have := h.big; omega
/-- Blocks that came since are none of the pool's. -/
theorem StP.more {w0 W W' : World} {p a g P c : Nat} {L : List Q} {F G : Nat → Prop} (h : StP w0 W p a g P c L F) (k : Kept Old W W') (hG : ∀ b, G b → F b ∨ (W.heap.size ≤ b ∧ b < W'.heap.size)) : StP w0 W' p a g P c L G := by
  obtain ⟨v, ws, T, A, C, hl, gd, hP, hag, K, f⟩ := h
  refine ⟨v, ws, T.old k, A.kept k (fun x => x) (fun x => x), C, hl, gd, hP, hag, K.trans k, fun b hb => ?_⟩
  rcases hG b hb with e | ⟨e1, e2⟩
  · have := f b e
    exact ⟨this.1, this.2.1, this.2.2.1, this.2.2.2.1, Nat.lt_of_lt_of_le this.2.2.2.2 k.size⟩
  · have h1 := T.box.lt
    have h2 := A.box.lt
    have h3 := A.row.lt
    exact ⟨by omega, by omega, by omega, fun e => by have := (T.own.own b e.symm).2; omega, e2⟩
theorem StP.old {w0 W W' : World} {p a g P c : Nat} {L : List Q} {F : Nat → Prop} (h : StP w0 W p a g P c L F) (k : Kept Old W W') : StP w0 W' p a g P c L F := h.more k fun _ x => .inl x
/-- A step that turns blocks of F alone, new since w0. -/
theorem StP.only {w0 W W' : World} {p a g P c : Nat} {L : List Q} {F G : Nat → Prop} {D : Nat → Prop} (h : StP w0 W p a g P c L F) (k : Kept D W W') (hD : ∀ b, D b → F b ∧ w0.heap.size ≤ b) (hG : ∀ b, G b → F b ∨ (W.heap.size ≤ b ∧ b < W'.heap.size)) : StP w0 W' p a g P c L G := by
  obtain ⟨v, ws, T, A, C, hl, gd, hP, hag, K, f⟩ := h
  refine ⟨v, ws, T.kept k (fun e => (f p (hD p e).1).1 rfl) (fun gg e d => (f gg (hD gg d).1).2.2.2.1 e), A.kept k (fun e => (f a (hD a e).1).2.1 rfl) (fun e => (f g (hD g e).1).2.2.1 rfl), C, hl, gd, hP, hag, K.join k (fun i hi e => by have := (hD i e).2; omega), fun b hb => ?_⟩
  rcases hG b hb with e | ⟨e1, e2⟩
  · have := f b e
    exact ⟨this.1, this.2.1, this.2.2.1, this.2.2.2.1, Nat.lt_of_lt_of_le this.2.2.2.2 k.size⟩
  · have h1 := T.box.lt
    have h2 := A.box.lt
    have h3 := A.row.lt
    exact ⟨by omega, by omega, by omega, fun e => by have := (T.own.own b e.symm).2; omega, e2⟩
/-- A new pool beside a new arena. -/
theorem StP.new {w0 W W' : World} {p a g P c : Nat} {F : Nat → Prop} (ar : Ar W a g (List.replicate (P * 64) 0)) (K : Kept Old w0 W) (ha : w0.heap.size ≤ a) (hg : w0.heap.size ≤ g) (T : Pt W' w0.heap.size p (.slice none 0 0) c []) (k : Kept Old W W') (hc : c < 4) (hP : P ≤ 256) (hF : ∀ b, F b → b ≠ p ∧ b ≠ a ∧ b ≠ g ∧ b < W'.heap.size) : StP w0 W' p a g P c [] F :=
  ⟨_, _, T, ar.kept k (fun x => x) (fun x => x), Chs.nil _, by simp, GoodP.nil hc, hP, ⟨ha, hg⟩, K.trans k, fun b hb => ⟨(hF b hb).1, (hF b hb).2.1, (hF b hb).2.2.1, fun e => (by cases e), (hF b hb).2.2.2⟩⟩
/-- What a call that may turn the pool leaves. -/
theorem StP.turned {w0 W W' : World} {p a g P c : Nat} {L L' : List Q} {F : Nat → Prop} {v : Value} {ws : List Nat} (T : Pt W w0.heap.size p v c L) (hl : ws.length = P * 64) (hP : P ≤ 256) (hag : w0.heap.size ≤ a ∧ w0.heap.size ≤ g) (K : Kept Old w0 W) (f : ∀ b, F b → b ≠ p ∧ b ≠ a ∧ b ≠ g ∧ v.ownBlock ≠ some b ∧ b < W.heap.size) (g' : GoodP P c L') (h : ChgP w0.heap.size p a g v c L' ws W W') : StP w0 W' p a g P c L' F ∧ Kept (Fr F) W W' := by
  obtain ⟨v', vs, T', A', C', hl', k, ob⟩ := h
  refine ⟨⟨v', vs, T', A', C', by rw [hl', hl], g', hP, hag, ?_, fun b hb => ?_⟩, ?_⟩
  · exact K.join k (fun i hi e => by
      rcases e with e | e | e
      · have := T.low; omega
      · have := hag.2; omega
      · have := (T.own.own i e).1; omega)
  · have := f b hb
    refine ⟨this.1, this.2.1, this.2.2.1, ?_, Nat.lt_of_lt_of_le this.2.2.2.2 k.size⟩
    rcases ob with e | ⟨g, e, hg⟩
    · rw [e]; exact this.2.2.2.1
    · rw [e]
      intro z
      injection z with z
      omega
  · exact k.mono fun i e hF => by
      rcases e with e | e | e
      · exact (f i hF).1 e
      · exact (f i hF).2.2.1 e
      · exact (f i hF).2.2.2.1 e.symm
theorem st_add {w0 W : World} {p a g P c : Nat} {L : List Q} {F : Nat → Prop} (q : Int) (h : StP w0 W p a g P c L F) :
    Calls Try.prog 11 #[ptr p, ptr a, .int .i64 q] W fun e W' => e = .returned (.int .i64 (addC P L q)) ∧ StP w0 W' p a g P c (addL P c L q) F ∧ Kept (Fr F) W W' := by
  have h0 := h
  obtain ⟨v, ws, T, A, C, hl, gd, hP, hag, K, f⟩ := h
  unfold addC addL
  by_cases c0 : q < 0 ∨ (P : Int) - 8 < q
  · rw [if_pos c0, if_pos c0]
    refine (add_arg q W A hl hP c0).mono ?_
    rintro e W' ⟨rfl, rfl⟩
    exact ⟨rfl, h0, Kept.refl _ _⟩
  · rw [if_neg c0, if_neg c0]
    obtain ⟨m, rfl⟩ : ∃ m : Nat, q = (m : Int) := ⟨q.toNat, by omega⟩
    rw [Int.toNat_natCast]
    cases e : placeQ m L with
    | none =>
      refine (add_twice m W T A gd hl hP (by omega) e).mono ?_
      rintro e W' ⟨rfl, k⟩
      exact ⟨rfl, h0.old k, k.any⟩
    | some i =>
      refine (add_ok m i W T A gd C hl hP (by omega) e K.size).mono ?_
      rintro e W' ⟨rfl, k⟩
      have := StP.turned T hl hP hag K f (gd.ins e (by omega)) k
      exact ⟨rfl, this.1, this.2⟩
theorem st_take {w0 W : World} {p a g P c : Nat} {L : List Q} {F : Nat → Prop} (h : StP w0 W p a g P c L F) :
    Calls Try.prog 13 #[ptr p, ptr a] W fun e W' => e = .returned (.tuple #[.int .i64 (takeA L), .int .i64 (takeC L)]) ∧ StP w0 W' p a g P c (takeL L) F ∧ Kept (Fr F) W W' := by
  obtain ⟨v, ws, T, A, C, hl, gd, hP, hag, K, f⟩ := h
  refine (take_any W T A gd hP C).mono ?_
  rintro e W' ⟨rfl, T', A', C', k⟩
  have := StP.turned T hl hP hag K f gd.take ⟨v, ws, T', A', C', rfl, k.mono fun i e => .inr (.inr e), .inl rfl⟩
  exact ⟨rfl, this.1, this.2⟩
theorem st_put {w0 W : World} {p a g P c : Nat} {L : List Q} {F : Nat → Prop} (q : Int) (h : StP w0 W p a g P c L F) :
    Calls Try.prog 15 #[ptr p, ptr a, .int .i64 q] W fun e W' => e = .returned (.tuple #[.int .i64 (putP c L q), .bool (putG c L q), .int .i64 (putC c L q)]) ∧ StP w0 W' p a g P c (putL c L q) F ∧ Kept (Fr F) W W' := by
  have h0 := h
  obtain ⟨v, ws, T, A, C, hl, gd, hP, hag, K, f⟩ := h
  have gp := gd.put q
  unfold putP putG putC putL at *
  rcases findQ_ways (c := c) (a := q) L with ⟨_, hx⟩ | ⟨k, x, h1, h2, h3, _⟩
  · rw [putR_none hx]
    refine (put_arg q W T gd hP hx).mono ?_
    rintro e W' ⟨rfl, k⟩
    exact ⟨rfl, h0.old k, k.any⟩
  · rw [putR_at h1 h2 h3] at gp ⊢
    have hr := at_range h3
    obtain ⟨m, rfl⟩ : ∃ m : Nat, q = (m : Int) := ⟨q.toNat, by omega⟩
    rw [Int.toNat_natCast] at gp ⊢
    by_cases hm : m ∈ x.free
    · rw [if_pos hm]
      refine (put_twice W T A gd hP C h2 h3 hm).mono ?_
      rintro e W' ⟨rfl, k⟩
      exact ⟨rfl, h0.old k, k.any⟩
    · rw [if_neg hm] at gp ⊢
      refine (put_ok W T A gd hl hP C h2 h3 hm).mono ?_
      rintro e W' ⟨rfl, k⟩
      by_cases d : x.free.length + 1 = perN c
      · rw [if_pos d] at k gp
        have := StP.turned T hl hP hag K f gp k
        rw [if_pos d]
        exact ⟨by rw [decide_eq_true d], this.1, this.2⟩
      · rw [if_neg d] at k gp
        have := StP.turned T hl hP hag K f gp k
        rw [if_neg d]
        exact ⟨by rw [decide_eq_false d], this.1, this.2⟩
theorem st_len {w0 W : World} {p a g P c : Nat} {L : List Q} {F : Nat → Prop} (h : StP w0 W p a g P c L F) :
    Calls Try.prog 19 #[ptr p] W fun e W' => e = .returned (.int .i64 (lenL L : Int)) ∧ Kept Old W W' := by
  obtain ⟨v, ws, T, A, C, hl, gd, hP, hag, K, f⟩ := h
  exact plen_any W T gd hP
theorem st_spans {w0 W : World} {p a g P c : Nat} {L : List Q} {F : Nat → Prop} (h : StP w0 W p a g P c L F) :
    Calls Try.prog 20 #[ptr p] W fun e W' => ∃ v', e = .returned v' ∧ Pr.Made1 (spansL L) W v' W' := by
  obtain ⟨v, ws, T, A, C, hl, gd, hP, hag, K, f⟩ := h
  exact spans_any W T gd hP
theorem st_free {w0 W : World} {p a g P c : Nat} {L : List Q} {F : Nat → Prop} (h : StP w0 W p a g P c L F) :
    Calls Try.prog 21 #[ptr p, ptr a] W fun e W' => ∃ v', e = .returned v' ∧ MadeI (NI (freeL L)) W v' W' := by
  obtain ⟨v, ws, T, A, C, hl, gd, hP, hag, K, f⟩ := h
  exact free_any W T A gd hP C

/-! ### The example -/
set_option maxHeartbeats 1000000 in
theorem awake_any (w : World) : Calls Try.prog 18 #[] w fun e w' => e = .returned (.bool true) ∧ Kept Old w w' := by
  have hN := Lib.hid (new_yes 8 w (by omega) (by omega))
  go_enter Try.func18, Try.ntmps18
  go_wp2_with fail
  refine hN.out.mono ?_
  rintro e w1 ⟨a, g, rfl, a1, k1, ha, hg⟩
  have A1 := Lib.hid a1
  have K1 := Lib.hid k1
  clear a1 k1 hN
  go_wp2_with fail
  refine (pnew_yes w.heap.size 3 w1 (by omega) K1.out.size).mono ?_
  rintro e w2 ⟨p, rfl, T2, k2, hp⟩
  have S := Lib.hid (StP.new (F := fun _ => False) A1.out K1.out ha hg T2 k2 (by omega) (by omega) (fun b h => h.elim))
  clear A1 K1 T2 k2
  go_wp2_with fail
  refine (st_add 0 S.out).mono ?_
  rintro e w3 ⟨rfl, s3, k3⟩
  have S := Lib.hid s3
  clear s3 k3
  rw [show addC 8 [] 0 = 0 by decide]
  go_wp2_with fail
  refine (st_take S.out).mono ?_
  rintro e w4 ⟨rfl, s4, k4⟩
  have S := Lib.hid s4
  clear s4 k4
  rw [show takeA (addL 8 3 [] 0) = 0 by decide, show takeC (addL 8 3 [] 0) = 0 by decide]
  go_wp2_with fail
  refine (st_take S.out).mono ?_
  rintro e w5 ⟨rfl, s5, k5⟩
  have S := Lib.hid s5
  clear s5 k5
  rw [show takeA (takeL (addL 8 3 [] 0)) = 256 by decide, show takeC (takeL (addL 8 3 [] 0)) = 0 by decide]
  go_wp2_with fail
  refine (st_take S.out).mono ?_
  rintro e w6 ⟨rfl, s6, k6⟩
  have S := Lib.hid s6
  clear s6 k6
  rw [show takeC (takeL (takeL (addL 8 3 [] 0))) = 2 by decide]
  go_wp2_with fail
  refine (st_put 0 S.out).mono ?_
  rintro e w7 ⟨rfl, s7, k7⟩
  have K := Lib.hid s7.kept
  clear s7 k7
  rw [show putP 3 (takeL (takeL (takeL (addL 8 3 [] 0)))) 0 = 0 by decide, show putG 3 (takeL (takeL (takeL (addL 8 3 [] 0)))) 0 = false by decide, show putC 3 (takeL (takeL (takeL (addL 8 3 [] 0)))) 0 = 0 by decide]
  go_wp2_with fail
  go_ret
  exact ⟨rfl, K.out⟩
end Go.Proofs.Ytcaongcpfepcjaa.Prt
