/-
  What Put of package pool answers. Own work; each is proved by a walk through the landed text.
-/
import Derived.Test.YtcaongcpfepcjaaRows
import Derived.Test.YtcaongcpfepcjaaPartDel
import Derived.Test.YtcaongcpfepcjaaPoolCalls
import Derived.Test.YtcaongcpfepcjaaPoolFind
import Derived.Test.YtcaongcpfepcjaaPoolTake
import Derived.Test.YtcaongcpfepcjaaPoolAdd
import Derived.WalkKit
import Derived.ProofKit
import Derived.OpenShut
import Derived.Outline
import Derived.Deep.Light
import Derived.IntWalk
import Derived.WalkMore
import Derived.RegionTactic
import Derived.Deep.RegionLaw
import Derived.ChangeAlike
import Derived.Deep.RegionHeld3
namespace Go.Proofs.Ytcaongcpfepcjaa.Prt
open Go.ChangeShapes Go.WideShapes Go.ChangeAt Go.RowKit
set_option maxRecDepth 100000

theorem cellP_on {w w' : World} (k : Kept Old w w') {p : Addr} {v : Value} (h : w.cell? p = some v) : w'.cell? p = some v := (k.cell (block_lt_of_cell h) (fun x => x)).trans h
theorem put_nil {a : Value} (q : Int) (w : World) : Calls Try.prog 15 #[.pointer none, a, .int .i64 q] w fun e w' => e = .returned (.tuple #[.int .i64 0, .bool false, .int .i64 2]) ∧ w = w' := by
  go_enter Try.func15, Try.ntmps15
  go_wp2
  go_ret3
  exact ⟨rfl, rfl⟩
theorem put_na {p : Nat} (q : Int) (w : World) : Calls Try.prog 15 #[ptr p, .pointer none, .int .i64 q] w fun e w' => e = .returned (.tuple #[.int .i64 0, .bool false, .int .i64 2]) ∧ w = w' := by
  go_enter Try.func15, Try.ntmps15
  go_wp2
  go_ret3
  exact ⟨rfl, rfl⟩
theorem put_arg {P B p c a : Nat} {v : Value} {L : List Q} (q : Int) (w : World) (h : Pt w B p v c L) (gd : GoodP P c L) (hP : P ≤ 256) (hx : ∀ y ∈ L, atB c y.page q = false) :
    Calls Try.prog 15 #[ptr p, ptr a, .int .i64 q] w fun e w' => e = .returned (.tuple #[.int .i64 0, .bool false, .int .i64 1]) ∧ Kept Old w w' := by
  have FA := Lib.hid (find_any q w h gd hP)
  have HX := Lib.hid hx
  clear h gd hx
  go_enter Try.func15, Try.ntmps15
  go_wp2_with fail
  refine FA.out.mono ?_
  rintro e w1 ⟨hh, k1⟩
  have k1 := Lib.hid k1
  rcases hh with ⟨i, x, _, _, h3, h4⟩ | ⟨rfl, _⟩
  · rw [HX.out x (List.mem_of_getElem? h3)] at h4; cases h4
  · go_wp2_with fail
    go_ret3
    exact ⟨rfl, k1.out⟩
/-- What find answers of a stack that is there. -/
theorem find_at {P B p c k : Nat} {v : Value} {L : List Q} {x : Q} (q : Int) (w : World) (h : Pt w B p v c L) (gd : GoodP P c L) (hP : P ≤ 256) (hk : L[k]? = some x) (hx : atB c x.page q = true) :
    Calls Try.prog 33 #[ptr p, .int .i64 q] w fun e w' => e = .returned (.tuple #[.int .i64 (k : Int), .bool true]) ∧ Kept Old w w' := by
  refine (find_any q w h gd hP).mono ?_
  rintro e w1 ⟨hh, k1⟩
  rcases hh with ⟨i, y, rfl, h2, h3, h4⟩ | ⟨_, h2⟩
  · by_cases d : i = k
    · subst d; exact ⟨rfl, k1⟩
    · have := at_no hx (gd.apart hk h3 (fun e => d e.symm))
      rw [h4] at this
      cases this
  · rw [h2 x (List.mem_of_getElem? hk)] at hx; cases hx
theorem NI_mem {b : Nat} {l : List Nat} : (b : Int) ∈ NI l ↔ b ∈ l := by
  unfold NI
  rw [List.mem_map]
  constructor
  · rintro ⟨x, hx, e⟩
    have : x = b := by omega
    rw [← this]; exact hx
  · intro h; exact ⟨b, h, rfl⟩
set_option maxHeartbeats 4000000 in
theorem put_twice {P B p c a g k b : Nat} {v : Value} {L : List Q} {x : Q} {ws : List Nat} (w : World) (h : Pt w B p v c L) (ar : Ar w a g ws) (gd : GoodP P c L) (hP : P ≤ 256) (ch : Chs ws L) (hk : L[k]? = some x) (hx : atB c x.page (b : Int) = true) (hb : b ∈ x.free) :
    Calls Try.prog 15 #[ptr p, ptr a, .int .i64 (b : Int)] w fun e w' => e = .returned (.tuple #[.int .i64 0, .bool false, .int .i64 4]) ∧ Kept Old w w' := by
  have FA := Lib.hid (find_at (b : Int) w h gd hP hk hx)
  have hn : L.length ≤ 32 := by have := gd.len; omega
  have kn := (List.getElem?_eq_some_iff.1 hk).1
  have xm := List.mem_of_getElem? hk
  have fw := gd.few xm
  have pp := per_pos gd.cls
  have cx := Lib.hid (ch x xm)
  obtain ⟨gb, cc, rfl, nep, glt, gfz⟩ := h.blk (by omega)
  obtain ⟨A, cc', e, r, _, _⟩ := h.own.rs
  injection e with e1 e2 e3
  subst e1
  subst e3
  obtain ⟨g', o', y, e, _, hy, a0, a1, a2⟩ := r.getQ kn
  injection e with e
  injection e with e1 e2
  subst e1
  subst e2
  obtain rfl : y = x := by rw [hk] at hy; exact (Option.some.inj hy).symm
  rw [Nat.zero_add] at a0 a1 a2
  have c1 := h.c1
  have HA := Lib.hid ar
  have kn' : (k : Int) < (L.length : Int) := by omega
  have mm := Lib.hid (decide_eq_true (NI_mem.2 hb))
  have fl : y.free.length ≤ 16 := by omega
  generalize L.length = n at *
  clear h ar gd ch r hy hk xm hx
  go_enter Try.func15, Try.ntmps15
  go_wp2_with fail
  refine FA.out.mono ?_
  rintro e w1 ⟨rfl, k1⟩
  have c1 := cellP_on k1 c1
  have a1 := cellP_on k1 a1
  have a2 := cellP_on k1 a2
  have K1 := Lib.hid k1
  have k0 := Kept.refl Old w1
  have A1 := Lib.hid (HA.out.kept k1 (fun x => x) (fun x => x))
  clear k1 FA a0 glt
  go_wp2_with fail
  go_region_held3 (fun w' => Kept Old w1 w' ∧ w'.cell? ⟨gb, k * 3 + 1, none⟩ = some (.int .i64 (headQ y.free : Int)) ∧ w'.cell? ⟨gb, k * 3 + 2, none⟩ = some (.int .i64 (y.free.length : Int)))
    (first
      | (exact ⟨‹_›, ‹_›, ‹_›⟩)
      | (exact ⟨Kept.drew ‹_›, ‹_›, ‹_›⟩)
      | (go_split_ands; exact ⟨Kept.trans ‹_› k3, cellP_on k3 ‹_›, cellP_on k3 ‹_›⟩)
      | go_keep)
    (first
      | (go_at_call 34; refine (walk_some (y.free.length : Int) _ (A1.out.kept (‹Kept Old w1 _ ∧ _›).1 (fun x => x) (fun x => x)) cx.out (Int.le_refl _) (by omega)).mono ?_; rintro e w3 ⟨v3, rfl, A3, n3, c3, rfl, r3, hc3, hA3, k3⟩))
  obtain ⟨kw, _, _⟩ := ‹Kept Old w1 _ ∧ _›
  have r3 := Lib.hid r3
  have n3e := Lib.hid r3.out.lenN
  have kw := Lib.hid kw
  clear k3 hA3
  go_wp2_with fail
  refine (contains_any _ _ _ _ _ _ r3.out (by have := n3e.out; omega)).mono ?_
  rintro e w4 ⟨rfl, rfl⟩
  rw [mm.out]
  go_wp2_with fail
  go_ret3
  exact ⟨rfl, K1.out.trans kw.out⟩
/-- Behind the writes of a put that leaves the span. -/
theorem put_keep {P B p c a g gb cc k b : Nat} {L : List Q} {x : Q} {ws : List Nat} {w W : World} (T : Pt W B p (.slice (some ⟨gb, 0, none⟩) L.length cc) c L) (ar : Ar W a g (ws.set b (headQ x.free))) (gd : GoodP P c L) (ch : Chs ws L) (hl : ws.length = P * 64) (hP : P ≤ 256) (K : Kept (Turn p g (.slice (some ⟨gb, 0, none⟩) L.length cc)) w W) (hk : L[k]? = some x) (hx : atB c x.page (b : Int) = true) (hb : b ∉ x.free) :
    Pt ((W.setCell ⟨gb, k * 3 + 1, none⟩ (.int .i64 ((b : Int) + 1))).setCell ⟨gb, k * 3 + 2, none⟩ (.int .i64 ((x.free.length : Int) + 1))) B p (.slice (some ⟨gb, 0, none⟩) L.length cc) c (L.set k ⟨x.page, b :: x.free⟩)
    ∧ Ar ((W.setCell ⟨gb, k * 3 + 1, none⟩ (.int .i64 ((b : Int) + 1))).setCell ⟨gb, k * 3 + 2, none⟩ (.int .i64 ((x.free.length : Int) + 1))) a g (ws.set b (headQ x.free))
    ∧ Chs (ws.set b (headQ x.free)) (L.set k ⟨x.page, b :: x.free⟩) ∧ Chs (ws.set b (headQ x.free)) (L.take k ++ L.drop (k + 1))
    ∧ Kept (Turn p g (.slice (some ⟨gb, 0, none⟩) L.length cc)) w ((W.setCell ⟨gb, k * 3 + 1, none⟩ (.int .i64 ((b : Int) + 1))).setCell ⟨gb, k * 3 + 2, none⟩ (.int .i64 ((x.free.length : Int) + 1))) := by
  obtain ⟨c1, c2, c3, c4⟩ := ch.put gd hl hk hx hb
  have fw := gd.few (List.mem_of_getElem? hk)
  have pp := per_pos gd.cls
  obtain ⟨u1, u2⟩ := T.put2 (y := ⟨x.page, b :: x.free⟩) hk rfl (by show b + 1 ≤ _; omega) (by show x.free.length + 1 ≤ _; omega)
  have na : a ≠ gb := fun e => T.own_ne ar.box (by decide) (by rw [e]; rfl)
  have ng : g ≠ gb := fun e => T.own_ne ar.row.blk (by decide) (by rw [e]; rfl)
  exact ⟨u1, ar.kept u2 na ng, c3, c4, K.trans (u2.mono fun i e => .inr (.inr (by rw [show i = gb from e]; rfl)))⟩
/-- What is known behind the Delete. -/
theorem del_near {B p a g c k : Nat} {v : Value} {L L0 : List Q} {ws vs : List Nat} {w W : World} (T : Pt W B p v c L) (ar : Ar W a g vs) (ch : Chs vs L0) (e0 : L.take k ++ L.drop (k + 1) = L0) (hl : vs.length = ws.length) (K : Kept (Turn p g v) w W) (hp : p < w.heap.size) (hk : k < L.length) (hn : L.length ≤ 1000) :
    Calls Try.prog 37 #[v, .int .i64 (k : Int), .int .i64 ((k : Int) + 1)] W (InsP B p a g v c L0 ws w) := by
  refine (del_any B v L.length k (SQ L) W T.own hk hn).mono ?_
  intro e V hT
  obtain ⟨v', rfl, O, k', ob⟩ := hT
  have eL : (SQ L).take k ++ (SQ L).drop (k + 1) = SQ L0 := by
    rw [← e0]
    unfold SQ
    rw [List.map_append, List.map_take, List.map_drop]
  rw [eL] at O
  have eN : (SQ L0).length = L0.length := by unfold SQ; rw [List.length_map]
  rw [eN] at O
  have ks := K.size
  obtain ⟨z1, z2, z3, z4⟩ := store_pool T ar ch hl K hp O k' (ob.imp id fun e => ⟨_, e, by omega⟩)
  obtain ⟨A, cc, hv, _⟩ := O.rs
  rw [hv] at z4 ⊢
  exact ⟨A, _, cc, rfl, z1, z2, z3, Lib.hid z4⟩
theorem set_take {α : Type} (L : List α) (k : Nat) (y : α) : (L.set k y).take k ++ (L.set k y).drop (k + 1) = L.take k ++ L.drop (k + 1) := by
  rw [List.take_set_of_le (Nat.le_refl _), List.drop_set_of_lt (by omega)]
set_option maxHeartbeats 1000000 in
theorem put_ok {P B p c a g k b : Nat} {v : Value} {L : List Q} {x : Q} {ws : List Nat} (w : World) (h : Pt w B p v c L) (ar : Ar w a g ws) (gd : GoodP P c L) (hl : ws.length = P * 64) (hP : P ≤ 256) (ch : Chs ws L) (hk : L[k]? = some x) (hx : atB c x.page (b : Int) = true) (hb : b ∉ x.free) :
    Calls Try.prog 15 #[ptr p, ptr a, .int .i64 (b : Int)] w fun e w' => e = .returned (.tuple #[.int .i64 (x.page : Int), .bool (decide (x.free.length + 1 = perN c)), .int .i64 0]) ∧ ChgP B p a g v c (if x.free.length + 1 = perN c then L.take k ++ L.drop (k + 1) else L.set k ⟨x.page, b :: x.free⟩) ws w w' := by
  have FA := Lib.hid (find_at (b : Int) w h gd hP hk hx)
  have hn : L.length ≤ 32 := by have := gd.len; omega
  have kn := (List.getElem?_eq_some_iff.1 hk).1
  have xm := List.mem_of_getElem? hk
  have fw := gd.few xm
  have pp := per_pos gd.cls
  have cx := Lib.hid (ch x xm)
  have e1 := Lib.hid (perI_c gd.cls)
  have hp := h.box.lt
  obtain ⟨gb, cc, rfl, nep, glt, gfz⟩ := h.blk (by omega)
  obtain ⟨A, cc', e, r, _, _⟩ := h.own.rs
  injection e with e1 e2 e3
  subst e1
  subst e3
  obtain ⟨g', o', y, e, _, hy, a0, a1, a2⟩ := r.getQ kn
  injection e with e
  injection e with e1 e2
  subst e1
  subst e2
  obtain rfl : y = x := by rw [hk] at hy; exact (Option.some.inj hy).symm
  rw [Nat.zero_add] at a0 a1 a2
  have c1 := h.c1
  have c0 := h.c0
  have HA := Lib.hid ar
  have HT := Lib.hid h
  have HG := Lib.hid gd
  have HC := Lib.hid ch
  have HK := Lib.hid hk
  have HX := Lib.hid hx
  have HB := Lib.hid hb
  have HL := Lib.hid hl
  have bl : b < ws.length ∧ headQ y.free ≤ ws.length := by have := ch.put gd hl hk hx hb; exact ⟨this.1, this.2.1⟩
  have BL := Lib.hid bl
  have kn' : (k : Int) < (L.length : Int) := by omega
  have mm := Lib.hid (decide_eq_false (fun e => hb (NI_mem.1 e)))
  have fl : y.free.length ≤ 16 := by omega
  have yp : y.page ≤ 256 := by have := gd.inP y xm; omega
  have bb : b ≤ 100000 := by have := bl.1; omega
  have npg := h.box.ne ar.row.blk (by decide)
  have ngb : gb ≠ g := fun e => h.own_ne ar.row.blk (by decide) (by rw [← e]; rfl)
  clear h ar gd ch r hy hk xm hx hb hl bl
  go_enter Try.func15, Try.ntmps15
  go_wp2_with fail
  refine FA.out.mono ?_
  rintro e w1 ⟨rfl, k1⟩
  have c1 := cellP_on k1 c1
  have a1 := cellP_on k1 a1
  have a2 := cellP_on k1 a2
  have K1 := Lib.hid k1
  have k0 := Kept.refl Old w1
  have A1 := Lib.hid (HA.out.kept k1 (fun x => x) (fun x => x))
  clear k1 FA a0 c0 glt gfz
  go_wp2_with fail
  go_region_held3 (fun w' => Kept Old w1 w' ∧ w'.cell? ⟨gb, k * 3 + 1, none⟩ = some (.int .i64 (headQ y.free : Int)) ∧ w'.cell? ⟨gb, k * 3 + 2, none⟩ = some (.int .i64 (y.free.length : Int)))
    (first
      | (exact ⟨‹_›, ‹_›, ‹_›⟩)
      | (exact ⟨Kept.drew ‹_›, ‹_›, ‹_›⟩)
      | (go_split_ands; exact ⟨Kept.trans ‹_› k3, cellP_on k3 ‹_›, cellP_on k3 ‹_›⟩)
      | go_keep)
    (first
      | (go_at_call 34; refine (walk_some (y.free.length : Int) _ (A1.out.kept (‹Kept Old w1 _ ∧ _›).1 (fun x => x) (fun x => x)) cx.out (Int.le_refl _) (by omega)).mono ?_; rintro e w3 ⟨v3, rfl, A3, n3, c3, rfl, r3, hc3, hA3, k3⟩))
  obtain ⟨kw, b1, b2⟩ := ‹Kept Old w1 _ ∧ _›
  have r3 := Lib.hid r3
  have n3e := Lib.hid r3.out.lenN
  have K3 := Lib.hid (K1.out.trans kw)
  clear k3 hA3 kw a1 a2 c1 k0
  go_wp2_with fail
  refine (contains_any _ _ _ _ _ _ r3.out (by have := n3e.out; omega)).mono ?_
  rintro e w4 ⟨rfl, rfl⟩
  rw [mm.out]
  have A3 := Lib.hid (HA.out.kept K3.out (fun x => x) (fun x => x))
  go_wp2_with fail
  refine (push_ok _ b _ A3.out BL.out.2 BL.out.1).mono ?_
  rintro e w5 ⟨rfl, a5, k5⟩
  have T5 := Lib.hid ((HT.out.old K3.out).kept k5 npg (fun gg e f => ngb (by injection e with e; have e : gb = gg := e; rw [e]; exact f)))
  have A5 := Lib.hid a5
  have K5 : Kept (Turn p g (.slice (some ⟨gb, 0, none⟩) L.length cc)) w w5 := K3.out.any.trans (k5.mono fun i e => .inr (.inl e))
  have PK := Lib.hid (put_keep T5.out a5 HG.out HC.out HL.out hP K5 HK.out HX.out HB.out)
  have LN := Lib.hid (show (ws.set b (headQ y.free)).length = ws.length by simp)
  have c1 := T5.out.c1
  have c0 := T5.out.c0
  obtain ⟨A, cc', e, r, _, _⟩ := T5.out.own.rs
  injection e with e1 e2 e3
  subst e1
  subst e3
  obtain ⟨g', o', y', e, _, hy, d0, d1, d2⟩ := r.getQ kn
  injection e with e
  injection e with e1 e2
  subst e1
  subst e2
  obtain rfl : y' = y := by have := HK.out; rw [hy] at this; exact Option.some.inj this
  rw [Nat.zero_add] at d0 d1 d2
  obtain ⟨gb2, cc2, e, _, _, fz⟩ := T5.out.blk (by omega)
  injection e with e1' e2' e3'
  injection e1' with e1'
  injection e1' with e1'
  subst e1'
  subst e3'
  have f1 := fz (k * 3 + 1)
  have f2 := fz (k * 3 + 2)
  have y0 : ((w5.setCell ⟨gb, k * 3 + 1, none⟩ (.int .i64 ((b : Int) + 1))).setCell ⟨gb, k * 3 + 2, none⟩ (.int .i64 ((y'.free.length : Int) + 1))).cell? ⟨gb, k * 3, none⟩ = some (.int .i64 (y'.page : Int)) := by
    simp [go_sem, d0]
  clear a5 k5 K5 r hy fz b1 b2 A1 A3 K3 K1 T5 HT HA HC HL HX HB BL
  obtain ⟨W6, hW6⟩ : ∃ W6, (w5.setCell ⟨gb, k * 3 + 1, none⟩ (.int .i64 ((b : Int) + 1))).setCell ⟨gb, k * 3 + 2, none⟩ (.int .i64 ((y'.free.length : Int) + 1)) = W6 := ⟨_, rfl⟩
  rw [hW6] at PK y0
  have T6 := PK.out.1
  have q0 := T6.c0
  have q1 := T6.c1
  have q2 : W6.cell? ⟨gb, k * 3 + 2, none⟩ = some (.int .i64 ((y'.free.length : Int) + 1)) := by rw [← hW6]; simp [go_sem, d2]
  have qf := T6.box.frozen
  have DN := Lib.hid (del_near (L0 := L.take k ++ L.drop (k + 1)) (w := w) (T6.old (Kept.refl Old W6).drew) (Ar.drew PK.out.2.1) PK.out.2.2.2.1 (set_take L k _) LN.out PK.out.2.2.2.2.drew hp (by rw [List.length_set]; exact kn) (by rw [List.length_set]; omega))
  have FIN := Lib.hid (show ChgP B p a g (.slice (some ⟨gb, 0, none⟩) L.length cc) c (L.set k ⟨y'.page, b :: y'.free⟩) ws w W6.drew from ⟨_, _, T6.old (Kept.refl Old W6).drew, Ar.drew PK.out.2.1, PK.out.2.2.1, LN.out, PK.out.2.2.2.2.drew, .inl rfl⟩)
  have pi := e1.out
  by_cases dd : y'.free.length + 1 = perN c
  · have d' : (((y'.free.length : Int) + 1) == ((perN c : Nat) : Int)) = true := by simp; omega
    have dq := Lib.hid (decide_eq_true dd)
    have di := Lib.hid (show (if y'.free.length + 1 = perN c then L.take k ++ L.drop (k + 1) else L.set k ⟨y'.page, b :: y'.free⟩) = L.take k ++ L.drop (k + 1) from if_pos dd)
    clear T6
    go_wp2_with fail
    try rw [hW6]
    go_region_held3 (fun w' => w'.cell? ⟨gb, k * 3, none⟩ = some (.int .i64 (y'.page : Int)) ∧ w'.cell? ⟨gb, k * 3 + 2, none⟩ = some (.int .i64 ((y'.free.length : Int) + 1)) ∧ w'.cell? ⟨p, 0, none⟩ = some (.int .i64 (c : Int)))
      (first
        | (exact ⟨‹_›, ‹_›, ‹_›⟩)
        | go_keep)
      (first
        | (go_at_call 28; refine (per_any _ _).mono ?_; rintro e w' ⟨rfl, rfl⟩; rw [pi]))
    go_wp2_with fail
    refine DN.out.mono ?_
    rintro e V ⟨A', m, c', rfl, fz, p0, p1, E⟩
    go_wp2_with fail
    go_ret3
    first | exact ⟨rfl, E.out⟩ | exact ⟨by rw [dq.out]; rfl, by rw [di.out]; exact E.out⟩
  · have d' : (((y'.free.length : Int) + 1) == ((perN c : Nat) : Int)) = false := by simp only [beq_eq_false_iff_ne, ne_eq]; omega
    have dq := Lib.hid (decide_eq_false dd)
    have di := Lib.hid (show (if y'.free.length + 1 = perN c then L.take k ++ L.drop (k + 1) else L.set k ⟨y'.page, b :: y'.free⟩) = L.set k ⟨y'.page, b :: y'.free⟩ from if_neg dd)
    clear T6
    go_wp2_with fail
    try rw [hW6]
    go_region_held3 (fun w' => w'.cell? ⟨gb, k * 3, none⟩ = some (.int .i64 (y'.page : Int)) ∧ w'.cell? ⟨gb, k * 3 + 2, none⟩ = some (.int .i64 ((y'.free.length : Int) + 1)) ∧ w'.cell? ⟨p, 0, none⟩ = some (.int .i64 (c : Int)))
      (first
        | (exact ⟨‹_›, ‹_›, ‹_›⟩)
        | go_keep)
      (first
        | (go_at_call 28; refine (per_any _ _).mono ?_; rintro e w' ⟨rfl, rfl⟩; rw [pi]))
    go_wp2_with fail
    go_ret3
    first | exact ⟨rfl, FIN.out⟩ | exact ⟨by rw [dq.out]; rfl, by rw [di.out]; exact FIN.out⟩
end Go.Proofs.Ytcaongcpfepcjaa.Prt
