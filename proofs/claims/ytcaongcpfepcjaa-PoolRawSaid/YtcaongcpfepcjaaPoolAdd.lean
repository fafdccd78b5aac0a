/-
  What Add of package pool answers. Own work; each is proved by a walk through the landed text.
-/
import Derived.Test.YtcaongcpfepcjaaRows
import Derived.Test.YtcaongcpfepcjaaPartDel
import Derived.Test.YtcaongcpfepcjaaPoolCalls
import Derived.Test.YtcaongcpfepcjaaPoolTake
import Derived.WalkKit
import Derived.ProofKit
import Derived.OpenShut
import Derived.Outline
import Derived.Deep.Light
import Derived.IntWalk
import Derived.WalkMore
import Derived.RegionTactic
import Derived.Deep.RegionWith
namespace Go.Proofs.Ytcaongcpfepcjaa.Prt
open Go.ChangeShapes Go.WideShapes Go.ChangeAt Go.RowKit
set_option maxRecDepth 100000

/-- What may turn: the pool, the arena's words, the pool's slice. -/
def Turn (p g : Nat) (v : Value) (k : Nat) : Prop := k = p ∨ k = g ∨ some k = v.ownBlock
/-- What a call that turns a pool leaves. -/
def ChgP (B p a g : Nat) (v : Value) (c : Nat) (L' : List Q) (ws : List Nat) (w w' : World) : Prop :=
  ∃ v' vs, Pt w' B p v' c L' ∧ Ar w' a g vs ∧ Chs vs L' ∧ vs.length = ws.length ∧ Kept (Turn p g v) w w' ∧ (v'.ownBlock = v.ownBlock ∨ ∃ b, v'.ownBlock = some b ∧ w.heap.size ≤ b)
theorem add_nil {a : Value} (q : Int) (w : World) : Calls Try.prog 11 #[.pointer none, a, .int .i64 q] w fun e w' => e = .returned (.int .i64 2) ∧ w = w' := by
  go_enter Try.func11, Try.ntmps11
  go_wp2
  go_ret
  exact ⟨rfl, rfl⟩
theorem add_na {p : Nat} (q : Int) (w : World) : Calls Try.prog 11 #[ptr p, .pointer none, .int .i64 q] w fun e w' => e = .returned (.int .i64 2) ∧ w = w' := by
  go_enter Try.func11, Try.ntmps11
  go_wp2
  go_ret
  exact ⟨rfl, rfl⟩
theorem add_arg {P p a g : Nat} {ws : List Nat} (q : Int) (w : World) (ar : Ar w a g ws) (hl : ws.length = P * 64) (hP : P ≤ 256) (hq : q < 0 ∨ (P : Int) - 8 < q) :
    Calls Try.prog 11 #[ptr p, ptr a, .int .i64 q] w fun e w' => e = .returned (.int .i64 1) ∧ w = w' := by
  have PA := Lib.hid (pages_any w ar)
  have e : ws.length / 64 = P := by omega
  rw [e] at PA
  by_cases h0 : q < 0
  · clear hq hl e
    go_enter Try.func11, Try.ntmps11
    go_wp2_with fail
    go_ret
    exact ⟨rfl, rfl⟩
  · have h1 : (P : Int) - 8 < q := by omega
    clear hq hl e
    go_enter Try.func11, Try.ntmps11
    go_wp2_with fail
    refine PA.out.mono ?_
    rintro e w' ⟨rfl, rfl⟩
    go_wp2_with fail
    go_ret
    exact ⟨rfl, rfl⟩
theorem add_twice {P B p c a g : Nat} {v : Value} {L : List Q} {ws : List Nat} (q : Nat) (w : World) (h : Pt w B p v c L) (ar : Ar w a g ws) (gd : GoodP P c L) (hl : ws.length = P * 64) (hP : P ≤ 256) (hq : q + 8 ≤ P) (hp : placeQ q L = none) :
    Calls Try.prog 11 #[ptr p, ptr a, .int .i64 (q : Int)] w fun e w' => e = .returned (.int .i64 4) ∧ Kept Old w w' := by
  have PA := Lib.hid (pages_any w ar)
  have PL := Lib.hid (plc_any q w h gd hP (by omega))
  have e : ws.length / 64 = P := by omega
  rw [e] at PA
  have h0 : ¬ (q : Int) < 0 := by omega
  have h1 : ¬ (P : Int) - 8 < (q : Int) := by omega
  have HP := Lib.hid hp
  clear h ar gd hl e hp
  go_enter Try.func11, Try.ntmps11
  go_wp2_with fail
  refine PA.out.mono ?_
  rintro e w' ⟨rfl, rfl⟩
  go_wp2_with fail
  refine PL.out.mono ?_
  rintro e w1 ⟨hh, k1⟩
  have k1 := Lib.hid k1
  rcases hh with ⟨i, rfl, hi⟩ | ⟨rfl, _⟩
  · rw [HP.out] at hi; cases hi
  · go_wp2_with fail
    go_ret
    exact ⟨rfl, k1.out⟩
/-- What is known behind the Insert. -/
def InsP (B p a g : Nat) (v : Value) (c : Nat) (L' : List Q) (ws : List Nat) (w : World) (e : Ending) (V : World) : Prop := ∃ A m cc, e = .returned (.slice A m cc) ∧ (∀ i, V.frozen? ⟨p, i, none⟩ = false) ∧ V.cell? ⟨p, 0, none⟩ = some (.int .i64 (c : Int)) ∧ V.cell? ⟨p, 1, none⟩ = some v ∧ Hid (ChgP B p a g v c L' ws w (V.setCell ⟨p, 1, none⟩ (.slice A m cc)))
/-- A slice is stored into the pool. -/
theorem store_pool {B p a g c : Nat} {v v' : Value} {L L' : List Q} {ws vs : List Nat} {w W V : World} (T : Pt W B p v c L) (ar : Ar W a g vs) (ch : Chs vs L') (hl : vs.length = ws.length) (K : Kept (Turn p g v) w W) (hp : p < w.heap.size) (hT : OwS V B v' L'.length (SQ L')) (k : Kept (fun k => some k = v.ownBlock) W V) (ob : v'.ownBlock = v.ownBlock ∨ ∃ b, v'.ownBlock = some b ∧ w.heap.size ≤ b) :
    (∀ i, V.frozen? ⟨p, i, none⟩ = false) ∧ V.cell? ⟨p, 0, none⟩ = some (.int .i64 (c : Int)) ∧ V.cell? ⟨p, 1, none⟩ = some v ∧ ChgP B p a g v c L' ws w (V.setCell ⟨p, 1, none⟩ v') := by
  have np : ¬ (some p = v.ownBlock) := fun e => T.ne e.symm
  have bx := T.box.kept k np
  have ar2 := ar.kept k (fun e => T.own_ne ar.box (by decide) e.symm) (fun e => T.own_ne ar.row.blk (by decide) e.symm)
  have ks := only_setCell V p 1 v'
  have hv' : v'.ownBlock ≠ some p := by
    rcases ob with e | ⟨b, e, hb⟩
    · rw [e]; exact T.ne
    · rw [e]; intro z; injection z with z; omega
  have npa : a ≠ p := (T.box.ne ar.box (by decide)).symm
  have npg : g ≠ p := (T.box.ne ar.row.blk (by decide)).symm
  refine ⟨bx.frozen, bx.cell 0, bx.cell 1, v', vs, ⟨?_, hT.kept ks (fun g e f => hv' (by rw [e, show g = p from f])), T.low⟩, ar2.kept ks npa npg, ch, hl, ?_, ob⟩
  · have := bx.put 1 v'
    simpa using this
  · exact (K.trans (k.mono fun i e => .inr (.inr e))).trans (ks.mono fun i e => .inl e)
theorem ins_near {B p a g c i q : Nat} {v : Value} {L : List Q} {ws vs : List Nat} {w W : World} (T : Pt W B p v c L) (ar : Ar W a g vs) (ch : Chs vs (insQ c L i q)) (hl : vs.length = ws.length) (K : Kept (Turn p g v) w W) (hp : p < w.heap.size) (hi : i ≤ L.length) (hn : L.length ≤ 1000) (hB : B ≤ w.heap.size) (hq : q ≤ 1000) (hc : c < 4) :
    Calls Try.prog 27 #[v, .int .i64 (i : Int), .slice (some ⟨W.heap.size, 0, none⟩) 1 1] (W.alloc (.cells #[.int .i64 (q : Int), .int .i64 (headQ (allQ c q) : Int), .int .i64 (perN c : Int)] 67)) (InsP B p a g v c (insQ c L i q) ws w) := by
  have pp := per_pos hc
  have hh : headQ (allQ c q) ≤ 100000 := by
    have e := drop_at (allQ_get (c := c) (page := q) (k := 0) pp.1)
    rw [List.drop_zero] at e
    rw [e]
    have := stk_lt (page := q) hc pp.1
    show stk c q 0 + 1 ≤ _
    omega
  have ks := K.size
  have o := T.own.alloc (.cells #[.int .i64 (q : Int), .int .i64 (headQ (allQ c q) : Int), .int .i64 (perN c : Int)] 67)
  have b := BxS.new W ⟨(q : Int), (headQ (allQ c q) : Int), (perN c : Int)⟩
  refine (ins_any B v L.length i (SQ L) ⟨(q : Int), (headQ (allQ c q) : Int), (perN c : Int)⟩ ⟨⟨by simp only []; omega, by simp only []; omega⟩, ⟨by simp only []; omega, by simp only []; omega⟩, ⟨by simp only []; omega, by simp only []; omega⟩⟩ W.heap.size 1 _ o b (fun e => ?_) hi hn (by simp; omega)).mono ?_
  · have := (T.own.own _ e.symm).2
    omega
  · intro e V hT
    obtain ⟨v', rfl, O, k, ob⟩ := hT
    have eL : (SQ L).take i ++ (⟨(q : Int), (headQ (allQ c q) : Int), (perN c : Int)⟩ : S) :: (SQ L).drop i = SQ (insQ c L i q) := by
      unfold insQ SQ
      rw [List.map_append, List.map_cons, List.map_take, List.map_drop]
      unfold toS
      rw [allQ_length]
    rw [eL] at O
    have eN : (SQ (insQ c L i q)).length = (insQ c L i q).length := by unfold SQ; rw [List.length_map]
    rw [eN] at O
    have ka := (Kept.refl Old W).alloc (.cells #[.int .i64 (q : Int), .int .i64 (headQ (allQ c q) : Int), .int .i64 (perN c : Int)] 67)
    obtain ⟨z1, z2, z3, z4⟩ := store_pool (T.old ka) (ar.alloc _) ch hl (K.alloc _) hp O k (ob.imp id fun e => ⟨_, e, by simp; omega⟩)
    obtain ⟨A, cc, hv, _⟩ := O.rs
    rw [hv] at z4 ⊢
    exact ⟨A, _, cc, rfl, z1, z2, z3, Lib.hid z4⟩
set_option maxHeartbeats 4000000 in
theorem add_ok {P B p c a g : Nat} {v : Value} {L : List Q} {ws : List Nat} (q i : Nat) (w : World) (h : Pt w B p v c L) (ar : Ar w a g ws) (gd : GoodP P c L) (ch : Chs ws L) (hl : ws.length = P * 64) (hP : P ≤ 256) (hq : q + 8 ≤ P) (hi : placeQ q L = some i) (hB : B ≤ w.heap.size) :
    Calls Try.prog 11 #[ptr p, ptr a, .int .i64 (q : Int)] w fun e w' => e = .returned (.int .i64 0) ∧ ChgP B p a g v c (insQ c L i q) ws w w' := by
  have PA := Lib.hid (pages_any w ar)
  have PL := Lib.hid (plc_any q w h gd hP (by omega))
  have hc := gd.cls
  have e : ws.length / 64 = P := by omega
  rw [e] at PA
  have h0 : ¬ (q : Int) < 0 := by omega
  have h1 : ¬ (P : Int) - 8 < (q : Int) := by omega
  have hn : L.length ≤ 1000 := by have := gd.len; omega
  have il := (placeQ_some hi gd.asc).1
  have e1 := Lib.hid (perI_c hc)
  have hp := h.box.lt
  have HI := Lib.hid hi
  have HT := Lib.hid h
  have HA := Lib.hid ar
  have HG := Lib.hid gd
  have HC := Lib.hid ch
  have ng := Lib.hid (h.own_ne ar.row.blk (by decide))
  have npg : p ≠ g := h.box.ne ar.row.blk (by decide)
  clear h ar gd e hi ch
  go_enter Try.func11, Try.ntmps11
  go_wp2_with fail
  refine PA.out.mono ?_
  rintro e w' ⟨rfl, rfl⟩
  go_wp2_with fail
  refine PL.out.mono ?_
  rintro e W1 ⟨hh, k1⟩
  have k1 := Lib.hid k1
  rcases hh with ⟨j, rfl, hj⟩ | ⟨_, hj⟩
  case inr => rw [HI.out] at hj; cases hj
  obtain rfl : j = i := by rw [HI.out] at hj; exact (Option.some.inj hj).symm
  clear hj PL PA
  go_wp2_with fail
  refine (lay_any q W1 (HT.out.old k1.out) (HA.out.kept k1.out (fun x => x) (fun x => x)) hc (by omega)).mono ?_
  rintro e W2 ⟨vs, rfl, LD, A2, k2⟩
  have T2 := (HT.out.old k1.out).kept k2 npg (fun gg e f => ng.out (by rw [e, show gg = g from f]))
  have K2 : Kept (Turn p g v) w W2 := k1.out.any.trans (k2.mono fun i e => .inr (.inl e))
  have IN := Lib.hid (ins_near (T2.old (Kept.refl Old W2).drew) (Ar.drew A2) (LD.chs HG.out HC.out HI.out) LD.len K2.drew hp il hn hB (by omega) hc)
  have c0 := T2.c0
  have c1 := T2.c1
  have fz := T2.box.frozen
  have hp2 := T2.box.lt
  have hpn : ¬ p = W2.heap.size := by omega
  have hpm : ¬ W2.heap.size = p := by omega
  obtain ⟨A, cc, rfl, _, _, _⟩ := T2.own.rs
  clear T2 K2 LD A2 k2 k1 HT HA HG HC HI ng
  go_wp2_with fail
  go_region_with (first
    | (go_at_call 28; refine (per_any _ _).mono ?_; rintro e w' ⟨rfl, rfl⟩; rw [e1.out])
    | (go_at_call 27; refine IN.out.mono ?_; rintro e V ⟨A', m, c', rfl, fz, p0, p1, E⟩))
  all_goals
    go_wp2
    go_ret
    exact ⟨rfl, E.out⟩
end Go.Proofs.Ytcaongcpfepcjaa.Prt
