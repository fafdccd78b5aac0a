/-
  Joined texts of Poolb; own work.
-/
import Derived.Test.YtcndilpaijapkaaGreatRows
import Derived.WalkKit
import Derived.ProofKit
import Derived.OpenShut
import Derived.Outline
import Derived.Deep.Light
import Derived.IntWalk
import Derived.WalkMore
import Derived.RegionTactic
import Derived.Deep.RegionWith
import Derived.Deep.RegionLaw
import Derived.ChangeAlike
import Derived.Deep.RegionHeld3
import Derived.Test.YtcndilpaijapkaaGreatJPartMem
import Derived.Test.YtcndilpaijapkaaGreatJPool
/- What Add of package pool answers. Own work; each is proved by a walk through the landed text. -/
namespace Go.Proofs.YtcndilpaijapkaaGreat.Prt
open Go.ChangeShapes Go.WideShapes Go.ChangeAt Go.RowKit
set_option maxRecDepth 100000

/-- What may turn: the pool, the arena's words, the pool's slice. -/
def Turn (p g : Nat) (v : Value) (k : Nat) : Prop := k = p ∨ k = g ∨ some k = v.ownBlock
/-- Chains of which no word is one of D stand. -/
def FarQ (D : Nat → Prop) (ws vs : List Nat) : Prop := ∀ h l, Ch ws h l → (∀ a ∈ l, ¬ D a) → Ch vs h l
/-- What a call that turns a pool leaves. -/
def ChgP (B p a g : Nat) (v : Value) (c : Nat) (L' : List Q) (ws : List Nat) (lo : Nat → Prop) (w w' : World) : Prop :=
  ∃ v' vs, Pt w' B p v' c L' ∧ Ar w' a g vs ∧ Chs vs L' ∧ vs.length = ws.length ∧ Kept (Turn p g v) w w' ∧ (v'.ownBlock = v.ownBlock ∨ ∃ b, v'.ownBlock = some b ∧ w.heap.size ≤ b) ∧ FarQ lo ws vs
theorem add_nil {a : Value} (q : Int) (w : World) : Calls Tryz.prog 155 #[.pointer none, a, .int .i64 q] w fun e w' => e = .returned (.int .i64 2) ∧ w = w' := by
  go_enter Tryz.func155, Tryz.ntmps155
  go_wp2
  go_ret
  exact ⟨rfl, rfl⟩
theorem add_na {p : Nat} (q : Int) (w : World) : Calls Tryz.prog 155 #[ptr p, .pointer none, .int .i64 q] w fun e w' => e = .returned (.int .i64 2) ∧ w = w' := by
  go_enter Tryz.func155, Tryz.ntmps155
  go_wp2
  go_ret
  exact ⟨rfl, rfl⟩
theorem add_arg {P p a g : Nat} {ws : List Nat} (q : Int) (w : World) (ar : Ar w a g ws) (hl : ws.length = P * 64) (hP : P ≤ 256) (hq : q < 0 ∨ (P : Int) - 8 < q) :
    Calls Tryz.prog 155 #[ptr p, ptr a, .int .i64 q] w fun e w' => e = .returned (.int .i64 1) ∧ w = w' := by
  have PA := Lib.hid (pages_any w ar)
  have e : ws.length / 64 = P := by omega
  rw [e] at PA
  by_cases h0 : q < 0
  · clear hq hl e
    go_enter Tryz.func155, Tryz.ntmps155
    go_wp2_with fail
    go_ret
    exact ⟨rfl, rfl⟩
  · have h1 : (P : Int) - 8 < q := by omega
    clear hq hl e
    go_enter Tryz.func155, Tryz.ntmps155
    go_wp2_with fail
    refine PA.out.mono ?_
    rintro e w' ⟨rfl, rfl⟩
    go_wp2_with fail
    go_ret
    exact ⟨rfl, rfl⟩
theorem add_twice {P B p c a g : Nat} {v : Value} {L : List Q} {ws : List Nat} (q : Nat) (w : World) (h : Pt w B p v c L) (ar : Ar w a g ws) (gd : GoodP P c L) (hl : ws.length = P * 64) (hP : P ≤ 256) (hq : q + 8 ≤ P) (hp : placeQ q L = none) :
    Calls Tryz.prog 155 #[ptr p, ptr a, .int .i64 (q : Int)] w fun e w' => e = .returned (.int .i64 4) ∧ Kept Old w w' := by
  have PA := Lib.hid (pages_any w ar)
  have PL := Lib.hid (plc_any q w h gd hP (by omega))
  have e : ws.length / 64 = P := by omega
  rw [e] at PA
  have h0 : ¬ (q : Int) < 0 := by omega
  have h1 : ¬ (P : Int) - 8 < (q : Int) := by omega
  have HP := Lib.hid hp
  clear h ar gd hl e hp
  go_enter Tryz.func155, Tryz.ntmps155
  go_wp2_with fail
  refine PA.out.mono ?_
  rintro e w' ⟨rfl, rfl⟩
  go_wp2_with fail
  refine PL.out.mono ?_
  rintro e w1 ⟨hh, k1⟩
  have k1 := Lib.hid k1
  rcases hh with ⟨i, rfl, hi⟩ | ⟨rfl, _⟩
  · rw [HP.out] at hi; cases hi
  · go_wp2_with fail
    go_ret
    exact ⟨rfl, k1.out⟩
/-- What is known behind the Insert. -/
def InsP (B p a g : Nat) (v : Value) (c : Nat) (L' : List Q) (ws : List Nat) (lo : Nat → Prop) (w : World) (e : Ending) (V : World) : Prop := ∃ A m cc, e = .returned (.slice A m cc) ∧ (∀ i, V.frozen? ⟨p, i, none⟩ = false) ∧ V.cell? ⟨p, 0, none⟩ = some (.int .i64 (c : Int)) ∧ V.cell? ⟨p, 1, none⟩ = some v ∧ Hid (ChgP B p a g v c L' ws lo w (V.setCell ⟨p, 1, none⟩ (.slice A m cc)))
/-- A slice is stored into the pool. -/
theorem store_pool {B p a g c : Nat} {v v' : Value} {L L' : List Q} {ws vs : List Nat} {w W V : World} (T : Pt W B p v c L) (ar : Ar W a g vs) (ch : Chs vs L') (hl : vs.length = ws.length) (K : Kept (Turn p g v) w W) (hp : p < w.heap.size) (hT : OwS V B v' L'.length (SQ L')) (k : Kept (fun k => some k = v.ownBlock) W V) (ob : v'.ownBlock = v.ownBlock ∨ ∃ b, v'.ownBlock = some b ∧ w.heap.size ≤ b) {lo : Nat → Prop} (fr : FarQ lo ws vs) :
    (∀ i, V.frozen? ⟨p, i, none⟩ = false) ∧ V.cell? ⟨p, 0, none⟩ = some (.int .i64 (c : Int)) ∧ V.cell? ⟨p, 1, none⟩ = some v ∧ ChgP B p a g v c L' ws lo w (V.setCell ⟨p, 1, none⟩ v') := by
  have np : ¬ (some p = v.ownBlock) := fun e => T.ne e.symm
  have bx := T.box.kept k np
  have ar2 := ar.kept k (fun e => T.own_ne ar.box (by decide) e.symm) (fun e => T.own_ne ar.row.blk (by decide) e.symm)
  have ks := only_setCell V p 1 v'
  have hv' : v'.ownBlock ≠ some p := by
    rcases ob with e | ⟨b, e, hb⟩
    · rw [e]; exact T.ne
    · rw [e]; intro z; injection z with z; omega
  have npa : a ≠ p := (T.box.ne ar.box (by decide)).symm
  have npg : g ≠ p := (T.box.ne ar.row.blk (by decide)).symm
  refine ⟨bx.frozen, bx.cell 0, bx.cell 1, v', vs, ⟨?_, hT.kept ks (fun g e f => hv' (by rw [e, show g = p from f])), T.low⟩, ar2.kept ks npa npg, ch, hl, ?_, ob, fr⟩
  · have := bx.put 1 v'
    simpa using this
  · exact (K.trans (k.mono fun i e => .inr (.inr e))).trans (ks.mono fun i e => .inl e)
theorem ins_near {B p a g c i q : Nat} {v : Value} {L : List Q} {ws vs : List Nat} {w W : World} (T : Pt W B p v c L) (ar : Ar W a g vs) (ch : Chs vs (insQ c L i q)) (hl : vs.length = ws.length) (K : Kept (Turn p g v) w W) (hp : p < w.heap.size) (hi : i ≤ L.length) (hn : L.length ≤ 1000) (hB : B ≤ w.heap.size) (hq : q ≤ 1000) (hc : c < 4) (fr : FarQ (InSp q) ws vs) :
    Calls Tryz.prog 186 #[v, .int .i64 (i : Int), .slice (some ⟨W.heap.size, 0, none⟩) 1 1] (W.alloc (.cells #[.int .i64 (q : Int), .int .i64 (headQ (allQ c q) : Int), .int .i64 (perN c : Int)] 197)) (InsP B p a g v c (insQ c L i q) ws (InSp q) w) := by
  have pp := per_pos hc
  have hh : headQ (allQ c q) ≤ 100000 := by
    have e := drop_at (allQ_get (c := c) (page := q) (k := 0) pp.1)
    rw [List.drop_zero] at e
    rw [e]
    have := stk_lt (page := q) hc pp.1
    show stk c q 0 + 1 ≤ _
    omega
  have ks := K.size
  have o := T.own.alloc (.cells #[.int .i64 (q : Int), .int .i64 (headQ (allQ c q) : Int), .int .i64 (perN c : Int)] 197)
  have b := BxS.new W ⟨(q : Int), (headQ (allQ c q) : Int), (perN c : Int)⟩
  refine (ins_any B v L.length i (SQ L) ⟨(q : Int), (headQ (allQ c q) : Int), (perN c : Int)⟩ ⟨⟨by simp only []; omega, by simp only []; omega⟩, ⟨by simp only []; omega, by simp only []; omega⟩, ⟨by simp only []; omega, by simp only []; omega⟩⟩ W.heap.size 1 _ o b (fun e => ?_) hi hn (by simp; omega)).mono ?_
  · have := (T.own.own _ e.symm).2
    omega
  · intro e V hT
    obtain ⟨v', rfl, O, k, ob⟩ := hT
    have eL : (SQ L).take i ++ (⟨(q : Int), (headQ (allQ c q) : Int), (perN c : Int)⟩ : S) :: (SQ L).drop i = SQ (insQ c L i q) := by
      unfold insQ SQ
      rw [List.map_append, List.map_cons, List.map_take, List.map_drop]
      unfold toS
      rw [allQ_length]
    rw [eL] at O
    have eN : (SQ (insQ c L i q)).length = (insQ c L i q).length := by unfold SQ; rw [List.length_map]
    rw [eN] at O
    have ka := (Kept.refl Old W).alloc (.cells #[.int .i64 (q : Int), .int .i64 (headQ (allQ c q) : Int), .int .i64 (perN c : Int)] 197)
    obtain ⟨z1, z2, z3, z4⟩ := store_pool (T.old ka) (ar.alloc _) ch hl (K.alloc _) hp O k (ob.imp id fun e => ⟨_, e, by simp; omega⟩) fr
    obtain ⟨A, cc, hv, _⟩ := O.rs
    rw [hv] at z4 ⊢
    exact ⟨A, _, cc, rfl, z1, z2, z3, Lib.hid z4⟩
set_option maxHeartbeats 4000000 in
theorem add_ok {P B p c a g : Nat} {v : Value} {L : List Q} {ws : List Nat} (q i : Nat) (w : World) (h : Pt w B p v c L) (ar : Ar w a g ws) (gd : GoodP P c L) (ch : Chs ws L) (hl : ws.length = P * 64) (hP : P ≤ 256) (hq : q + 8 ≤ P) (hi : placeQ q L = some i) (hB : B ≤ w.heap.size) :
    Calls Tryz.prog 155 #[ptr p, ptr a, .int .i64 (q : Int)] w fun e w' => e = .returned (.int .i64 0) ∧ ChgP B p a g v c (insQ c L i q) ws (InSp q) w w' := by
  have PA := Lib.hid (pages_any w ar)
  have PL := Lib.hid (plc_any q w h gd hP (by omega))
  have hc := gd.cls
  have e : ws.length / 64 = P := by omega
  rw [e] at PA
  have h0 : ¬ (q : Int) < 0 := by omega
  have h1 : ¬ (P : Int) - 8 < (q : Int) := by omega
  have hn : L.length ≤ 1000 := by have := gd.len; omega
  have il := (placeQ_some hi gd.asc).1
  have e1 := Lib.hid (perI_c hc)
  have hp := h.box.lt
  have HI := Lib.hid hi
  have HT := Lib.hid h
  have HA := Lib.hid ar
  have HG := Lib.hid gd
  have HC := Lib.hid ch
  have ng := Lib.hid (h.own_ne ar.row.blk (by decide))
  have npg : p ≠ g := h.box.ne ar.row.blk (by decide)
  clear h ar gd e hi ch
  go_enter Tryz.func155, Tryz.ntmps155
  go_wp2_with fail
  refine PA.out.mono ?_
  rintro e w' ⟨rfl, rfl⟩
  go_wp2_with fail
  refine PL.out.mono ?_
  rintro e W1 ⟨hh, k1⟩
  have k1 := Lib.hid k1
  rcases hh with ⟨j, rfl, hj⟩ | ⟨_, hj⟩
  case inr => rw [HI.out] at hj; cases hj
  obtain rfl : j = i := by rw [HI.out] at hj; exact (Option.some.inj hj).symm
  clear hj PL PA
  go_wp2_with fail
  refine (lay_any q W1 (HT.out.old k1.out) (HA.out.kept k1.out (fun x => x) (fun x => x)) hc (by omega)).mono ?_
  rintro e W2 ⟨vs, rfl, LD, A2, k2⟩
  have T2 := (HT.out.old k1.out).kept k2 npg (fun gg e f => ng.out (by rw [e, show gg = g from f]))
  have K2 : Kept (Turn p g v) w W2 := k1.out.any.trans (k2.mono fun i e => .inr (.inl e))
  have IN := Lib.hid (ins_near (T2.old (Kept.refl Old W2).drew) (Ar.drew A2) (LD.chs HG.out HC.out HI.out) LD.len K2.drew hp il hn hB (by omega) hc (fun h l x hx => LD.far h l x fun a ha => by have := hx a ha; unfold InSp at this; omega))
  have c0 := T2.c0
  have c1 := T2.c1
  have fz := T2.box.frozen
  have hp2 := T2.box.lt
  have hpn : ¬ p = W2.heap.size := by omega
  have hpm : ¬ W2.heap.size = p := by omega
  obtain ⟨A, cc, rfl, _, _, _⟩ := T2.own.rs
  clear T2 K2 LD A2 k2 k1 HT HA HG HC HI ng
  go_wp2_with fail
  go_region_with (first
    | (go_at_call 163; refine (per_any _ _).mono ?_; rintro e w' ⟨rfl, rfl⟩; rw [e1.out])
    | (go_at_call 186; refine IN.out.mono ?_; rintro e V ⟨A', m, c', rfl, fz, p0, p1, E⟩))
  all_goals
    go_wp2
    go_ret
    exact ⟨rfl, E.out⟩
end Go.Proofs.YtcndilpaijapkaaGreat.Prt
/- What Put of package pool answers. Own work; each is proved by a walk through the landed text. -/
namespace Go.Proofs.YtcndilpaijapkaaGreat.Prt
open Go.ChangeShapes Go.WideShapes Go.ChangeAt Go.RowKit
set_option maxRecDepth 100000

theorem cellP_on {w w' : World} (k : Kept Old w w') {p : Addr} {v : Value} (h : w.cell? p = some v) : w'.cell? p = some v := (k.cell (block_lt_of_cell h) (fun x => x)).trans h
theorem put_nil {a : Value} (q : Int) (w : World) : Calls Tryz.prog 137 #[.pointer none, a, .int .i64 q] w fun e w' => e = .returned (.tuple #[.int .i64 0, .bool false, .int .i64 2]) ∧ w = w' := by
  go_enter Tryz.func137, Tryz.ntmps137
  go_wp2
  go_ret3
  exact ⟨rfl, rfl⟩
theorem put_na {p : Nat} (q : Int) (w : World) : Calls Tryz.prog 137 #[ptr p, .pointer none, .int .i64 q] w fun e w' => e = .returned (.tuple #[.int .i64 0, .bool false, .int .i64 2]) ∧ w = w' := by
  go_enter Tryz.func137, Tryz.ntmps137
  go_wp2
  go_ret3
  exact ⟨rfl, rfl⟩
theorem put_arg {P B p c a : Nat} {v : Value} {L : List Q} (q : Int) (w : World) (h : Pt w B p v c L) (gd : GoodP P c L) (hP : P ≤ 256) (hx : ∀ y ∈ L, atB c y.page q = false) :
    Calls Tryz.prog 137 #[ptr p, ptr a, .int .i64 q] w fun e w' => e = .returned (.tuple #[.int .i64 0, .bool false, .int .i64 1]) ∧ Kept Old w w' := by
  have FA := Lib.hid (find_any q w h gd hP)
  have HX := Lib.hid hx
  clear h gd hx
  go_enter Tryz.func137, Tryz.ntmps137
  go_wp2_with fail
  refine FA.out.mono ?_
  rintro e w1 ⟨hh, k1⟩
  have k1 := Lib.hid k1
  rcases hh with ⟨i, x, _, _, h3, h4⟩ | ⟨rfl, _⟩
  · rw [HX.out x (List.mem_of_getElem? h3)] at h4; cases h4
  · go_wp2_with fail
    go_ret3
    exact ⟨rfl, k1.out⟩
/-- What find answers of a stack that is there. -/
theorem find_at {P B p c k : Nat} {v : Value} {L : List Q} {x : Q} (q : Int) (w : World) (h : Pt w B p v c L) (gd : GoodP P c L) (hP : P ≤ 256) (hk : L[k]? = some x) (hx : atB c x.page q = true) :
    Calls Tryz.prog 161 #[ptr p, .int .i64 q] w fun e w' => e = .returned (.tuple #[.int .i64 (k : Int), .bool true]) ∧ Kept Old w w' := by
  refine (find_any q w h gd hP).mono ?_
  rintro e w1 ⟨hh, k1⟩
  rcases hh with ⟨i, y, rfl, h2, h3, h4⟩ | ⟨_, h2⟩
  · by_cases d : i = k
    · subst d; exact ⟨rfl, k1⟩
    · have := at_no hx (gd.apart hk h3 (fun e => d e.symm))
      rw [h4] at this
      cases this
  · rw [h2 x (List.mem_of_getElem? hk)] at hx; cases hx
theorem NI_mem {b : Nat} {l : List Nat} : (b : Int) ∈ NI l ↔ b ∈ l := by
  unfold NI
  rw [List.mem_map]
  constructor
  · rintro ⟨x, hx, e⟩
    have : x = b := by omega
    rw [← this]; exact hx
  · intro h; exact ⟨b, h, rfl⟩
set_option maxHeartbeats 4000000 in
theorem put_twice {P B p c a g k b : Nat} {v : Value} {L : List Q} {x : Q} {ws : List Nat} (w : World) (h : Pt w B p v c L) (ar : Ar w a g ws) (gd : GoodP P c L) (hP : P ≤ 256) (ch : Chs ws L) (hk : L[k]? = some x) (hx : atB c x.page (b : Int) = true) (hb : b ∈ x.free) :
    Calls Tryz.prog 137 #[ptr p, ptr a, .int .i64 (b : Int)] w fun e w' => e = .returned (.tuple #[.int .i64 0, .bool false, .int .i64 4]) ∧ Kept Old w w' := by
  have FA := Lib.hid (find_at (b : Int) w h gd hP hk hx)
  have hn : L.length ≤ 32 := by have := gd.len; omega
  have kn := (List.getElem?_eq_some_iff.1 hk).1
  have xm := List.mem_of_getElem? hk
  have fw := gd.few xm
  have pp := per_pos gd.cls
  have cx := Lib.hid (ch x xm)
  obtain ⟨gb, cc, rfl, nep, glt, gfz⟩ := h.blk (by omega)
  obtain ⟨A, cc', e, r, _, _⟩ := h.own.rs
  injection e with e1 e2 e3
  subst e1
  subst e3
  obtain ⟨g', o', y, e, _, hy, a0, a1, a2⟩ := r.getQ kn
  injection e with e
  injection e with e1 e2
  subst e1
  subst e2
  obtain rfl : y = x := by rw [hk] at hy; exact (Option.some.inj hy).symm
  rw [Nat.zero_add] at a0 a1 a2
  have c1 := h.c1
  have HA := Lib.hid ar
  have kn' : (k : Int) < (L.length : Int) := by omega
  have mm := Lib.hid (decide_eq_true (NI_mem.2 hb))
  have fl : y.free.length ≤ 16 := by omega
  generalize L.length = n at *
  clear h ar gd ch r hy hk xm hx
  go_enter Tryz.func137, Tryz.ntmps137
  go_wp2_with fail
  refine FA.out.mono ?_
  rintro e w1 ⟨rfl, k1⟩
  have c1 := cellP_on k1 c1
  have a1 := cellP_on k1 a1
  have a2 := cellP_on k1 a2
  have K1 := Lib.hid k1
  have k0 := Kept.refl Old w1
  have A1 := Lib.hid (HA.out.kept k1 (fun x => x) (fun x => x))
  clear k1 FA a0 glt
  go_wp2_with fail
  go_region_held3 (fun w' => Kept Old w1 w' ∧ w'.cell? ⟨gb, k * 3 + 1, none⟩ = some (.int .i64 (headQ y.free : Int)) ∧ w'.cell? ⟨gb, k * 3 + 2, none⟩ = some (.int .i64 (y.free.length : Int)))
    (first
      | (exact ⟨‹_›, ‹_›, ‹_›⟩)
      | (exact ⟨Kept.drew ‹_›, ‹_›, ‹_›⟩)
      | (go_split_ands; exact ⟨Kept.trans ‹_› k3, cellP_on k3 ‹_›, cellP_on k3 ‹_›⟩)
      | go_keep)
    (first
      | (go_at_call 69; refine (walk_some (y.free.length : Int) _ (A1.out.kept (‹Kept Old w1 _ ∧ _›).1 (fun x => x) (fun x => x)) cx.out (Int.le_refl _) (by omega)).mono ?_; rintro e w3 ⟨v3, rfl, A3, n3, c3, rfl, r3, hc3, hA3, k3⟩))
  obtain ⟨kw, _, _⟩ := ‹Kept Old w1 _ ∧ _›
  have r3 := Lib.hid r3
  have n3e := Lib.hid r3.out.lenN
  have kw := Lib.hid kw
  clear k3 hA3
  go_wp2_with fail
  refine (contains_any _ _ _ _ _ _ r3.out (by have := n3e.out; omega)).mono ?_
  rintro e w4 ⟨rfl, rfl⟩
  rw [mm.out]
  go_wp2_with fail
  go_ret3
  exact ⟨rfl, K1.out.trans kw.out⟩
/-- A word of the span is turned: chains elsewhere stand. -/
theorem put_farQ {b w0 : Nat} {ws : List Nat} : FarQ (fun a => a = b) ws (ws.set b w0) := fun _ _ x hl => x.far fun m => hl b m rfl
/-- Behind the writes of a put that leaves the span. -/
theorem put_keep {P B p c a g gb cc k b : Nat} {L : List Q} {x : Q} {ws : List Nat} {w W : World} (T : Pt W B p (.slice (some ⟨gb, 0, none⟩) L.length cc) c L) (ar : Ar W a g (ws.set b (headQ x.free))) (gd : GoodP P c L) (ch : Chs ws L) (hl : ws.length = P * 64) (hP : P ≤ 256) (K : Kept (Turn p g (.slice (some ⟨gb, 0, none⟩) L.length cc)) w W) (hk : L[k]? = some x) (hx : atB c x.page (b : Int) = true) (hb : b ∉ x.free) :
    Pt ((W.setCell ⟨gb, k * 3 + 1, none⟩ (.int .i64 ((b : Int) + 1))).setCell ⟨gb, k * 3 + 2, none⟩ (.int .i64 ((x.free.length : Int) + 1))) B p (.slice (some ⟨gb, 0, none⟩) L.length cc) c (L.set k ⟨x.page, b :: x.free⟩)
    ∧ Ar ((W.setCell ⟨gb, k * 3 + 1, none⟩ (.int .i64 ((b : Int) + 1))).setCell ⟨gb, k * 3 + 2, none⟩ (.int .i64 ((x.free.length : Int) + 1))) a g (ws.set b (headQ x.free))
    ∧ Chs (ws.set b (headQ x.free)) (L.set k ⟨x.page, b :: x.free⟩) ∧ Chs (ws.set b (headQ x.free)) (L.take k ++ L.drop (k + 1))
    ∧ Kept (Turn p g (.slice (some ⟨gb, 0, none⟩) L.length cc)) w ((W.setCell ⟨gb, k * 3 + 1, none⟩ (.int .i64 ((b : Int) + 1))).setCell ⟨gb, k * 3 + 2, none⟩ (.int .i64 ((x.free.length : Int) + 1))) := by
  obtain ⟨c1, c2, c3, c4⟩ := ch.put gd hl hk hx hb
  have fw := gd.few (List.mem_of_getElem? hk)
  have pp := per_pos gd.cls
  obtain ⟨u1, u2⟩ := T.put2 (y := ⟨x.page, b :: x.free⟩) hk rfl (by show b + 1 ≤ _; omega) (by show x.free.length + 1 ≤ _; omega)
  have na : a ≠ gb := fun e => T.own_ne ar.box (by decide) (by rw [e]; rfl)
  have ng : g ≠ gb := fun e => T.own_ne ar.row.blk (by decide) (by rw [e]; rfl)
  exact ⟨u1, ar.kept u2 na ng, c3, c4, K.trans (u2.mono fun i e => .inr (.inr (by rw [show i = gb from e]; rfl)))⟩
/-- What is known behind the Delete. -/
theorem del_near {B p a g c k : Nat} {v : Value} {L L0 : List Q} {ws vs : List Nat} {w W : World} (T : Pt W B p v c L) (ar : Ar W a g vs) (ch : Chs vs L0) (e0 : L.take k ++ L.drop (k + 1) = L0) (hl : vs.length = ws.length) (K : Kept (Turn p g v) w W) (hp : p < w.heap.size) (hk : k < L.length) (hn : L.length ≤ 1000) {lo : Nat → Prop} (fr : FarQ lo ws vs) :
    Calls Tryz.prog 164 #[v, .int .i64 (k : Int), .int .i64 ((k : Int) + 1)] W (InsP B p a g v c L0 ws lo w) := by
  refine (del_any B v L.length k (SQ L) W T.own hk hn).mono ?_
  intro e V hT
  obtain ⟨v', rfl, O, k', ob⟩ := hT
  have eL : (SQ L).take k ++ (SQ L).drop (k + 1) = SQ L0 := by
    rw [← e0]
    unfold SQ
    rw [List.map_append, List.map_take, List.map_drop]
  rw [eL] at O
  have eN : (SQ L0).length = L0.length := by unfold SQ; rw [List.length_map]
  rw [eN] at O
  have ks := K.size
  obtain ⟨z1, z2, z3, z4⟩ := store_pool T ar ch hl K hp O k' (ob.imp id fun e => ⟨_, e, by omega⟩) fr
  obtain ⟨A, cc, hv, _⟩ := O.rs
  rw [hv] at z4 ⊢
  exact ⟨A, _, cc, rfl, z1, z2, z3, Lib.hid z4⟩
theorem set_take {α : Type} (L : List α) (k : Nat) (y : α) : (L.set k y).take k ++ (L.set k y).drop (k + 1) = L.take k ++ L.drop (k + 1) := by
  rw [List.take_set_of_le (Nat.le_refl _), List.drop_set_of_lt (by omega)]
set_option maxHeartbeats 1000000 in
theorem put_ok {P B p c a g k b : Nat} {v : Value} {L : List Q} {x : Q} {ws : List Nat} (w : World) (h : Pt w B p v c L) (ar : Ar w a g ws) (gd : GoodP P c L) (hl : ws.length = P * 64) (hP : P ≤ 256) (ch : Chs ws L) (hk : L[k]? = some x) (hx : atB c x.page (b : Int) = true) (hb : b ∉ x.free) :
    Calls Tryz.prog 137 #[ptr p, ptr a, .int .i64 (b : Int)] w fun e w' => e = .returned (.tuple #[.int .i64 (x.page : Int), .bool (decide (x.free.length + 1 = perN c)), .int .i64 0]) ∧ ChgP B p a g v c (if x.free.length + 1 = perN c then L.take k ++ L.drop (k + 1) else L.set k ⟨x.page, b :: x.free⟩) ws (fun a => a = b) w w' := by
  have FA := Lib.hid (find_at (b : Int) w h gd hP hk hx)
  have hn : L.length ≤ 32 := by have := gd.len; omega
  have kn := (List.getElem?_eq_some_iff.1 hk).1
  have xm := List.mem_of_getElem? hk
  have fw := gd.few xm
  have pp := per_pos gd.cls
  have cx := Lib.hid (ch x xm)
  have e1 := Lib.hid (perI_c gd.cls)
  have hp := h.box.lt
  obtain ⟨gb, cc, rfl, nep, glt, gfz⟩ := h.blk (by omega)
  obtain ⟨A, cc', e, r, _, _⟩ := h.own.rs
  injection e with e1 e2 e3
  subst e1
  subst e3
  obtain ⟨g', o', y, e, _, hy, a0, a1, a2⟩ := r.getQ kn
  injection e with e
  injection e with e1 e2
  subst e1
  subst e2
  obtain rfl : y = x := by rw [hk] at hy; exact (Option.some.inj hy).symm
  rw [Nat.zero_add] at a0 a1 a2
  have c1 := h.c1
  have c0 := h.c0
  have HA := Lib.hid ar
  have HT := Lib.hid h
  have HG := Lib.hid gd
  have HC := Lib.hid ch
  have HK := Lib.hid hk
  have HX := Lib.hid hx
  have HB := Lib.hid hb
  have HL := Lib.hid hl
  have bl : b < ws.length ∧ headQ y.free ≤ ws.length := by have := ch.put gd hl hk hx hb; exact ⟨this.1, this.2.1⟩
  have BL := Lib.hid bl
  have FRQ := Lib.hid (put_farQ (b := b) (w0 := headQ y.free) (ws := ws))
  have kn' : (k : Int) < (L.length : Int) := by omega
  have mm := Lib.hid (decide_eq_false (fun e => hb (NI_mem.1 e)))
  have fl : y.free.length ≤ 16 := by omega
  have yp : y.page ≤ 256 := by have := gd.inP y xm; omega
  have bb : b ≤ 100000 := by have := bl.1; omega
  have npg := h.box.ne ar.row.blk (by decide)
  have ngb : gb ≠ g := fun e => h.own_ne ar.row.blk (by decide) (by rw [← e]; rfl)
  clear h ar gd ch r hy hk xm hx hb hl bl
  go_enter Tryz.func137, Tryz.ntmps137
  go_wp2_with fail
  refine FA.out.mono ?_
  rintro e w1 ⟨rfl, k1⟩
  have c1 := cellP_on k1 c1
  have a1 := cellP_on k1 a1
  have a2 := cellP_on k1 a2
  have K1 := Lib.hid k1
  have k0 := Kept.refl Old w1
  have A1 := Lib.hid (HA.out.kept k1 (fun x => x) (fun x => x))
  clear k1 FA a0 c0 glt gfz
  go_wp2_with fail
  go_region_held3 (fun w' => Kept Old w1 w' ∧ w'.cell? ⟨gb, k * 3 + 1, none⟩ = some (.int .i64 (headQ y.free : Int)) ∧ w'.cell? ⟨gb, k * 3 + 2, none⟩ = some (.int .i64 (y.free.length : Int)))
    (first
      | (exact ⟨‹_›, ‹_›, ‹_›⟩)
      | (exact ⟨Kept.drew ‹_›, ‹_›, ‹_›⟩)
      | (go_split_ands; exact ⟨Kept.trans ‹_› k3, cellP_on k3 ‹_›, cellP_on k3 ‹_›⟩)
      | go_keep)
    (first
      | (go_at_call 69; refine (walk_some (y.free.length : Int) _ (A1.out.kept (‹Kept Old w1 _ ∧ _›).1 (fun x => x) (fun x => x)) cx.out (Int.le_refl _) (by omega)).mono ?_; rintro e w3 ⟨v3, rfl, A3, n3, c3, rfl, r3, hc3, hA3, k3⟩))
  obtain ⟨kw, b1, b2⟩ := ‹Kept Old w1 _ ∧ _›
  have r3 := Lib.hid r3
  have n3e := Lib.hid r3.out.lenN
  have K3 := Lib.hid (K1.out.trans kw)
  clear k3 hA3 kw a1 a2 c1 k0
  go_wp2_with fail
  refine (contains_any _ _ _ _ _ _ r3.out (by have := n3e.out; omega)).mono ?_
  rintro e w4 ⟨rfl, rfl⟩
  rw [mm.out]
  have A3 := Lib.hid (HA.out.kept K3.out (fun x => x) (fun x => x))
  go_wp2_with fail
  refine (push_ok _ b _ A3.out BL.out.2 BL.out.1).mono ?_
  rintro e w5 ⟨rfl, a5, k5⟩
  have T5 := Lib.hid ((HT.out.old K3.out).kept k5 npg (fun gg e f => ngb (by injection e with e; have e : gb = gg := e; rw [e]; exact f)))
  have A5 := Lib.hid a5
  have K5 : Kept (Turn p g (.slice (some ⟨gb, 0, none⟩) L.length cc)) w w5 := K3.out.any.trans (k5.mono fun i e => .inr (.inl e))
  have PK := Lib.hid (put_keep T5.out a5 HG.out HC.out HL.out hP K5 HK.out HX.out HB.out)
  have LN := Lib.hid (show (ws.set b (headQ y.free)).length = ws.length by simp)
  have c1 := T5.out.c1
  have c0 := T5.out.c0
  obtain ⟨A, cc', e, r, _, _⟩ := T5.out.own.rs
  injection e with e1 e2 e3
  subst e1
  subst e3
  obtain ⟨g', o', y', e, _, hy, d0, d1, d2⟩ := r.getQ kn
  injection e with e
  injection e with e1 e2
  subst e1
  subst e2
  obtain rfl : y' = y := by have := HK.out; rw [hy] at this; exact Option.some.inj this
  rw [Nat.zero_add] at d0 d1 d2
  obtain ⟨gb2, cc2, e, _, _, fz⟩ := T5.out.blk (by omega)
  injection e with e1' e2' e3'
  injection e1' with e1'
  injection e1' with e1'
  subst e1'
  subst e3'
  have f1 := fz (k * 3 + 1)
  have f2 := fz (k * 3 + 2)
  have y0 : ((w5.setCell ⟨gb, k * 3 + 1, none⟩ (.int .i64 ((b : Int) + 1))).setCell ⟨gb, k * 3 + 2, none⟩ (.int .i64 ((y'.free.length : Int) + 1))).cell? ⟨gb, k * 3, none⟩ = some (.int .i64 (y'.page : Int)) := by
    simp [go_sem, d0]
  clear a5 k5 K5 r hy fz b1 b2 A1 A3 K3 K1 T5 HT HA HC HL HX HB BL
  obtain ⟨W6, hW6⟩ : ∃ W6, (w5.setCell ⟨gb, k * 3 + 1, none⟩ (.int .i64 ((b : Int) + 1))).setCell ⟨gb, k * 3 + 2, none⟩ (.int .i64 ((y'.free.length : Int) + 1)) = W6 := ⟨_, rfl⟩
  rw [hW6] at PK y0
  have T6 := PK.out.1
  have q0 := T6.c0
  have q1 := T6.c1
  have q2 : W6.cell? ⟨gb, k * 3 + 2, none⟩ = some (.int .i64 ((y'.free.length : Int) + 1)) := by rw [← hW6]; simp [go_sem, d2]
  have qf := T6.box.frozen
  have DN := Lib.hid (del_near (L0 := L.take k ++ L.drop (k + 1)) (w := w) (T6.old (Kept.refl Old W6).drew) (Ar.drew PK.out.2.1) PK.out.2.2.2.1 (set_take L k _) LN.out PK.out.2.2.2.2.drew hp (by rw [List.length_set]; exact kn) (by rw [List.length_set]; omega) FRQ.out)
  have FIN := Lib.hid (show ChgP B p a g (.slice (some ⟨gb, 0, none⟩) L.length cc) c (L.set k ⟨y'.page, b :: y'.free⟩) ws (fun a => a = b) w W6.drew from ⟨_, _, T6.old (Kept.refl Old W6).drew, Ar.drew PK.out.2.1, PK.out.2.2.1, LN.out, PK.out.2.2.2.2.drew, .inl rfl, FRQ.out⟩)
  have pi := e1.out
  by_cases dd : y'.free.length + 1 = perN c
  · have d' : (((y'.free.length : Int) + 1) == ((perN c : Nat) : Int)) = true := by simp; omega
    have dq := Lib.hid (decide_eq_true dd)
    have di := Lib.hid (show (if y'.free.length + 1 = perN c then L.take k ++ L.drop (k + 1) else L.set k ⟨y'.page, b :: y'.free⟩) = L.take k ++ L.drop (k + 1) from if_pos dd)
    clear T6
    go_wp2_with fail
    try rw [hW6]
    go_region_held3 (fun w' => w'.cell? ⟨gb, k * 3, none⟩ = some (.int .i64 (y'.page : Int)) ∧ w'.cell? ⟨gb, k * 3 + 2, none⟩ = some (.int .i64 ((y'.free.length : Int) + 1)) ∧ w'.cell? ⟨p, 0, none⟩ = some (.int .i64 (c : Int)))
      (first
        | (exact ⟨‹_›, ‹_›, ‹_›⟩)
        | go_keep)
      (first
        | (go_at_call 163; refine (per_any _ _).mono ?_; rintro e w' ⟨rfl, rfl⟩; rw [pi]))
    go_wp2_with fail
    refine DN.out.mono ?_
    rintro e V ⟨A', m, c', rfl, fz, p0, p1, E⟩
    go_wp2_with fail
    go_ret3
    first | exact ⟨rfl, E.out⟩ | exact ⟨by rw [dq.out]; rfl, by rw [di.out]; exact E.out⟩
  · have d' : (((y'.free.length : Int) + 1) == ((perN c : Nat) : Int)) = false := by simp only [beq_eq_false_iff_ne, ne_eq]; omega
    have dq := Lib.hid (decide_eq_false dd)
    have di := Lib.hid (show (if y'.free.length + 1 = perN c then L.take k ++ L.drop (k + 1) else L.set k ⟨y'.page, b :: y'.free⟩) = L.set k ⟨y'.page, b :: y'.free⟩ from if_neg dd)
    clear T6
    go_wp2_with fail
    try rw [hW6]
    go_region_held3 (fun w' => w'.cell? ⟨gb, k * 3, none⟩ = some (.int .i64 (y'.page : Int)) ∧ w'.cell? ⟨gb, k * 3 + 2, none⟩ = some (.int .i64 ((y'.free.length : Int) + 1)) ∧ w'.cell? ⟨p, 0, none⟩ = some (.int .i64 (c : Int)))
      (first
        | (exact ⟨‹_›, ‹_›, ‹_›⟩)
        | go_keep)
      (first
        | (go_at_call 163; refine (per_any _ _).mono ?_; rintro e w' ⟨rfl, rfl⟩; rw [pi]))
    go_wp2_with fail
    go_ret3
    first | exact ⟨rfl, FIN.out⟩ | exact ⟨by rw [dq.out]; rfl, by rw [di.out]; exact FIN.out⟩
end Go.Proofs.YtcndilpaijapkaaGreat.Prt
/- A pool and its arena among other blocks (StP), each call of package pool in one contract, and the document's example. Own work; proved by walks through the landed text. -/
namespace Go.Proofs.YtcndilpaijapkaaGreat.Prt
open Go.ChangeShapes Go.WideShapes Go.ChangeAt Go.RowKit
set_option maxRecDepth 100000

/-- All but the blocks of F may turn. -/
abbrev Fr (F : Nat → Prop) (k : Nat) : Prop := ¬ F k
/-- At p lies a pool of class c with the spans of L, at a an arena of P pages; their blocks are new since w0, and none of F's; F's are there. -/
def StP (w0 W : World) (p a g P c : Nat) (L : List Q) (F : Nat → Prop) : Prop :=
  ∃ v ws, Pt W w0.heap.size p v c L ∧ Ar W a g ws ∧ Chs ws L ∧ ws.length = P * 64 ∧ GoodP P c L ∧ P ≤ 256 ∧ (w0.heap.size ≤ a ∧ w0.heap.size ≤ g) ∧ Kept Old w0 W ∧ ∀ b, F b → b ≠ p ∧ b ≠ a ∧ b ≠ g ∧ v.ownBlock ≠ some b ∧ b < W.heap.size
theorem StP.good {w0 W : World} {p a g P c : Nat} {L : List Q} {F : Nat → Prop} (h : StP w0 W p a g P c L F) : GoodP P c L := by obtain ⟨v, ws, _, _, _, _, h, _⟩ := h; exact h
theorem StP.big {w0 W : World} {p a g P c : Nat} {L : List Q} {F : Nat → Prop} (h : StP w0 W p a g P c L F) : P ≤ 256 := by obtain ⟨v, ws, _, _, _, _, _, h, _⟩ := h; exact h
theorem StP.kept {w0 W : World} {p a g P c : Nat} {L : List Q} {F : Nat → Prop} (h : StP w0 W p a g P c L F) : Kept Old w0 W := by obtain ⟨v, ws, _, _, _, _, _, _, _, h, _⟩ := h; exact h
theorem StP.len {w0 W : World} {p a g P c : Nat} {L : List Q} {F : Nat → Prop} (h : StP w0 W p a g P c L F) : L.length ≤ 32 := by have := h.good.len; have := h.big; omega
/-- Blocks that came since are none of the pool's. -/
theorem StP.more {w0 W W' : World} {p a g P c : Nat} {L : List Q} {F G : Nat → Prop} (h : StP w0 W p a g P c L F) (k : Kept Old W W') (hG : ∀ b, G b → F b ∨ (W.heap.size ≤ b ∧ b < W'.heap.size)) : StP w0 W' p a g P c L G := by
  obtain ⟨v, ws, T, A, C, hl, gd, hP, hag, K, f⟩ := h
  refine ⟨v, ws, T.old k, A.kept k (fun x => x) (fun x => x), C, hl, gd, hP, hag, K.trans k, fun b hb => ?_⟩
  rcases hG b hb with e | ⟨e1, e2⟩
  · have := f b e
    exact ⟨this.1, this.2.1, this.2.2.1, this.2.2.2.1, Nat.lt_of_lt_of_le this.2.2.2.2 k.size⟩
  · have h1 := T.box.lt
    have h2 := A.box.lt
    have h3 := A.row.lt
    exact ⟨by omega, by omega, by omega, fun e => by have := (T.own.own b e.symm).2; omega, e2⟩
theorem StP.old {w0 W W' : World} {p a g P c : Nat} {L : List Q} {F : Nat → Prop} (h : StP w0 W p a g P c L F) (k : Kept Old W W') : StP w0 W' p a g P c L F := h.more k fun _ x => .inl x
/-- A step that turns blocks of F alone, new since w0. -/
theorem StP.only {w0 W W' : World} {p a g P c : Nat} {L : List Q} {F G : Nat → Prop} {D : Nat → Prop} (h : StP w0 W p a g P c L F) (k : Kept D W W') (hD : ∀ b, D b → F b ∧ w0.heap.size ≤ b) (hG : ∀ b, G b → F b ∨ (W.heap.size ≤ b ∧ b < W'.heap.size)) : StP w0 W' p a g P c L G := by
  obtain ⟨v, ws, T, A, C, hl, gd, hP, hag, K, f⟩ := h
  refine ⟨v, ws, T.kept k (fun e => (f p (hD p e).1).1 rfl) (fun gg e d => (f gg (hD gg d).1).2.2.2.1 e), A.kept k (fun e => (f a (hD a e).1).2.1 rfl) (fun e => (f g (hD g e).1).2.2.1 rfl), C, hl, gd, hP, hag, K.join k (fun i hi e => by have := (hD i e).2; omega), fun b hb => ?_⟩
  rcases hG b hb with e | ⟨e1, e2⟩
  · have := f b e
    exact ⟨this.1, this.2.1, this.2.2.1, this.2.2.2.1, Nat.lt_of_lt_of_le this.2.2.2.2 k.size⟩
  · have h1 := T.box.lt
    have h2 := A.box.lt
    have h3 := A.row.lt
    exact ⟨by omega, by omega, by omega, fun e => by have := (T.own.own b e.symm).2; omega, e2⟩
/-- A new pool beside a new arena. -/
theorem StP.new {w0 W W' : World} {p a g P c : Nat} {F : Nat → Prop} (ar : Ar W a g (List.replicate (P * 64) 0)) (K : Kept Old w0 W) (ha : w0.heap.size ≤ a) (hg : w0.heap.size ≤ g) (T : Pt W' w0.heap.size p (.slice none 0 0) c []) (k : Kept Old W W') (hc : c < 4) (hP : P ≤ 256) (hF : ∀ b, F b → b ≠ p ∧ b ≠ a ∧ b ≠ g ∧ b < W'.heap.size) : StP w0 W' p a g P c [] F :=
  ⟨_, _, T, ar.kept k (fun x => x) (fun x => x), Chs.nil _, by simp, GoodP.nil hc, hP, ⟨ha, hg⟩, K.trans k, fun b hb => ⟨(hF b hb).1, (hF b hb).2.1, (hF b hb).2.2.1, fun e => (by cases e), (hF b hb).2.2.2⟩⟩
/-- What a call that may turn the pool leaves. -/
theorem StP.turned {w0 W W' : World} {p a g P c : Nat} {L L' : List Q} {F : Nat → Prop} {v : Value} {ws : List Nat} (T : Pt W w0.heap.size p v c L) (hl : ws.length = P * 64) (hP : P ≤ 256) (hag : w0.heap.size ≤ a ∧ w0.heap.size ≤ g) (K : Kept Old w0 W) (f : ∀ b, F b → b ≠ p ∧ b ≠ a ∧ b ≠ g ∧ v.ownBlock ≠ some b ∧ b < W.heap.size) (g' : GoodP P c L') {lo : Nat → Prop} (h : ChgP w0.heap.size p a g v c L' ws lo W W') : StP w0 W' p a g P c L' F ∧ Kept (Fr F) W W' := by
  obtain ⟨v', vs, T', A', C', hl', k, ob, _⟩ := h
  refine ⟨⟨v', vs, T', A', C', by rw [hl', hl], g', hP, hag, ?_, fun b hb => ?_⟩, ?_⟩
  · exact K.join k (fun i hi e => by
      rcases e with e | e | e
      · have := T.low; omega
      · have := hag.2; omega
      · have := (T.own.own i e).1; omega)
  · have := f b hb
    refine ⟨this.1, this.2.1, this.2.2.1, ?_, Nat.lt_of_lt_of_le this.2.2.2.2 k.size⟩
    rcases ob with e | ⟨g, e, hg⟩
    · rw [e]; exact this.2.2.2.1
    · rw [e]
      intro z
      injection z with z
      omega
  · exact k.mono fun i e hF => by
      rcases e with e | e | e
      · exact (f i hF).1 e
      · exact (f i hF).2.2.1 e
      · exact (f i hF).2.2.2.1 e.symm
theorem st_add {w0 W : World} {p a g P c : Nat} {L : List Q} {F : Nat → Prop} (q : Int) (h : StP w0 W p a g P c L F) :
    Calls Tryz.prog 155 #[ptr p, ptr a, .int .i64 q] W fun e W' => e = .returned (.int .i64 (addC P L q)) ∧ StP w0 W' p a g P c (addL P c L q) F ∧ Kept (Fr F) W W' := by
  have h0 := h
  obtain ⟨v, ws, T, A, C, hl, gd, hP, hag, K, f⟩ := h
  unfold addC addL
  by_cases c0 : q < 0 ∨ (P : Int) - 8 < q
  · rw [if_pos c0, if_pos c0]
    refine (add_arg q W A hl hP c0).mono ?_
    rintro e W' ⟨rfl, rfl⟩
    exact ⟨rfl, h0, Kept.refl _ _⟩
  · rw [if_neg c0, if_neg c0]
    obtain ⟨m, rfl⟩ : ∃ m : Nat, q = (m : Int) := ⟨q.toNat, by omega⟩
    rw [Int.toNat_natCast]
    cases e : placeQ m L with
    | none =>
      refine (add_twice m W T A gd hl hP (by omega) e).mono ?_
      rintro e W' ⟨rfl, k⟩
      exact ⟨rfl, h0.old k, k.any⟩
    | some i =>
      refine (add_ok m i W T A gd C hl hP (by omega) e K.size).mono ?_
      rintro e W' ⟨rfl, k⟩
      have := StP.turned T hl hP hag K f (gd.ins e (by omega)) k
      exact ⟨rfl, this.1, this.2⟩
theorem st_take {w0 W : World} {p a g P c : Nat} {L : List Q} {F : Nat → Prop} (h : StP w0 W p a g P c L F) :
    Calls Tryz.prog 131 #[ptr p, ptr a] W fun e W' => e = .returned (.tuple #[.int .i64 (takeA L), .int .i64 (takeC L)]) ∧ StP w0 W' p a g P c (takeL L) F ∧ Kept (Fr F) W W' := by
  obtain ⟨v, ws, T, A, C, hl, gd, hP, hag, K, f⟩ := h
  refine (take_any W T A gd hP C).mono ?_
  rintro e W' ⟨rfl, T', A', C', k⟩
  have := StP.turned T hl hP hag K f gd.take (lo := fun _ => False) ⟨v, ws, T', A', C', rfl, k.mono fun i e => .inr (.inr e), .inl rfl, fun _ _ x _ => x⟩
  exact ⟨rfl, this.1, this.2⟩
theorem st_put {w0 W : World} {p a g P c : Nat} {L : List Q} {F : Nat → Prop} (q : Int) (h : StP w0 W p a g P c L F) :
    Calls Tryz.prog 137 #[ptr p, ptr a, .int .i64 q] W fun e W' => e = .returned (.tuple #[.int .i64 (putP c L q), .bool (putG c L q), .int .i64 (putC c L q)]) ∧ StP w0 W' p a g P c (putL c L q) F ∧ Kept (Fr F) W W' := by
  have h0 := h
  obtain ⟨v, ws, T, A, C, hl, gd, hP, hag, K, f⟩ := h
  have gp := gd.put q
  unfold putP putG putC putL at *
  rcases findQ_ways (c := c) (a := q) L with ⟨_, hx⟩ | ⟨k, x, h1, h2, h3, _⟩
  · rw [putR_none hx]
    refine (put_arg q W T gd hP hx).mono ?_
    rintro e W' ⟨rfl, k⟩
    exact ⟨rfl, h0.old k, k.any⟩
  · rw [putR_at h1 h2 h3] at gp ⊢
    have hr := at_range h3
    obtain ⟨m, rfl⟩ : ∃ m : Nat, q = (m : Int) := ⟨q.toNat, by omega⟩
    rw [Int.toNat_natCast] at gp ⊢
    by_cases hm : m ∈ x.free
    · rw [if_pos hm]
      refine (put_twice W T A gd hP C h2 h3 hm).mono ?_
      rintro e W' ⟨rfl, k⟩
      exact ⟨rfl, h0.old k, k.any⟩
    · rw [if_neg hm] at gp ⊢
      refine (put_ok W T A gd hl hP C h2 h3 hm).mono ?_
      rintro e W' ⟨rfl, k⟩
      by_cases d : x.free.length + 1 = perN c
      · rw [if_pos d] at k gp
        have := StP.turned T hl hP hag K f gp k
        rw [if_pos d]
        exact ⟨by rw [decide_eq_true d], this.1, this.2⟩
      · rw [if_neg d] at k gp
        have := StP.turned T hl hP hag K f gp k
        rw [if_neg d]
        exact ⟨by rw [decide_eq_false d], this.1, this.2⟩
theorem st_len {w0 W : World} {p a g P c : Nat} {L : List Q} {F : Nat → Prop} (h : StP w0 W p a g P c L F) :
    Calls Tryz.prog 140 #[ptr p] W fun e W' => e = .returned (.int .i64 (lenL L : Int)) ∧ Kept Old W W' := by
  obtain ⟨v, ws, T, A, C, hl, gd, hP, hag, K, f⟩ := h
  exact plen_any W T gd hP
theorem st_free {w0 W : World} {p a g P c : Nat} {L : List Q} {F : Nat → Prop} (h : StP w0 W p a g P c L F) :
    Calls Tryz.prog 115 #[ptr p, ptr a] W fun e W' => ∃ v', e = .returned v' ∧ MadeI (NI (freeL L)) W v' W' := by
  obtain ⟨v, ws, T, A, C, hl, gd, hP, hag, K, f⟩ := h
  exact free_any W T A gd hP C

/-! ### The example -/
end Go.Proofs.YtcndilpaijapkaaGreat.Prt
