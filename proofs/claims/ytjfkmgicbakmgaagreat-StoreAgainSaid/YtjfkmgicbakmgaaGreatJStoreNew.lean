/-
  What store.New answers; a store's On and Live; the methods of no store. Own work; each is proved by a walk through the landed text.
-/
import Derived.Test.YtjfkmgicbakmgaaGreatRows
import Derived.WalkKit
import Derived.ProofKit
import Derived.OpenShut
import Derived.Outline
import Derived.Deep.Light
import Derived.Deep.QuietTactic
import Derived.BigQuiet
import Derived.IntWalk
import Derived.StillTailTactics
import Derived.RegionTactic
import Derived.Deep.RegionLaw
import Derived.Deep.RegionHeld3
import Derived.Test.YtjfkmgicbakmgaaGreatJStoreAlloc
namespace Go.Proofs.YtjfkmgicbakmgaaGreat.Sto
open Go.ChangeShapes Go.WideShapes Go.ChangeAt Go.RowKit
set_option maxRecDepth 100000

/-! ### Methods of no store -/
theorem alloc_nil (n : Int) (w : World) : Calls Tryz.prog 18 #[nilp, .int .i64 n] w fun e w' => e = .returned (.tuple #[.int .i64 0, .int .i64 2]) ∧ w = w' := by
  go_enter Tryz.func18, Tryz.ntmps18
  go_wp2
  go_ret2
  exact ⟨rfl, rfl⟩
theorem free_nil (n : Int) (w : World) : Calls Tryz.prog 20 #[nilp, .int .i64 n] w fun e w' => e = .returned (.int .i64 2) ∧ w = w' := by
  go_enter Tryz.func20, Tryz.ntmps20
  go_wp2
  go_ret
  exact ⟨rfl, rfl⟩
theorem gc_nil (b : Bool) (w : World) : Calls Tryz.prog 26 #[nilp, .bool b] w fun e w' => e = .returned (.tuple #[]) ∧ w = w' := by
  go_enter Tryz.func26, Tryz.ntmps26
  go_wp2
  (try simp only [Exit.inBlock, Exit.then])
  refine bodyPost_ret (results_none rfl _ _ _) rfl ?_
  exact ⟨rfl, rfl⟩
theorem on_nil (w : World) : Calls Tryz.prog 38 #[nilp] w fun e w' => e = .returned (.bool false) ∧ w = w' := by
  go_enter Tryz.func38, Tryz.ntmps38
  go_wp2
  go_ret
  exact ⟨rfl, rfl⟩
theorem live_nil (w : World) : Calls Tryz.prog 24 #[nilp] w fun e w' => e = .returned (.slice none 0 0) ∧ w = w' := by
  go_enter Tryz.func24, Tryz.ntmps24
  go_wp2
  go_ret
  exact ⟨rfl, rfl⟩
/-! ### New -/
abbrev K0 (P : Nat) : K := ⟨[(0, (P : Int))], [], fun _ => [], [], false, []⟩
abbrev pn (pl : Pl) (n c : Nat) : Value := if c < n then ptr (pl.pq c) else nilp
abbrev cellsN (pl : Pl) (n : Nat) : List Value := [ptr pl.a, ptr pl.h, pn pl n 0, pn pl n 1, pn pl n 2, pn pl n 3, nilp, nilp, nilp, nilp, .slice none 0 0, .bool false, .slice none 0 0, .slice none 0 0]
/-- A store to be, with n pools. -/
structure StN (w0 W : World) (s P : Nat) (F : Nat → Prop) (pl : Pl) (n : Nat) : Prop where
  box : Blk W s 86 (cellsN pl n)
  lab : pl.lab s = 0
  hp : PlH W pl (K0 P) P w0
  ar : PlA W pl P
  pt : ∀ c, c < n → c < 4 → PlP W pl (K0 P) w0 c
  ff : PlF W pl w0 F
  a1 : pl.A1 = none ∧ pl.n1 = 0 ∧ pl.c1 = 0
  a2 : pl.A2 = none ∧ pl.n2 = 0 ∧ pl.c2 = 0
  lv : pl.lv = .slice none 0 0
theorem StN.fin {w0 W : World} {s P : Nat} {F : Nat → Prop} {pl : Pl} (h : StN w0 W s P F pl 4) : StM w0 W s P (K0 P) [] F pl := by
  obtain ⟨b1, b2, b3⟩ := h.a1
  obtain ⟨d1, d2, d3⟩ := h.a2
  have bx : cells pl false = cellsN pl 4 := by
    unfold cells cellsN pn
    rw [b1, b2, b3, d1, d2, d3, h.lv]
    rfl
  refine ⟨⟨bx ▸ h.box, h.lab⟩, h.hp, h.ar, fun c hc => h.pt c hc hc, fun c _ => Prt.Chs.nil _, ⟨?_, by omega, fun _ => b3, fun b hb => ?_⟩, ⟨?_, by omega, fun _ => d3, fun b hb => ?_⟩, ⟨?_, fun b hb => ?_⟩, h.ff⟩
  · rw [b2]; exact ⟨rfl, fun _ h => (by cases h), fun h => absurd h (Nat.lt_irrefl 0)⟩
  · have := hb.1; omega
  · rw [d2]; exact ⟨rfl, fun _ h => (by cases h), fun h => absurd h (Nat.lt_irrefl 0)⟩
  · have := hb.1; omega
  · rw [h.lv]; exact Lm.OwS.nil _ _
  · rw [h.lv] at hb; cases hb
/-- One pool more. -/
theorem StN.step {w0 W W1 : World} {s P n p : Nat} {F : Nat → Prop} {pl : Pl} (h : StN w0 W s P F pl n) (hn : n < 4) (T : Prt.Pt W1 w0.heap.size p (.slice none 0 0) n []) (K : Kept Old W W1) (hp : W.heap.size ≤ p) :
    StN w0 (W1.setCell ⟨s, 2 + n, none⟩ (ptr p)) s P F { pl.re W.heap.size (3 + n) with pq := fun c => if c = n then p else pl.pq c, pv := fun c => if c = n then .slice none 0 0 else pl.pv c } (n + 1) := by
  have K0' := old_tn (lab := pl.lab) K
  have ks := only_setCell W1 s (2 + n) (ptr p)
  have K1 : Kept (Tn (fun i => i = 0) pl.lab) W (W1.setCell ⟨s, 2 + n, none⟩ (ptr p)) := (K0'.mono fun _ e => e.elim).trans (kept_lt ks fun i _ e => by have e : i = s := e; rw [e]; exact h.lab)
  have sp : s < W.heap.size := h.box.lt
  refine ⟨?_, (rel_lt sp).trans h.lab, ⟨(h.hp.go (j := 3 + n) h.ff K1 (by omega) (by omega) (by omega)).hp⟩, ?_, fun c hc c4 => ?_, ?_, h.a1, h.a2, h.lv⟩
  · have b := (h.box.kept K (fun x => x)).put (2 + n) (ptr p)
    have e : (cellsN pl n).set (2 + n) (ptr p) = cellsN { pl.re W.heap.size (3 + n) with pq := fun c => if c = n then p else pl.pq c, pv := fun c => if c = n then .slice none 0 0 else pl.pv c } (n + 1) := by
      rcases (show n = 0 ∨ n = 1 ∨ n = 2 ∨ n = 3 by omega) with rfl | rfl | rfl | rfl <;> rfl
    rw [e] at b
    exact b
  · have q := h.ar.go (j := 3 + n) K1 (by omega)
    exact ⟨q.ar, q.len, q.la, q.lg⟩
  · by_cases e : c = n
    · subst e
      refine ⟨?_, ?_, fun b hb => ?_⟩
      · show Prt.Pt _ _ (if c = c then p else pl.pq c) (if c = c then .slice none 0 0 else pl.pv c) c []
        rw [if_pos rfl, if_pos rfl]
        exact T.kept ks (fun e => by have e : p = s := e; omega) (fun g e _ => by cases e)
      · show rel _ _ _ (if c = c then p else pl.pq c) = _
        rw [if_pos rfl]
        exact rel_ge hp
      · have : (if c = c then (.slice none 0 0 : Value) else pl.pv c).ownBlock = some b := hb
        rw [if_pos rfl] at this
        cases this
    · have q := (h.pt c (by omega) c4).go (j := 3 + n) K1 (by omega)
      refine ⟨?_, ?_, fun b hb => q.lo b ?_⟩
      · show Prt.Pt _ _ (if c = n then p else pl.pq c) (if c = n then .slice none 0 0 else pl.pv c) c []
        rw [if_neg e, if_neg e]
        exact q.pt
      · show rel _ _ _ (if c = n then p else pl.pq c) = _
        rw [if_neg e]
        exact q.lp
      · have : (if c = n then (.slice none 0 0 : Value) else pl.pv c).ownBlock = some b := hb
        rwa [if_neg e] at this
  · have q := h.ff.go (j := 3 + n) K1 (by omega) (by omega)
    exact ⟨q.kept, q.low, q.far⟩
/-- No pool more. -/
theorem StM.nopool {w0 W : World} {s P n : Nat} {k : K} {live : List Lm.S} {F : Nat → Prop} {pl : Pl} (m : StM w0 W s P k live F pl) (h4 : 4 ≤ n) (h8 : n < 8) : StM w0 (W.setCell ⟨s, 2 + n, none⟩ nilp) s P k live F (pl.re W.heap.size 97) := by
  have ks := only_setCell W s (2 + n) nilp
  have K1 : Kept (Tn (fun i => i = 0) pl.lab) W (W.setCell ⟨s, 2 + n, none⟩ nilp) := kept_lt ks fun i _ e => by have e : i = s := e; rw [e]; exact m.st.lab
  refine ⟨⟨?_, (rel_lt m.st.box.lt).trans m.st.lab⟩, m.hp.go m.ff K1 (by omega) (by omega) (by omega), m.ar.go K1 (by omega), fun c hc => (m.pt c hc).go K1 (by omega), m.ch, m.kb.go K1 (by omega), m.kq.go K1 (by omega), m.lv.go K1 (by omega), m.ff.go K1 (by omega) (by omega)⟩
  have b := m.st.box.put (2 + n) nilp
  have e : (cells pl k.on).set (2 + n) nilp = cells pl k.on := by
    rcases (show n = 4 ∨ n = 5 ∨ n = 6 ∨ n = 7 by omega) with rfl | rfl | rfl | rfl <;> rfl
  rw [e] at b
  exact b
/-- The store to be, without pools. -/
theorem StN.start {w0 W W1 W2 : World} {P a g h : Nat} {F : Nat → Prop} (K : Kept Old w0 W) (hF : ∀ b, F b → b < W.heap.size) (H : Hp w0 W1 h (P : Int) [(0, (P : Int))] [] (fun b => b < W.heap.size)) (K1 : Kept Old W W1) (A : Ar W2 a g (List.replicate (P * 64) 0)) (K2 : Kept Old W1 W2) (ha : W1.heap.size ≤ a) (hg : W1.heap.size ≤ g) :
    ∃ pl, StN w0 (W2.alloc (.cells #[ptr a, ptr h, nilp, nilp, nilp, nilp, nilp, nilp, nilp, nilp, .slice none 0 0, .bool false, .slice none 0 0, .slice none 0 0] 86)) W2.heap.size P F pl 0 := by
  classical
  let lab0 : Nat → Nat := fun b => if F b then 98 else 99
  let pl : Pl := ⟨a, g, h, fun _ => 0, fun _ => .slice none 0 0, List.replicate (P * 64) 0, none, 0, 0, none, 0, 0, .slice none 0 0, rel W2.heap.size 0 (rel W1.heap.size 2 (rel W.heap.size 1 lab0))⟩
  have KA : Kept Old W2 (W2.alloc (.cells #[ptr a, ptr h, nilp, nilp, nilp, nilp, nilp, nilp, nilp, nilp, .slice none 0 0, .bool false, .slice none 0 0, .slice none 0 0] 86)) := (Kept.refl _ _).alloc _
  have s1 := K1.size
  have s2 := K2.size
  have s0 := K.size
  have la := A.box.lt
  have lg := A.row.lt
  have labo : ∀ b, b < W.heap.size → pl.lab b = lab0 b := fun b hb => (rel_lt (by omega)).trans ((rel_lt (by omega)).trans (rel_lt hb))
  refine ⟨pl, Blk.new W2 _ _, rel_ge (Nat.le_refl _), ⟨(H.more (K2.trans KA) (fun b hb => ?_))⟩, ⟨A.kept KA (fun x => x) (fun x => x), by simp [pl], (rel_lt la).trans (rel_ge ha), (rel_lt lg).trans (rel_ge hg)⟩, fun c hc => absurd hc (Nat.not_lt_zero c), ⟨((K.trans K1).trans K2).trans KA, fun b hb => ?_, fun b hb => ?_⟩, ⟨rfl, rfl, rfl⟩, ⟨rfl, rfl, rfl⟩, rfl⟩
  · obtain ⟨b1, b2⟩ := hb
    by_cases c : b < W1.heap.size
    · by_cases d : b < W.heap.size
      · exact .inl d
      · exact absurd ((rel_lt (by omega)).trans ((rel_lt c).trans (rel_ge (by omega)))) b2
    · exact .inr ⟨by omega, b1⟩
  · rw [labo b (by omega)]
    show (if F b then 98 else 99) = 99 ∨ _
    by_cases q : F b
    · right; show (if F b then 98 else 99) = 98; rw [if_pos q]
    · left; rw [if_neg q]
  · have := hF b hb
    refine ⟨?_, by have := KA.size; omega⟩
    rw [labo b this]
    show (if F b then 98 else 99) = 98
    rw [if_pos hb]
/-- While pools are made. -/
structure NewRel (w0 W wr : World) (s P : Nat) (F : Nat → Prop) (n : Nat) : Prop where
  way : (n < 4 ∧ ∃ pl, StN w0 wr s P F pl n) ∨ (4 ≤ n ∧ ∃ pl, StM w0 wr s P (K0 P) [] F pl)
  kept : Kept Old W wr
  low : W.heap.size ≤ s
theorem NewRel.up {w0 W wr W1 : World} {s P n p : Nat} {F : Nat → Prop} {pl : Pl} (h : NewRel w0 W wr s P F n) (N : StN w0 wr s P F pl n) (hn : n < 4) (T : Prt.Pt W1 w0.heap.size p (.slice none 0 0) n []) (K : Kept Old wr W1) (hp : wr.heap.size ≤ p) : NewRel w0 W (W1.setCell ⟨s, 2 + n, none⟩ (ptr p)) s P F (n + 1) := by
  have st := N.step hn T K hp
  refine ⟨?_, (h.kept.trans K).join (only_setCell W1 s (2 + n) (ptr p)) (fun i hi e => by have e : i = s := e; have := h.low; omega), h.low⟩
  by_cases e : n = 3
  · subst e
    exact .inr ⟨by omega, _, st.fin⟩
  · exact .inl ⟨by omega, _, st⟩
theorem NewRel.up2 {w0 W wr W1 : World} {s P n : Nat} {F : Nat → Prop} {pl : Pl} (h : NewRel w0 W wr s P F n) (N : StM w0 wr s P (K0 P) [] F pl) (hn : 4 ≤ n) (h8 : n < 8) (K : Kept Old wr W1) : NewRel w0 W (W1.setCell ⟨s, 2 + n, none⟩ nilp) s P F (n + 1) :=
  ⟨.inr ⟨by omega, _, (N.old K).nopool hn h8⟩, (h.kept.trans K).join (only_setCell W1 s (2 + n) nilp) (fun i hi e => by have e : i = s := e; have := h.low; omega), h.low⟩
theorem NewRel.drew {w0 W wr : World} {s P n : Nat} {F : Nat → Prop} (h : NewRel w0 W wr s P F n) : NewRel w0 W wr.drew s P F n := by
  have k := (Kept.refl Old wr).drew
  refine ⟨?_, h.kept.drew, h.low⟩
  rcases h.way with ⟨a, pl, N⟩ | ⟨a, pl, N⟩
  · exact .inl ⟨a, pl, ⟨N.box, N.lab, ⟨N.hp.hp.more k (fun b hb => .inl ⟨hb.1, hb.2⟩)⟩, ⟨N.ar.ar.kept k (fun x => x) (fun x => x), N.ar.len, N.ar.la, N.ar.lg⟩, fun c h1 h2 => ⟨(N.pt c h1 h2).pt.old k, (N.pt c h1 h2).lp, (N.pt c h1 h2).lo⟩, ⟨N.ff.kept.drew, N.ff.low, N.ff.far⟩, N.a1, N.a2, N.lv⟩⟩
  · exact .inr ⟨a, _, N.old k⟩
theorem cellsN_at {pl : Pl} {n : Nat} (h : n < 4) : (cellsN pl n)[2 + n]? = some nilp := by
  rcases (show n = 0 ∨ n = 1 ∨ n = 2 ∨ n = 3 by omega) with rfl | rfl | rfl | rfl <;> rfl
theorem cells_at {pl : Pl} {on : Bool} {n : Nat} (h : 4 ≤ n) (h8 : n < 8) : (cells pl on)[2 + n]? = some nilp := by
  rcases (show n = 4 ∨ n = 5 ∨ n = 6 ∨ n = 7 by omega) with rfl | rfl | rfl | rfl <;> rfl
def NewSt (w0 : World) (P : Nat) (F : Nat → Prop) (W : World) (e : Ending) (W' : World) : Prop := ∃ s, e = .returned (ptr s) ∧ (∃ pl, StM w0 W' s P (K0 P) [] F pl) ∧ Kept Old W W' ∧ W.heap.size ≤ s
theorem snew_no (n : Int) (w : World) (h : n < 1 ∨ 256 < n) : Calls Tryz.prog 12 #[.int .i64 n] w fun e w' => e = .returned nilp ∧ w = w' := by
  have hT := Lib.hid (hnew_no n w h)
  clear h
  go_enter Tryz.func12, Tryz.ntmps12
  go_wp2_with fail
  refine hT.out.mono ?_
  rintro e W ⟨rfl, rfl⟩
  go_wp2
  go_ret
  exact ⟨rfl, rfl⟩
set_option maxHeartbeats 4000000 in
theorem snew_yes (w0 : World) (P : Nat) (F : Nat → Prop) (W : World) (h1 : 1 ≤ P) (h2 : P ≤ 256) (K : Kept Old w0 W) (hF : ∀ b, F b → b < W.heap.size) : Calls Tryz.prog 12 #[.int .i64 (P : Int)] W (NewSt w0 P F W) := by
  have HN := Lib.hid (hp_new w0 (P : Int) (fun b => b < W.heap.size) W (by omega) (by omega) K (fun _ h => h))
  have AN := Lib.hid (fun X => arNew_yes P X h1 h2)
  have KK := Lib.hid K
  have HF := Lib.hid hF
  clear K hF
  go_enter Tryz.func12, Tryz.ntmps12
  go_wp2_with fail
  refine HN.out.mono ?_
  rintro e W1 ⟨h, rfl, H, K1⟩
  go_wp2_with fail
  refine (AN.out _).mono ?_
  rintro e W2 ⟨a, g, rfl, A, K2, ha, hg⟩
  obtain ⟨pl, N0⟩ := StN.start KK.out HF.out H K1 A K2 ha hg
  have N0 := Lib.hid N0
  have KA := Lib.hid (((K1.trans K2).alloc (.cells #[ptr a, ptr h, nilp, nilp, nilp, nilp, nilp, nilp, nilp, nilp, .slice none 0 0, .bool false, .slice none 0 0, .slice none 0 0] 86)))
  have ss := Lib.hid (show W.heap.size ≤ W2.heap.size from (K1.trans K2).size)
  clear H K1 A K2 ha hg HN AN
  have R0 := Lib.hid (show NewRel w0 W _ W2.heap.size P F 0 from ⟨.inl ⟨by omega, pl, N0.out⟩, KA.out, ss.out⟩)
  clear N0 KA
  go_wp2_with fail
  generalize W2.heap.size = s at *
  generalize W2.alloc (.cells #[ptr a, ptr h, nilp, nilp, nilp, nilp, nilp, nilp, nilp, nilp, .slice none 0 0, .bool false, .slice none 0 0, .slice none 0 0] 86) = V0 at *
  go_loopw [15] (fun s15 wr => ∃ n : Nat, n ≤ 8 ∧ s15 = .int .i64 (n : Int) ∧ Hid (NewRel w0 W wr s P F n)) (fun s15 _ => 8 - (intOf s15).toNat)
  case atStart => exact ⟨0, by omega, rfl, R0⟩
  case round =>
    clear R0
    obtain ⟨n, hn, rfl, RN⟩ := hrel
    rename World => V
    by_cases n8 : n < 8
    · have n8' : (n : Int) < 8 := by omega
      have n0 : (0 : Int) ≤ (n : Int) := by omega
      have wn : IntKind.i64.wrap ((n : Int) + 1) = (n : Int) + 1 := IntWalk.i64_in _ (by omega)
      rcases RN.out.way with ⟨n4, pl, N⟩ | ⟨n4, pl, N⟩
      · have N := Lib.hid N
        have hs := N.out.box.lt
        have PN := Lib.hid (fun X (q : Kept Old V X) => Prt.pnew_yes w0.heap.size n X n4 (Nat.le_trans N.out.ff.kept.size q.size))
        go_wp2_with fail
        go_region_with (first
          | (go_at_call 41; refine (PN.out _ (by first | exact Kept.refl Old V | exact (Kept.refl Old V).drew)).mono ?_; rintro e X ⟨p, rfl, T, k, hp⟩; have kk : Kept Old V X := Kept.trans (by first | exact Kept.refl Old V | exact (Kept.refl Old V).drew) k; have bx := N.out.box.kept kk (fun x => x); have x0 := bx.frozen (2 + n); have x1 := (bx.cell (2 + n)).trans (cellsN_at n4); have RR := Lib.hid (RN.out.up N.out n4 T kk hp); have hx := bx.lt; clear T k hp bx))
        all_goals
          go_wp2
          refine ⟨⟨n + 1, by omega, by go_num, by first | exact RR | exact Lib.hid RR.out.drew⟩, ?_⟩
          simp [intOf]; omega
      · have N := Lib.hid N
        have hs := N.out.st.box.lt
        have PN := Lib.hid (fun X => Prt.pnew_no (n : Int) X (Or.inr (by omega)))
        have bx := N.out.st.box
        have x0 := bx.frozen (2 + n)
        have x1 := (bx.cell (2 + n)).trans (cells_at n4 n8)
        have RR := Lib.hid (fun X (q : Kept Old V X) => RN.out.up2 N.out n4 n8 q)
        clear bx
        go_wp2_with fail
        go_region_with (first
          | (go_at_call 41; refine (PN.out _).mono ?_; rintro e X ⟨rfl, rfl⟩))
        all_goals
          go_wp2
          refine ⟨⟨n + 1, by omega, by go_num, by first | exact Lib.hid (RR.out _ (Kept.refl Old V)) | exact Lib.hid (RR.out _ (Kept.refl Old V).drew) | exact Lib.hid (RR.out _ (Kept.refl Old V)).out.drew⟩, ?_⟩
          simp [intOf]; omega
    · have n8' : ¬ (n : Int) < 8 := by omega
      have EP := Lib.hid (show NewSt w0 P F W (.returned (ptr s)) V from by
        rcases RN.out.way with ⟨n4, _⟩ | ⟨_, pl, N⟩
        · omega
        · exact ⟨s, rfl, ⟨pl, N⟩, RN.out.kept, RN.out.low⟩)
      go_wp2
      go_ret
      exact EP.out
end Go.Proofs.YtjfkmgicbakmgaaGreat.Sto
