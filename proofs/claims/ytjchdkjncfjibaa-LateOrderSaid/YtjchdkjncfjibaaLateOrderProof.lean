/-
  For every input the law LateOrder of rickyard/rickyardlaw12 returns true, and its arguments read afterwards as before. The law's own sentence: They go in the order in which they came, whatever the phase is then. No further conditions.
-/
import Derived.Test.YtjchdkjncfjibaaRows
import Derived.Test.YtjchdkjncfjibaaKept
import Derived.Test.YtjchdkjncfjibaaShell
import Derived.Test.YtjchdkjncfjibaaShellInts
import Derived.WalkKit
import Derived.ProofKit
import Derived.OpenShut
import Derived.ChangeOld
import Derived.Below
import Derived.Lib.SmallJoins
import Derived.Test.YtjchdkjncfjibaaLateMade
namespace Go.Proofs.Ytjchdkjncfjibaa.lateOrder
open Go.ChangeShapes Go.WideShapes Go.ChangeAt Go.RowKit
set_option linter.unusedVariables false
set_option maxRecDepth 100000

theorem own : ownKnob Try.prog.godebug = none := by kernel_rfl
theorem laidOut : laidOutB Try.prog = true := by kernel_rfl
open Lq in
/-- A queue in a variable, beside a list of the same pages that grows. -/
structure Om (w W : World) (s : Nat) (b : Bool) (L : List Int) (A : Option Addr) (n c : Nat) (v : Value) : Prop where
  q : Lv w W s b L A n c
  o : OwI W w.heap.size v n L
  ne : ∀ g, v.ownBlock = some g → g ≠ s ∧ (0 < n → ∀ ad, A = some ad → ad.block ≠ g)
theorem Om.old {w W W' : World} {s : Nat} {b : Bool} {L : List Int} {A : Option Addr} {n c : Nat} {v : Value} (h : Om w W s b L A n c v) (k : Kept Old W W') : Om w W' s b L A n c v := ⟨h.q.old k, h.o.old k, h.ne⟩
theorem Om.lt {w W : World} {s : Nat} {b : Bool} {L : List Int} {A : Option Addr} {n c : Nat} {v : Value} (h : Om w W s b L A n c v) {g : Nat} (e : v.ownBlock = some g) : w.heap.size ≤ g ∧ g < W.heap.size := h.o.own g e.symm
open Lq in
/-- Behind the append. -/
theorem Om.next {w V X X' : World} {s : Nat} {b : Bool} {L : List Int} {A A2 : Option Addr} {n c n2 c2 : Nat} {v v' : Value} {u : Int} (h : Om w V s b L A n c v) (q : Lv w X s true (L ++ [u]) A2 n2 c2) (o : OwI X' w.heap.size v' (n + 1) (L ++ [u]))
    (k : Kept (fun k => some k = v.ownBlock) X X') (own : v'.ownBlock = v.ownBlock ∨ ∃ g, v'.ownBlock = some g ∧ X.heap.size ≤ g) (new : ∀ ad, A2 = some ad → V.heap.size ≤ ad.block) : Om w X' s true (L ++ [u]) A2 n2 c2 v' := by
  have l1 := o.len
  have l2 := q.rs.len
  obtain rfl : n + 1 = n2 := by omega
  refine ⟨q.far k (fun i e => ?_), o, fun g e => ?_⟩
  · have e : v.ownBlock = some i := e.symm
    have h1 := h.lt e
    exact ⟨h1.1, (h.ne i e).1, fun _ ad e2 => by have := new ad e2; omega⟩
  · rcases own with z | ⟨g', z, hz⟩
    · rw [z] at e
      have h1 := h.lt e
      exact ⟨(h.ne g e).1, fun _ ad e2 => by have := new ad e2; omega⟩
    · rw [z] at e
      injection e with e
      subst e
      exact ⟨by have := q.box.lt; omega, fun n0 ad e2 => by have := rs_lt q.rs n0 e2; omega⟩
open Lq in
theorem putL_ok {l : List Int} {p : Int} (h : putC true l p = 0) : putL true l p = l ++ [p] := by
  rcases put_ways true l p with ⟨_, e, q, _⟩ | ⟨_, _, e, q, _⟩ | ⟨_, _, _, e, q, _⟩ | ⟨_, _, _, e, q, _⟩ <;> first | exact q | (rw [e] at h; cases h)
theorem cell_on {w w' : World} (k : Kept Old w w') {p : Addr} {v : Value} (h : w.cell? p = some v) : w'.cell? p = some v := (k.cell (block_lt_of_cell h) (fun x => x)).trans h
open Lq in
theorem apart_drop {l : List Int} (h : Apart l) : ∀ j, Apart (l.drop j) := by
  intro j
  induction j generalizing l with
  | zero => simpa using h
  | succ j ih =>
    cases l with
    | nil => simpa using h
    | cons a t => simpa using ih h.2.2

set_option maxHeartbeats 2500000 in
/-- The walk: the Go text returns true, and nothing that was there has turned. -/
theorem walk (a0 : Option Addr) (len0 cap0 : Nat) (z0 : Nat → Int) (a1 : Bool) (w : World) (w0 : len0 ≤ cap0 ∧ cap0 ≤ maxLen ∧ (∀ i, i < len0 → (Lit.int .u8 (z0 i)).wf = true) ∧ Sl w a0 1 len0 fun i _ => .int .u8 (z0 i)) :
    Calls Try.prog 4 #[.slice a0 len0 cap0, .bool a1] w fun e w' => e = .returned (.bool true) ∧ Kept Old w w' := by
  obtain ⟨v0, v1, v2, v3⟩ := w0
  have hl : len0 ≤ 9223372036854775807 := by unfold maxLen at v1; omega
  have HZ := Lib.hid (show ∀ i, i < len0 → 0 ≤ z0 i ∧ z0 i ≤ 255 from fun i hi => bounds_u8 (v2 i hi))
  have HS := Lib.hid v3
  have HP := Lib.hid (fun k (hk : k < len0) => Lq.pages_get (z := z0) hk)
  clear v0 v1 v2 v3
  generalize Lq.pagesN z0 len0 = ps at *
  go_enter Try.func4, Try.ntmps4
  go_wp2_with fail
  refine (Lq.lset_any false none 0 0 [] true _ (RsI.nil _ _) (by omega) (fun _ => ⟨rfl, rfl⟩)).mono ?_
  rintro e w1 ⟨v, rfl, A1, n1, c1, rfl, R1, h1c, h1n, k1⟩
  obtain rfl : n1 = 0 := R1.len.symm
  have L0 := Lq.Lv.start (b := true) R1 h1c h1n.1 h1n.2 k1 (Kept.refl Old w)
  have S0 := Lib.hid (show Om w _ _ true [] A1 0 c1 (.slice none 0 0) from ⟨L0, OwI.nil _ _, fun g e => by cases e⟩)
  clear L0 k1 R1 h1n
  go_wp2_with fail
  generalize hs5 : w1.heap.size = s5 at *
  generalize w1.alloc (.cells #[.bool true, .slice A1 0 c1] 24) = V1 at *
  go_loopw [6, 7] (fun s6 i wr => ∃ (k n c : Nat) (A : Option Addr) (v : Value), k ≤ len0 ∧ k ≤ 200 ∧ v = s6 ∧ i = .int .i64 (k : Int) ∧ Hid (Om w wr s5 true (Lq.makeL [] (ps.take k)) A n c v)) (fun _ i _ => len0 - (intOf i).toNat)
  case atStart => exact ⟨0, 0, c1, A1, _, by omega, by omega, rfl, rfl, S0⟩
  case round =>
    obtain ⟨k, n, c, A, v, hk, hk2, rfl, rfl, OM⟩ := hrel
    rename World => V
    clear S0
    have AP := Lib.hid (show Lq.Apart (Lq.makeL [] (ps.take k)) from Lq.Apart.make _ trivial)
    have nf : n ≤ 249 := by have := AP.out.few; have := OM.out.o.len; omega
    have x0 := OM.out.q.box.c0
    have x1 := OM.out.q.box.c1
    have sz := OM.out.q.box.lt
    have lw := OM.out.q.low
    by_cases d : k < len0 ∧ k < 200
    · obtain ⟨d, d2⟩ := d
      obtain ⟨g, o, rfl, hg, hc⟩ := (HS.out.old OM.out.q.kept).lies (by omega)
      have hgw : g < w.heap.size := by
        obtain ⟨g', o', e, hg', _⟩ := HS.out.lies (by omega)
        injection e with e
        injection e with e1 e2
        subst e1
        exact hg'
      have d0 := hc k 0 (by omega) (by omega)
      simp only [Nat.mul_one, Nat.add_zero] at d0
      have z0' := HZ.out k d
      have mt := Lib.hid (Lq.make_take (l := []) (HP.out k d))
      generalize z0 k = u at *
      generalize hLL : Lq.makeL [] (ps.take k) = L at *
      clear hLL hc
      have C1 := Lib.hid (fun W (q : Kept Old V W) => Lq.lput_any true A n c L u W (OM.out.q.rs.old q) AP.out.may ⟨by omega, by omega⟩ (by omega) (Lq.nn OM.out.q.cap OM.out.q.nil))
      have SW := Lib.hid (Lq.step_ways L u)
      have SO := Lib.hid (fun h => Lq.step_on (l := L) (p := u) h)
      have PK := Lib.hid (fun h => putL_ok (l := L) (p := u) h)
      generalize Lq.putB true L u = pb at *
      generalize Lq.putL true L u = L2 at *
      generalize Lq.putC true L u = C at *
      go_wp2_with fail
      have j0 : (k : Int) < (len0 : Int) := by omega
      have j4 : IntKind.i64.wrap u = u := IntWalk.i64_in _ (by omega)
      have z8 : (V.alloc (.cells #[.bool false, .slice none 0 0] 24)).heap.size = V.heap.size + 1 := by simp
      have Z8 := Lib.hid z8
      clear z8
      have s9 : s5 ≠ V.heap.size := by omega
      have g9 : g ≠ V.heap.size := by omega
      have KA := Lib.hid (((Kept.refl Old V).alloc (.cells #[.bool false, .slice none 0 0] 24)).drew)
      go_region_held3 (fun w' => w'.cell? ⟨s5, 0, none⟩ = some (.bool true) ∧ w'.cell? ⟨s5, 1, none⟩ = some (.slice A n c) ∧ w'.cell? ⟨g, o + k, none⟩ = some (.int .u8 u))
        (first
          | (exact ⟨‹_›, ‹_›, ‹_›⟩)
          | (exact ⟨cell_on k3 x0, cell_on k3 x1, cell_on k3 d0⟩)
          | (exact ⟨cell_on KA.out x0, cell_on KA.out x1, cell_on KA.out d0⟩)
          | (exact ⟨cell_on (k3.alloc _) x0, cell_on (k3.alloc _) x1, cell_on (k3.alloc _) d0⟩)
          | (exact ⟨Lq.put_far (cell_on k3 x0) s9, Lq.put_far (cell_on k3 x1) s9, Lq.put_far (cell_on k3 d0) g9⟩)
          | go_keep)
        (first
          | (go_at_call 11; refine (C1.out _ (by first | exact Kept.refl Old V | exact (Kept.refl Old V).drew)).mono ?_; rintro e V2 ⟨v2, rfl, A2, n2, c2, rfl, R2, h2, h3, k2⟩; have k3 : Kept Old V V2 := (Kept.trans (by first | exact Kept.refl Old V | exact (Kept.refl Old V).drew) k2); have hz2 := k3.size; have NW := Lib.hid (show ∀ ad, A2 = some ad → V.heap.size ≤ ad.block from h3.2); have N3 := Lib.hid h3.1; have R2 := Lib.hid R2; have O2 := Lib.hid (OM.out.old k3); clear k2 h3)
          | (go_at_call 11; refine (C1.out _ (by first | exact (Kept.refl Old V).alloc (.cells #[.bool false, .slice none 0 0] 24) | exact ((Kept.refl Old V).alloc (.cells #[.bool false, .slice none 0 0] 24)).drew)).mono ?_; rintro e V2 ⟨v2, rfl, A2, n2, c2, rfl, R2, h2, h3, k2⟩; have k3 : Kept Old V V2 := (Kept.trans (by first | exact (Kept.refl Old V).alloc (.cells #[.bool false, .slice none 0 0] 24) | exact ((Kept.refl Old V).alloc (.cells #[.bool false, .slice none 0 0] 24)).drew) k2); have BX := Lib.hid (Lq.Bq.old (w' := V2) (show Lq.Bq _ V.heap.size false (.slice none 0 0) from Lq.Bq.new V false (.slice none 0 0)) ⟨k2.os, k2.tape, k2.output, k2.size, k2.block⟩); have y0 := BX.out.c0; have y1 := BX.out.c1; have g0 := BX.out.f0; have g1 := BX.out.f1; have hz2 := k3.size; have NW := Lib.hid (show ∀ ad, A2 = some ad → V.heap.size + 1 ≤ ad.block from fun ad e => Nat.le_trans (Nat.le_of_eq Z8.out.symm) (h3.2 ad e)); have N3 := Lib.hid h3.1; have R2 := Lib.hid R2; have O2 := Lib.hid (OM.out.old k3); clear k2 h3))
      · have x0 := O2.out.q.box.c0
        have x1 := O2.out.q.box.c1
        have f0 := O2.out.q.box.f0
        have f1 := O2.out.q.box.f1
        have s2 := O2.out.q.box.lt
        have d0 := cell_on k3 d0
        have g2 : g < V2.heap.size := by omega
        rcases SW.out with ⟨q, e⟩ | ⟨q, e⟩
        · subst q
          have e2 := PK.out rfl
          have ME := Lib.hid (show Lq.makeL [] (ps.take (k + 1)) = L ++ [u] from (mt.out.trans e).trans e2)
          have PB := SO.out rfl
          subst PB
          subst e2
          clear e
          go_upto_region 9 with fail
          have LX := Lib.hid (show Lq.Lv w (((V2.setCell ⟨s5, 0, none⟩ (.bool true)).setCell ⟨s5, 1, none⟩ (.slice A2 n2 c2)).alloc (.cells #[.bool true, .slice A2 n2 c2] 24)) s5 true (L ++ [u]) A2 n2 c2 from (O2.out.q.put (b2 := true) R2.out h2 N3.out NW.out sz OM.out.q.kept).old ((Kept.refl _ _).alloc _))
          have OX := Lib.hid (show OwI (((V2.setCell ⟨s5, 0, none⟩ (.bool true)).setCell ⟨s5, 1, none⟩ (.slice A2 n2 c2)).alloc (.cells #[.bool true, .slice A2 n2 c2] 24)) w.heap.size v n L from (O2.out.o.kept (Lq.put2_kept V2 s5 (.bool true) (.slice A2 n2 c2)) (fun g e x => (OM.out.ne g e).1 x)).alloc _)
          have dX : (((V2.setCell ⟨s5, 0, none⟩ (.bool true)).setCell ⟨s5, 1, none⟩ (.slice A2 n2 c2)).alloc (.cells #[.bool true, .slice A2 n2 c2] 24)).cell? ⟨g, o + k, none⟩ = some (.int .u8 u) := (LX.out.kept.cell hgw (fun x => x)).trans ((O2.out.q.kept.cell hgw (fun x => x)).symm.trans d0)
          have dY := cell_on ((Kept.refl Old (((V2.setCell ⟨s5, 0, none⟩ (.bool true)).setCell ⟨s5, 1, none⟩ (.slice A2 n2 c2)).alloc (.cells #[.bool true, .slice A2 n2 c2] 24))).alloc (.cells #[.int .i64 u] 3)) dX
          have zX := Lib.hid (LX.out.kept.size)
          have szX : g < (((V2.setCell ⟨s5, 0, none⟩ (.bool true)).setCell ⟨s5, 1, none⟩ (.slice A2 n2 c2)).alloc (.cells #[.bool true, .slice A2 n2 c2] 24)).heap.size := by have := zX.out; omega
          clear d0 x0 x1 f0 f1
          generalize ((V2.setCell ⟨s5, 0, none⟩ (.bool true)).setCell ⟨s5, 1, none⟩ (.slice A2 n2 c2)).alloc (.cells #[.bool true, .slice A2 n2 c2] 24) = Y at *
          go_wp2_with (first
            | (at_builtin; refine app_wpI rfl (.tmp 42) (.tmp 48) rfl rfl w.heap.size v n L rfl (OX.out.alloc _) (some ⟨Y.heap.size, 0, none⟩) 1 1 [u] rfl (RsI.one Y u ⟨by omega, by omega⟩ _ rfl) (by intro h; cases h) (by omega) (by omega) (Nat.le_trans zX.out ((Kept.refl Old Y).alloc _).size) (n + 1) rfl (L ++ [u]) rfl ?_; intro v4 w4 O4 k4 a4))
          refine ⟨⟨k + 1, n2, c2, A2, v4, by omega, by omega, rfl, by go_num, Lib.hid ?_⟩, ?_⟩
          · rw [ME.out]
            exact OM.out.next (LX.out.old ((Kept.refl Old Y).alloc _)) O4.out k4.out (a4.out.imp id fun e => ⟨_, e, Nat.le_refl _⟩) (fun ad e => by have := NW.out ad e; omega)
          · simp [intOf]; omega
        · have q1 : (C == 0) = false := beq_eq_false_iff_ne.2 q
          have ME := Lib.hid (show Lq.makeL [] (ps.take (k + 1)) = L from mt.out.trans e)
          clear e q
          go_wp2
          refine ⟨⟨k + 1, n, c, A, v, by omega, by omega, rfl, by go_num, Lib.hid ?_⟩, ?_⟩
          · rw [ME.out]
            exact ⟨O2.out.q.old ((Kept.refl _ _).alloc _), O2.out.o.alloc _, OM.out.ne⟩
          · simp [intOf]; omega
      · have x0 := O2.out.q.box.c0
        have x1 := O2.out.q.box.c1
        have f0 := O2.out.q.box.f0
        have f1 := O2.out.q.box.f1
        have s2 := O2.out.q.box.lt
        have d0 := cell_on k3 d0
        have g2 : g < V2.heap.size := by omega
        rcases SW.out with ⟨q, e⟩ | ⟨q, e⟩
        · subst q
          have e2 := PK.out rfl
          have ME := Lib.hid (show Lq.makeL [] (ps.take (k + 1)) = L ++ [u] from (mt.out.trans e).trans e2)
          have PB := SO.out rfl
          subst PB
          subst e2
          clear e
          go_upto_region 9 with fail
          have LX := Lib.hid (show Lq.Lv w ((((V2.setCell ⟨V.heap.size, 0, none⟩ (.bool true)).setCell ⟨V.heap.size, 1, none⟩ (.slice A2 n2 c2)).setCell ⟨s5, 0, none⟩ (.bool true)).setCell ⟨s5, 1, none⟩ (.slice A2 n2 c2)) s5 true (L ++ [u]) A2 n2 c2 from (O2.out.q.far (Lq.put2_kept V2 V.heap.size (.bool true) (.slice A2 n2 c2)) (fun i e => by have e : i = V.heap.size := e; subst e; exact ⟨by have := OM.out.q.kept.size; omega, by omega, fun n0 ad e2 => by have := Lq.rs_lt OM.out.q.rs n0 e2; omega⟩)).put (b2 := true) (R2.out.kept (Lq.put2_kept V2 V.heap.size (.bool true) (.slice A2 n2 c2)) (fun ad e x => by have x : ad.block = V.heap.size := x; have := NW.out ad e; omega)) h2 N3.out (W1 := V) (fun ad e => by have := NW.out ad e; omega) sz OM.out.q.kept)
          have OX := Lib.hid (show OwI ((((V2.setCell ⟨V.heap.size, 0, none⟩ (.bool true)).setCell ⟨V.heap.size, 1, none⟩ (.slice A2 n2 c2)).setCell ⟨s5, 0, none⟩ (.bool true)).setCell ⟨s5, 1, none⟩ (.slice A2 n2 c2)) w.heap.size v n L from (O2.out.o.kept (Lq.put2_kept V2 V.heap.size (.bool true) (.slice A2 n2 c2)) (fun g e x => by have x : g = V.heap.size := x; have := OM.out.lt e; omega)).kept (Lq.put2_kept _ s5 (.bool true) (.slice A2 n2 c2)) (fun g e x => (OM.out.ne g e).1 x))
          have dX : ((((V2.setCell ⟨V.heap.size, 0, none⟩ (.bool true)).setCell ⟨V.heap.size, 1, none⟩ (.slice A2 n2 c2)).setCell ⟨s5, 0, none⟩ (.bool true)).setCell ⟨s5, 1, none⟩ (.slice A2 n2 c2)).cell? ⟨g, o + k, none⟩ = some (.int .u8 u) := (LX.out.kept.cell hgw (fun x => x)).trans ((O2.out.q.kept.cell hgw (fun x => x)).symm.trans d0)
          have dY := cell_on ((Kept.refl Old ((((V2.setCell ⟨V.heap.size, 0, none⟩ (.bool true)).setCell ⟨V.heap.size, 1, none⟩ (.slice A2 n2 c2)).setCell ⟨s5, 0, none⟩ (.bool true)).setCell ⟨s5, 1, none⟩ (.slice A2 n2 c2))).alloc (.cells #[.int .i64 u] 3)) dX
          have zX := Lib.hid (LX.out.kept.size)
          have szX : g < ((((V2.setCell ⟨V.heap.size, 0, none⟩ (.bool true)).setCell ⟨V.heap.size, 1, none⟩ (.slice A2 n2 c2)).setCell ⟨s5, 0, none⟩ (.bool true)).setCell ⟨s5, 1, none⟩ (.slice A2 n2 c2)).heap.size := by have := zX.out; omega
          clear d0 x0 x1 f0 f1
          generalize (((V2.setCell ⟨V.heap.size, 0, none⟩ (.bool true)).setCell ⟨V.heap.size, 1, none⟩ (.slice A2 n2 c2)).setCell ⟨s5, 0, none⟩ (.bool true)).setCell ⟨s5, 1, none⟩ (.slice A2 n2 c2) = Y at *
          go_wp2_with (first
            | (at_builtin; refine app_wpI rfl (.tmp 42) (.tmp 48) rfl rfl w.heap.size v n L rfl (OX.out.alloc _) (some ⟨Y.heap.size, 0, none⟩) 1 1 [u] rfl (RsI.one Y u ⟨by omega, by omega⟩ _ rfl) (by intro h; cases h) (by omega) (by omega) (Nat.le_trans zX.out ((Kept.refl Old Y).alloc _).size) (n + 1) rfl (L ++ [u]) rfl ?_; intro v4 w4 O4 k4 a4))
          refine ⟨⟨k + 1, n2, c2, A2, v4, by omega, by omega, rfl, by go_num, Lib.hid ?_⟩, ?_⟩
          · rw [ME.out]
            exact OM.out.next (LX.out.old ((Kept.refl Old Y).alloc _)) O4.out k4.out (a4.out.imp id fun e => ⟨_, e, Nat.le_refl _⟩) (fun ad e => by have := NW.out ad e; omega)
          · simp [intOf]; omega
        · have q1 : (C == 0) = false := beq_eq_false_iff_ne.2 q
          have ME := Lib.hid (show Lq.makeL [] (ps.take (k + 1)) = L from mt.out.trans e)
          clear e q
          go_wp2
          refine ⟨⟨k + 1, n, c, A, v, by omega, by omega, rfl, by go_num, Lib.hid ?_⟩, ?_⟩
          · rw [ME.out]
            exact ⟨(O2.out.q.far (Lq.put2_kept V2 V.heap.size (.bool pb) (.slice A2 n2 c2)) (fun i e => by have e : i = V.heap.size := e; subst e; exact ⟨by have := OM.out.q.kept.size; omega, by omega, fun n0 ad e2 => by have := Lq.rs_lt OM.out.q.rs n0 e2; omega⟩)), (O2.out.o.kept (Lq.put2_kept V2 V.heap.size (.bool pb) (.slice A2 n2 c2)) (fun g e x => by have x : g = V.heap.size := x; have := OM.out.lt e; omega)), OM.out.ne⟩
          · simp [intOf]; omega
    · have dd : ¬ (k : Int) < (len0 : Int) ∨ ((k : Int) < (len0 : Int) ∧ ¬ (k : Int) < 200) := by omega
      clear d
      generalize Lq.makeL [] (ps.take k) = L at *
      have f0 := OM.out.q.box.f0
      have f1 := OM.out.q.box.f1
      obtain ⟨A6, c6, rfl, RC, h6c, h6n⟩ := OM.out.o.rs
      have N6 := Lib.hid (show 0 < n → ∀ ad, A6 = some ad → ad.block ≠ s5 from fun _ ad e => by subst e; exact (OM.out.ne ad.block rfl).1)
      have RC := Lib.hid RC
      have LV := Lib.hid OM.out.q
      have HN := Lib.hid OM.out.o.len
      clear OM h6n
      have C1 := Lib.hid (fun W (q : Kept Old V W) => Lq.lset_any true A n c L false W (LV.out.rs.old q) (by omega) (Lq.nn LV.out.cap LV.out.nil))
      rcases dd with d | ⟨d, d2⟩
      all_goals
        cases a1 with
        | true =>
          go_wp2_with fail
          refine (C1.out _ (Kept.refl Old V)).mono ?_
          rintro e V2 ⟨v, rfl, A2, n2, c2, rfl, R2, h2, h3, k3⟩
          have L2 := Lib.hid (LV.out.old k3)
          have x0 := L2.out.box.c0
          have x1 := L2.out.box.c1
          have f0 := L2.out.box.f0
          have f1 := L2.out.box.f1
          have kk := Lq.put2_kept V2 s5 (.bool false) (.slice A2 n2 c2)
          have LV := Lib.hid (L2.out.put (b2 := false) R2 h2 h3.1 h3.2 sz LV.out.kept)
          have RC := Lib.hid (Lq.rs_kept (RC.out.old k3) kk (fun n0 ad e x => N6.out n0 ad e x))
          obtain rfl : n = n2 := by have := R2.len; have := HN.out; omega
          clear kk k3 R2 h3 L2
          go_upto_region 12 with fail
          clear x0 x1 f0 f1
          generalize (V2.setCell ⟨s5, 0, none⟩ (.bool false)).setCell ⟨s5, 1, none⟩ (.slice A2 n c2) = V3 at *
          have LW := Lib.hid (show ∃ (n' c' : Nat) (A' : Option Addr), Lq.Lv w V3 s5 false (L.drop 0) A' n' c' from ⟨_, _, _, LV.out⟩)
          clear LV C1
          go_wp2_with fail
          go_loopw [10] (fun i wr => ∃ (j n' c' : Nat) (A' : Option Addr), j ≤ n ∧ i = .int .i64 (j : Int) ∧ Hid (Lq.Lv w wr s5 false (L.drop j) A' n' c') ∧ Hid (RsI wr A6 n L)) (fun i _ => n - (intOf i).toNat)
          case atStart =>
            obtain ⟨n', c', A', q⟩ := LW.out
            exact ⟨0, n', c', A', by omega, rfl, Lib.hid q, RC⟩
          case round =>
            obtain ⟨j, n', c', A', hj, rfl, LJ, RJ⟩ := hrel
            rename World => W
            clear RC LW sz
            have hlen := LJ.out.rs.len
            rw [List.length_drop, HN.out] at hlen
            obtain rfl : n - j = n' := hlen
            have x0 := LJ.out.box.c0
            have x1 := LJ.out.box.c1
            have sz := LJ.out.box.lt
            have AJ := Lib.hid (apart_drop AP.out j)
            by_cases dj : j < n
            · obtain ⟨g, o, x, rfl, hg, hx, _, cx⟩ := RJ.out.get dj
              have hd : L.drop j = x :: L.drop (j + 1) := by
                obtain ⟨hj', rfl⟩ := List.getElem?_eq_some_iff.1 hx
                exact List.drop_eq_getElem_cons hj'
              have RX := Lib.hid LJ.out.rs
              rw [hd] at RX AJ
              have nj : n - j = n - (j + 1) + 1 := by omega
              rw [nj] at RX x1
              have N1 := Lib.hid (fun W' (q : Kept Old W W') => Lq.lnext_some false A' (n - (j + 1)) c' x (L.drop (j + 1)) W' (RX.out.old q) (by omega) (by have := LJ.out.cap; omega))
              have H1 := Lib.hid (fun W' (q : Kept Old W W') => Lq.lhas_lit (l := x :: L.drop (j + 1)) (p := x) (B := true) (by simp) false A' (n - (j + 1) + 1) c' W' (RX.out.old q) (by omega))
              have H2 := Lib.hid (fun (A2 : Option Addr) (c2 : Nat) W' (h : RsI W' A2 (n - (j + 1)) (L.drop (j + 1))) => Lq.lhas_lit (l := L.drop (j + 1)) (p := x) (B := false) (decide_eq_false AJ.out.notin) false A2 (n - (j + 1)) c2 W' h (by omega))
              clear hd hx nj
              have jj : ((j + 1 : Nat) : Int) = (j : Int) + 1 := by omega
              have jj := Lib.hid jj
              obtain ⟨m, hm⟩ : ∃ m, n - (j + 1) = m := ⟨_, rfl⟩
              rw [hm] at N1 H1 H2 x1 RX
              have hm := Lib.hid hm
              go_wp2_with fail
              refine (N1.out _ (Kept.refl Old W)).mono ?_
              rintro e W2 ⟨v, rfl, A2, n2, c2, rfl, R2, h2, h3, k2⟩
              obtain rfl : m = n2 := by have := R2.len; have q := hm.out; rw [List.length_drop, HN.out] at this; omega
              have z2 := (Kept.refl Old W2).alloc (.cells #[.bool false, .slice A2 m c2] 24)
              have K3 := Lib.hid (k2.trans z2)
              have B2 := Lib.hid (Lq.Bq.new W2 false (.slice A2 m c2))
              have R2 := Lib.hid (R2.old z2)
              have NW := Lib.hid h3.2
              have N3 := Lib.hid h3.1
              have cx := cell_on K3.out cx
              have hz := Lib.hid (Nat.lt_of_lt_of_le sz k2.size)
              have x0 := cell_on K3.out x0
              have x1 := cell_on K3.out x1
              have hg2 : g < W2.heap.size := Nat.lt_of_lt_of_le hg k2.size
              have hs2 : s5 < W2.heap.size := hz.out
              clear k2 z2 h3
              go_wp2_with fail
              generalize hs7 : W2.heap.size = s7 at *
              generalize W2.alloc (.cells #[.bool false, .slice A2 m c2] 24) = W3 at *
              refine (H1.out _ K3.out).mono ?_
              rintro e W4 ⟨rfl, k4⟩
              have K4 := Lib.hid (K3.out.trans k4)
              have R4 := Lib.hid (R2.out.old k4)
              have B4 := Lib.hid (B2.out.old k4)
              have y0 := B4.out.c0
              have y1 := B4.out.c1
              clear k4 x0 x1 cx
              go_wp2_with fail
              refine (H2.out A2 c2 _ R4.out).mono ?_
              rintro e W5 ⟨rfl, k5⟩
              have K5 := Lib.hid (K4.out.trans k5)
              have R5 := Lib.hid (R4.out.old k5)
              have B5 := Lib.hid (B4.out.old k5)
              have y0 := B5.out.c0
              have y1 := B5.out.c1
              have L5 := Lib.hid (LJ.out.old K5.out)
              have x0 := L5.out.box.c0
              have x1 := L5.out.box.c1
              have f0 := L5.out.box.f0
              have f1 := L5.out.box.f1
              clear k5
              go_wp2_with fail
              refine ⟨⟨j + 1, m, c2, A2, by omega, by go_num, Lib.hid ?_, Lib.hid ?_⟩, ?_⟩
              · exact L5.out.put (b2 := false) R5.out h2 N3.out NW.out sz LJ.out.kept
              · exact Lq.rs_kept (RJ.out.old K5.out) (Lq.put2_kept W5 s5 (.bool false) (.slice A2 m c2)) (fun n0 ad e x => N6.out n0 ad e x)
              · simp [intOf]; omega
            · obtain rfl : j = n := by omega
              rw [Nat.sub_self] at x1
              go_wp2_with fail
              refine (Lq.lnext_none false A' c' _).mono ?_
              rintro e W2 ⟨v, rfl, A2, n2, c2, rfl, _, _, _, k2⟩
              go_wp2_with fail
              refine (Lq.awake_any _).mono ?_
              rintro e W3 ⟨rfl, k3⟩
              go_wp2_with fail
              go_ret
              exact ⟨rfl, ((LJ.out.kept.trans k2).alloc _).trans k3⟩
        | false =>
          go_upto_region 12 with fail
          clear x0 x1 f0 f1
          have LW := Lib.hid (show ∃ (n' c' : Nat) (A' : Option Addr), Lq.Lv w V s5 true (L.drop 0) A' n' c' from ⟨_, _, _, LV.out⟩)
          clear LV C1
          go_wp2_with fail
          go_loopw [10] (fun i wr => ∃ (j n' c' : Nat) (A' : Option Addr), j ≤ n ∧ i = .int .i64 (j : Int) ∧ Hid (Lq.Lv w wr s5 true (L.drop j) A' n' c') ∧ Hid (RsI wr A6 n L)) (fun i _ => n - (intOf i).toNat)
          case atStart =>
            obtain ⟨n', c', A', q⟩ := LW.out
            exact ⟨0, n', c', A', by omega, rfl, Lib.hid q, RC⟩
          case round =>
            obtain ⟨j, n', c', A', hj, rfl, LJ, RJ⟩ := hrel
            rename World => W
            clear RC LW sz
            have hlen := LJ.out.rs.len
            rw [List.length_drop, HN.out] at hlen
            obtain rfl : n - j = n' := hlen
            have x0 := LJ.out.box.c0
            have x1 := LJ.out.box.c1
            have sz := LJ.out.box.lt
            have AJ := Lib.hid (apart_drop AP.out j)
            by_cases dj : j < n
            · obtain ⟨g, o, x, rfl, hg, hx, _, cx⟩ := RJ.out.get dj
              have hd : L.drop j = x :: L.drop (j + 1) := by
                obtain ⟨hj', rfl⟩ := List.getElem?_eq_some_iff.1 hx
                exact List.drop_eq_getElem_cons hj'
              have RX := Lib.hid LJ.out.rs
              rw [hd] at RX AJ
              have nj : n - j = n - (j + 1) + 1 := by omega
              rw [nj] at RX x1
              have N1 := Lib.hid (fun W' (q : Kept Old W W') => Lq.lnext_some true A' (n - (j + 1)) c' x (L.drop (j + 1)) W' (RX.out.old q) (by omega) (by have := LJ.out.cap; omega))
              have H1 := Lib.hid (fun W' (q : Kept Old W W') => Lq.lhas_lit (l := x :: L.drop (j + 1)) (p := x) (B := true) (by simp) true A' (n - (j + 1) + 1) c' W' (RX.out.old q) (by omega))
              have H2 := Lib.hid (fun (A2 : Option Addr) (c2 : Nat) W' (h : RsI W' A2 (n - (j + 1)) (L.drop (j + 1))) => Lq.lhas_lit (l := L.drop (j + 1)) (p := x) (B := false) (decide_eq_false AJ.out.notin) true A2 (n - (j + 1)) c2 W' h (by omega))
              clear hd hx nj
              have jj : ((j + 1 : Nat) : Int) = (j : Int) + 1 := by omega
              have jj := Lib.hid jj
              obtain ⟨m, hm⟩ : ∃ m, n - (j + 1) = m := ⟨_, rfl⟩
              rw [hm] at N1 H1 H2 x1 RX
              have hm := Lib.hid hm
              go_wp2_with fail
              refine (N1.out _ (Kept.refl Old W)).mono ?_
              rintro e W2 ⟨v, rfl, A2, n2, c2, rfl, R2, h2, h3, k2⟩
              obtain rfl : m = n2 := by have := R2.len; have q := hm.out; rw [List.length_drop, HN.out] at this; omega
              have z2 := (Kept.refl Old W2).alloc (.cells #[.bool true, .slice A2 m c2] 24)
              have K3 := Lib.hid (k2.trans z2)
              have B2 := Lib.hid (Lq.Bq.new W2 true (.slice A2 m c2))
              have R2 := Lib.hid (R2.old z2)
              have NW := Lib.hid h3.2
              have N3 := Lib.hid h3.1
              have cx := cell_on K3.out cx
              have hz := Lib.hid (Nat.lt_of_lt_of_le sz k2.size)
              have x0 := cell_on K3.out x0
              have x1 := cell_on K3.out x1
              have hg2 : g < W2.heap.size := Nat.lt_of_lt_of_le hg k2.size
              have hs2 : s5 < W2.heap.size := hz.out
              clear k2 z2 h3
              go_wp2_with fail
              generalize hs7 : W2.heap.size = s7 at *
              generalize W2.alloc (.cells #[.bool true, .slice A2 m c2] 24) = W3 at *
              refine (H1.out _ K3.out).mono ?_
              rintro e W4 ⟨rfl, k4⟩
              have K4 := Lib.hid (K3.out.trans k4)
              have R4 := Lib.hid (R2.out.old k4)
              have B4 := Lib.hid (B2.out.old k4)
              have y0 := B4.out.c0
              have y1 := B4.out.c1
              clear k4 x0 x1 cx
              go_wp2_with fail
              refine (H2.out A2 c2 _ R4.out).mono ?_
              rintro e W5 ⟨rfl, k5⟩
              have K5 := Lib.hid (K4.out.trans k5)
              have R5 := Lib.hid (R4.out.old k5)
              have B5 := Lib.hid (B4.out.old k5)
              have y0 := B5.out.c0
              have y1 := B5.out.c1
              have L5 := Lib.hid (LJ.out.old K5.out)
              have x0 := L5.out.box.c0
              have x1 := L5.out.box.c1
              have f0 := L5.out.box.f0
              have f1 := L5.out.box.f1
              clear k5
              go_wp2_with fail
              refine ⟨⟨j + 1, m, c2, A2, by omega, by go_num, Lib.hid ?_, Lib.hid ?_⟩, ?_⟩
              · exact L5.out.put (b2 := true) R5.out h2 N3.out NW.out sz LJ.out.kept
              · exact Lq.rs_kept (RJ.out.old K5.out) (Lq.put2_kept W5 s5 (.bool true) (.slice A2 m c2)) (fun n0 ad e x => N6.out n0 ad e x)
              · simp [intOf]; omega
            · obtain rfl : j = n := by omega
              rw [Nat.sub_self] at x1
              go_wp2_with fail
              refine (Lq.lnext_none true A' c' _).mono ?_
              rintro e W2 ⟨v, rfl, A2, n2, c2, rfl, _, _, _, k2⟩
              go_wp2_with fail
              refine (Lq.awake_any _).mono ?_
              rintro e W3 ⟨rfl, k3⟩
              go_wp2_with fail
              go_ret
              exact ⟨rfl, ((LJ.out.kept.trans k2).alloc _).trans k3⟩

/-- The row's step. -/
theorem lifted (os : Os) (started : os.Started) (H : Type) (enc : TypeId × Value → H) :
    ReturnsInHanded {} Try.checked os 4 .any (Rows.lateOrderSpec.pre6 enc Try.prog Try.f4 Rows.lateOrderRow.domain false) (Rows.lateOrderSpec.post enc Try.prog Try.f4 false true false false) := by
  refine returnsInHanded_of_change (C := Try.checked) own started (by kernel_rfl) Try.func4
    (ChangeSpec.witness6 (enc := enc) (C := Try.checked) false ⟨#[], #[.slice none 0 0, .bool false], []⟩ 8 (by kernel_rfl) (by kernel_rfl) (by kernel_rfl) (by kernel_rfl)) ?_
  intro W base args ds gs before hval0 hW hcnd _
  have hval : ∀ (j : Nat) t v, Try.f4.params[j]? = some t → args[j]? = some v → Value.okWide Try.prog W .any base t v := hval0
  have hW' := hW
  obtain ⟨p, q, hA0, hV, rfl, hfz, hnd⟩ := hW
  have hA : DataW.TrodAll enc Try.prog W 0 (fun _ => true) true Try.f4.params.toList args.toList ds p := hA0
  rw [Try.params4] at hA hval
  obtain ⟨v0, vs0, d0, ds0, p0, q0, hargs, rfl, rfl, h0, r0⟩ := trodAll_cons hA
  obtain ⟨v1, vs1, d1, ds1, p1, q1, rfl, rfl, rfl, h1, r1⟩ := trodAll_cons r0
  obtain ⟨rfl, rfl, rfl⟩ := trodAll_nil r1
  obtain rfl : args = #[v0, v1] := by cases args; simp_all
  obtain ⟨rfl, rfl⟩ := trodVars_none hV
  have k0 := h0
  have lt0 : ∀ x ∈ p0, x.block < W.heap.size := by obtain ⟨m, hm⟩ := k0; exact DataW.trod_lt m _ _ _ hm
  obtain ⟨a0, len0, cap0, rfl⟩ := okWide_slice Try.underlying28 (hval 0 28 v0 rfl rfl)
  obtain ⟨z0, w0⟩ := ints_in Try.underlying28 Try.underlying5 (by kernel_rfl) h0
  obtain ⟨a1, rfl, rfl, rfl⟩ := open_bool Try.underlying4 (hval 1 4 v1 rfl rfl) h1
  clear hA0 hval0
  refine (walk a0 len0 cap0 z0 a1 W w0).mono fun e W' ⟨he, kept⟩ => ?_
  subst he
  have bel : Below W.heap.size W W' := kept.toBelow (Nat.le_refl _) (fun _ x => x.elim)
  exact ⟨_, rfl, _, _, _, [], _, [], hW', trodAll_mk1 (shut_bool Try.underlying4 _), (trodAll_cons_mk (Below.trod laidOut (by kernel_rfl) (of_decide_eq_true (by kernel_rfl)) k0 bel lt0) (trodAll_cons_mk (shut_bool Try.underlying4 _) trodAll_mk0)), rfl, bel.frame _, fun h => by cases h⟩

theorem over : Rows.LateOrderSaid :=
  OpenClaim.holds_of_wide 4 Try.f4 rfl rfl rfl rfl rfl rfl rfl ⟨rfl, rfl, rfl, rfl, rfl⟩ rfl rfl rfl rfl rfl (by kernel_rfl) Try.func4 (by kernel_rfl)
    (of_decide_eq_true (by kernel_rfl)) (by unfold Func.isWrapper; first | (rw [if_pos (by decide +kernel)]; kernel_rfl) | (rw [if_neg (by decide +kernel)]; exact ⟨rfl, rfl⟩))
    (fun os started H enc _ => lifted os started H enc)

/-- The statement. -/
theorem proved : Rows.LateOrderSaid := over
#print axioms proved
end Go.Proofs.Ytjchdkjncfjibaa.lateOrder
