/-
  A queue in a variable that grows (Lv); the law's own Made. Own work; proved by a walk through the landed text.
-/
import Derived.Test.YtjchdkjncfjibaaRows
import Derived.Test.YtjchdkjncfjibaaLateLaw
import Derived.WalkKit
import Derived.ProofKit
import Derived.OpenShut
import Derived.Outline
import Derived.Deep.Light
import Derived.Deep.QuietTactic
import Derived.BigQuiet
import Derived.IntWalk
import Derived.StillTailTactics
import Derived.RegionTactic
import Derived.Deep.RegionLaw
import Derived.Deep.RegionHeld3
namespace Go.Proofs.Ytjchdkjncfjibaa.Lq
open Go.ChangeShapes Go.WideShapes Go.ChangeAt Go.RowKit
set_option maxRecDepth 100000

theorem rs_kept {D : Nat → Prop} {w w' : World} {A : Option Addr} {n : Nat} {l : List Int} (h : RsI w A n l) (k : Kept D w w') (hd : 0 < n → ∀ ad, A = some ad → ¬ D ad.block) : RsI w' A n l :=
  ⟨h.len, h.fit, fun hn => (h.kept k (hd hn)).lies hn⟩
theorem rs_lt {w : World} {A : Option Addr} {n : Nat} {l : List Int} (h : RsI w A n l) (hn : 0 < n) {ad : Addr} (e : A = some ad) : ad.block < w.heap.size := by
  obtain ⟨g, o, e2, hg, _⟩ := h.lies hn
  rw [e2] at e
  injection e with e
  subst e
  exact hg
theorem bq_ne {W : World} {b : Nat} {on : Bool} {A' A : Option Addr} {n' c' n : Nat} {L : List Int} (h : Bq W b on (.slice A' n' c')) (r : RsI W A n L) (n0 : 0 < n) {ad : Addr} (e : A = some ad) : ad.block ≠ b := by
  intro eb
  obtain ⟨g, o, x, e2, _, _, _, cx⟩ := r.get (k := 0) n0
  rw [e] at e2
  injection e2 with e2
  subst e2
  have eb : g = b := eb
  subst eb
  have q := Blk.cell h (o + 0)
  rw [cx] at q
  match o, q with
  | 0, q => cases q
  | 1, q => cases q
  | o + 2, q => cases q
/-- Block s holds a queue whose pages are those of L; its slice is no block of what was there. -/
structure Lv (w W : World) (s : Nat) (b : Bool) (L : List Int) (A : Option Addr) (n c : Nat) : Prop where
  box : Bq W s b (.slice A n c)
  rs : RsI W A n L
  cap : n ≤ c
  nil : A = none → c = 0
  new : 0 < n → ∀ ad, A = some ad → w.heap.size ≤ ad.block ∧ ad.block ≠ s
  kept : Kept Old w W
  low : w.heap.size ≤ s
theorem Lv.old {w W W' : World} {s : Nat} {b : Bool} {L : List Int} {A : Option Addr} {n c : Nat} (h : Lv w W s b L A n c) (k : Kept Old W W') : Lv w W' s b L A n c :=
  ⟨h.box.old k, h.rs.old k, h.cap, h.nil, h.new, h.kept.trans k, h.low⟩
/-- What turns is new, and neither the queue's struct nor its slice. -/
theorem Lv.far {w W W' : World} {s : Nat} {b : Bool} {L : List Int} {A : Option Addr} {n c : Nat} {D : Nat → Prop} (h : Lv w W s b L A n c) (k : Kept D W W') (hd : ∀ i, D i → w.heap.size ≤ i ∧ i ≠ s ∧ (0 < n → ∀ ad, A = some ad → ad.block ≠ i)) : Lv w W' s b L A n c :=
  ⟨Blk.kept h.box k (fun e => (hd _ e).2.1 rfl), rs_kept h.rs k (fun n0 ad e x => (hd _ x).2.2 n0 ad e rfl), h.cap, h.nil, h.new, h.kept.join k (fun i hi e => by have := (hd i e).1; omega), h.low⟩
theorem Lv.start {w W1 W : World} {b : Bool} {L : List Int} {A : Option Addr} {n c : Nat} (r : RsI W A n L) (h2 : n ≤ c) (h3 : A = none → c = 0) (h4 : ∀ ad, A = some ad → W1.heap.size ≤ ad.block) (K : Kept Old W1 W) (k : Kept Old w W1) : Lv w (W.alloc (.cells #[.bool b, .slice A n c] 24)) W.heap.size b L A n c := by
  refine ⟨Bq.new W b _, r.old ((Kept.refl Old W).alloc _), h2, h3, fun n0 ad e => ?_, (k.trans K).alloc _, (k.trans K).size⟩
  have q := h4 ad e
  have := k.size
  have := rs_lt r n0 e
  exact ⟨by omega, by omega⟩
/-- Another queue, new since W1, is stored there. -/
theorem Lv.put {w W1 W : World} {s : Nat} {b b2 : Bool} {L L2 : List Int} {A A2 : Option Addr} {n c n2 c2 : Nat} (h : Lv w W s b L A n c) (r : RsI W A2 n2 L2) (hc : n2 ≤ c2) (hA : A2 = none → c2 = 0) (new : ∀ ad, A2 = some ad → W1.heap.size ≤ ad.block) (hs : s < W1.heap.size) (k : Kept Old w W1) :
    Lv w ((W.setCell ⟨s, 0, none⟩ (.bool b2)).setCell ⟨s, 1, none⟩ (.slice A2 n2 c2)) s b2 L2 A2 n2 c2 := by
  have kk := put2_kept W s (.bool b2) (.slice A2 n2 c2)
  refine ⟨h.box.put2 _ _, r.kept kk (fun ad e x => ?_), hc, hA, fun _ ad e => ?_, h.kept.join kk (fun i hi e => ?_), h.low⟩
  · have := new ad e
    have x : ad.block = s := x
    omega
  · have := new ad e
    have := k.size
    exact ⟨by omega, by omega⟩
  · have e : i = s := e
    have := h.low
    omega
/-- The phase alone is set. -/
theorem Lv.flip {w W : World} {s : Nat} {b : Bool} {L : List Int} {A : Option Addr} {n c : Nat} (h : Lv w W s b L A n c) (b2 : Bool) : Lv w (W.setCell ⟨s, 0, none⟩ (.bool b2)) s b2 L A n c := by
  have kk := only_setCell W s 0 (.bool b2)
  refine ⟨Blk.put h.box 0 (.bool b2), rs_kept h.rs kk (fun n0 ad e x => (h.new n0 ad e).2 x), h.cap, h.nil, h.new, h.kept.join kk (fun i hi e => ?_), h.low⟩
  have e : i = s := e
  have := h.low
  omega
theorem Lv.made {w W : World} {s : Nat} {b : Bool} {L : List Int} {A : Option Addr} {n c : Nat} (h : Lv w W s b L A n c) (hn : ∀ ad, A = some ad → w.heap.size ≤ ad.block) : MadeI L w (.slice A n c) W := ⟨A, n, c, rfl, h.rs, h.cap, ⟨h.nil, hn⟩, h.kept⟩

/-! ### Made -/
def pagesN (z : Nat → Int) (len : Nat) : List Int := (List.range len).map z
theorem pages_get {z : Nat → Int} {len k : Nat} (h : k < len) : (pagesN z len)[k]? = some (z k) := by
  unfold pagesN
  rw [List.getElem?_map, List.getElem?_range h]
  rfl
theorem pages_length (z : Nat → Int) (len : Nat) : (pagesN z len).length = len := by simp [pagesN]
def MadePost (b : Bool) (L : List Int) (w : World) (e : Ending) (w' : World) : Prop := ∃ A n c, e = .returned (lt b A n c) ∧ RsI w' A n L ∧ n ≤ c ∧ (A = none → c = 0) ∧ (0 < n → ∀ ad, A = some ad → w.heap.size ≤ ad.block) ∧ Kept Old w w'
theorem step_ways (l : List Int) (p : Int) : (putC true l p = 0 ∧ stepL l p = putL true l p) ∨ (putC true l p ≠ 0 ∧ stepL l p = l) := by
  unfold stepL
  by_cases h : putC true l p = 0
  · exact .inl ⟨h, if_pos h⟩
  · exact .inr ⟨h, if_neg h⟩
theorem step_on {l : List Int} {p : Int} (h : putC true l p = 0) : putB true l p = true := by
  rcases put_ways true l p with ⟨_, e, _, q⟩ | ⟨_, _, e, _, q⟩ | ⟨_, _, _, e, _, q⟩ | ⟨_, _, _, e, _, q⟩ <;> first | exact q | (rw [e] at h; cases h)
set_option maxHeartbeats 4000000 in
theorem made_any (on : Bool) (A0 : Option Addr) (len cap : Nat) (z : Nat → Int) (w : World) (hl : len ≤ 9223372036854775807) (hz : ∀ i, i < len → 0 ≤ z i ∧ z i ≤ 255) (h : Sl w A0 1 len fun i _ => .int .u8 (z i)) :
    Calls Try.prog 15 #[.bool on, .slice A0 len cap] w (MadePost on (makeL [] (pagesN z len)) w) := by
  have HS := Lib.hid h
  have HZ := Lib.hid hz
  have HL := Lib.hid (pages_length z len)
  have HP := Lib.hid (fun k (hk : k < len) => pages_get (z := z) hk)
  clear h hz
  generalize pagesN z len = ps at *
  have K1 := Lib.hid ((Kept.refl Old w).alloc (.cells #[.bool false, .slice none 0 0] 24))
  have L0 := Lib.hid (Lv.start (b := true) (RsI.nil (w.alloc (.cells #[.bool false, .slice none 0 0] 24)) none) (Nat.le_refl 0) (fun _ => rfl) (fun ad e => by cases e) (Kept.refl _ _) K1.out)
  have B4 := Lib.hid ((Bq.new w false (.slice none 0 0)).alloc (.cells #[.bool true, .slice none 0 0] 24))
  rw [show (w.alloc (.cells #[.bool false, .slice none 0 0] 24)).heap.size = w.heap.size + 1 by simp] at L0
  go_enter Try.func15, Try.ntmps15
  go_wp2_with fail
  go_loopw [6] (fun i wr => ∃ (k n c : Nat) (A : Option Addr), k ≤ len ∧ i = .int .i64 (k : Int) ∧ Hid (Lv w wr (w.heap.size + 1) true (makeL [] (ps.take k)) A n c) ∧ Hid (Bq wr w.heap.size false (.slice none 0 0))) (fun i _ => len - (intOf i).toNat)
  case atStart => exact ⟨0, 0, 0, none, by omega, rfl, L0, B4⟩
  case round =>
    obtain ⟨k, n, c, A, hk, rfl, LV, BR⟩ := hrel
    rename World => V
    clear L0 B4
    have AP := Lib.hid (show Apart (makeL [] (ps.take k)) from Apart.make _ trivial)
    have nf : n ≤ 249 := by have := AP.out.few; have := LV.out.rs.len; omega
    have x0 := LV.out.box.c0
    have x1 := LV.out.box.c1
    have sz := LV.out.box.lt
    by_cases d : k < len
    · obtain ⟨g, o, rfl, hg, hc⟩ := (HS.out.old LV.out.kept).lies (by omega)
      have d0 := hc k 0 (by omega) (by omega)
      simp only [Nat.mul_one, Nat.add_zero] at d0
      have z0 := HZ.out k d
      have mt := Lib.hid (make_take (l := []) (HP.out k d))
      generalize z k = u at *
      generalize hLL : makeL [] (ps.take k) = L at *
      clear hLL hc
      have C1 := Lib.hid (fun W (q : Kept Old V W) => rput_any true A n c L u W (LV.out.rs.old q) AP.out.may ⟨by omega, by omega⟩ (by omega) (nn LV.out.cap LV.out.nil))
      have SW := Lib.hid (step_ways L u)
      have SO := Lib.hid (fun h => step_on (l := L) (p := u) h)
      generalize putB true L u = pb at *
      generalize putL true L u = L2 at *
      generalize putC true L u = C at *
      go_wp2_with fail
      have cd0 : World.cell? { heap := V.heap, tape := V.tape, drawn := V.drawn + 1, os := V.os, output := V.output } ⟨g, o + k, none⟩ = some (.int .u8 u) := d0
      have j0 : (k : Int) < (len : Int) := by omega
      have j4 : IntKind.i64.wrap u = u := IntWalk.i64_in _ (by omega)
      have z8 : (V.alloc (.cells #[.bool false, .slice none 0 0] 24)).heap.size = V.heap.size + 1 := by simp
      have Z8 := Lib.hid z8
      clear z8
      have s9 : w.heap.size + 1 ≠ V.heap.size := by omega
      have g9 : g ≠ V.heap.size := by omega
      have KA := Lib.hid (((Kept.refl Old V).alloc (.cells #[.bool false, .slice none 0 0] 24)).drew)
      go_region_held3 (fun w' => w'.cell? ⟨w.heap.size + 1, 0, none⟩ = some (.bool true) ∧ w'.cell? ⟨w.heap.size + 1, 1, none⟩ = some (.slice A n c) ∧ w'.cell? ⟨g, o + k, none⟩ = some (.int .u8 u))
        (first
          | (exact ⟨‹_›, ‹_›, ‹_›⟩)
          | (exact ⟨cell_on k3 x0, cell_on k3 x1, cell_on k3 d0⟩)
          | (exact ⟨cell_on KA.out x0, cell_on KA.out x1, cell_on KA.out d0⟩)
          | (exact ⟨cell_on (k3.alloc _) x0, cell_on (k3.alloc _) x1, cell_on (k3.alloc _) d0⟩)
          | (exact ⟨put_far (cell_on k3 x0) s9, put_far (cell_on k3 x1) s9, put_far (cell_on k3 d0) g9⟩)
          | go_keep)
        (first
          | (go_at_call 17; refine (C1.out _ (by first | exact Kept.refl Old V | exact (Kept.refl Old V).drew)).mono ?_; rintro e V2 ⟨v2, rfl, A2, n2, c2, rfl, R2, h2, h3, k2⟩; have k3 : Kept Old V V2 := (Kept.trans (by first | exact Kept.refl Old V | exact (Kept.refl Old V).drew) k2); have hz2 := k3.size; have NW := Lib.hid (show ∀ ad, A2 = some ad → V.heap.size ≤ ad.block from h3.2); have N3 := Lib.hid h3.1; have R2 := Lib.hid R2; have LV2 := Lib.hid (LV.out.old k3); have BR2 := Lib.hid (BR.out.old k3); clear k2 h3)
          | (go_at_call 17; go_loud (refine (C1.out _ (by first | exact (Kept.refl Old V).alloc (.cells #[.bool false, .slice none 0 0] 24) | exact ((Kept.refl Old V).alloc (.cells #[.bool false, .slice none 0 0] 24)).drew)).mono ?_; rintro e V2 ⟨v2, rfl, A2, n2, c2, rfl, R2, h2, h3, k2⟩; have k3 : Kept Old V V2 := (Kept.trans (by first | exact (Kept.refl Old V).alloc (.cells #[.bool false, .slice none 0 0] 24) | exact ((Kept.refl Old V).alloc (.cells #[.bool false, .slice none 0 0] 24)).drew) k2); have BX := Lib.hid (Bq.old (w' := V2) (show Bq _ V.heap.size false (.slice none 0 0) from Bq.new V false (.slice none 0 0)) ⟨k2.os, k2.tape, k2.output, k2.size, k2.block⟩); have y0 := BX.out.c0; have y1 := BX.out.c1; have g0 := BX.out.f0; have g1 := BX.out.f1; have hz2 := k3.size; have NW := Lib.hid (show ∀ ad, A2 = some ad → V.heap.size + 1 ≤ ad.block from fun ad e => Nat.le_trans (Nat.le_of_eq Z8.out.symm) (h3.2 ad e)); have N3 := Lib.hid h3.1; have R2 := Lib.hid R2; have LV2 := Lib.hid (LV.out.old k3); have BR2 := Lib.hid (BR.out.old k3); clear k2 h3)))
      · have x0 := LV2.out.box.c0
        have x1 := LV2.out.box.c1
        have f0 := LV2.out.box.f0
        have f1 := LV2.out.box.f1
        have s2 := LV2.out.box.lt
        rcases SW.out with ⟨q, e⟩ | ⟨q, e⟩
        · subst q
          have ME := Lib.hid (show makeL [] (ps.take (k + 1)) = L2 from mt.out.trans e)
          have PB := SO.out rfl
          subst PB
          clear e
          go_wp2
          refine ⟨⟨k + 1, n2, c2, A2, by omega, by go_num, Lib.hid ?_, Lib.hid ?_⟩, ?_⟩
          · rw [ME.out]
            exact (LV2.out.put (b2 := true) R2.out h2 N3.out NW.out sz LV.out.kept).old ((Kept.refl _ _).alloc _)
          · exact (Blk.kept BR2.out (put2_kept V2 (w.heap.size + 1) _ _) (fun e => by have e : w.heap.size = w.heap.size + 1 := e; omega)).alloc _
          · simp [intOf]; omega
        · have q1 : (C == 0) = false := beq_eq_false_iff_ne.2 q
          have ME := Lib.hid (show makeL [] (ps.take (k + 1)) = L from mt.out.trans e)
          clear e q
          go_wp2
          refine ⟨⟨k + 1, n, c, A, by omega, by go_num, Lib.hid ?_, Lib.hid ?_⟩, ?_⟩
          · rw [ME.out]
            exact LV2.out.old ((Kept.refl _ _).alloc _)
          · exact BR2.out.alloc _
          · simp [intOf]; omega
      · have x0 := LV2.out.box.c0
        have x1 := LV2.out.box.c1
        have f0 := LV2.out.box.f0
        have f1 := LV2.out.box.f1
        have s2 := LV2.out.box.lt
        rcases SW.out with ⟨q, e⟩ | ⟨q, e⟩
        · subst q
          have ME := Lib.hid (show makeL [] (ps.take (k + 1)) = L2 from mt.out.trans e)
          have PB := SO.out rfl
          subst PB
          clear e
          go_wp2
          refine ⟨⟨k + 1, n2, c2, A2, by omega, by go_num, Lib.hid ?_, Lib.hid ?_⟩, ?_⟩
          · rw [ME.out]
            exact (LV2.out.far (put2_kept V2 V.heap.size (.bool true) (.slice A2 n2 c2)) (fun i e => by have e : i = V.heap.size := e; subst e; exact ⟨by have := LV.out.kept.size; omega, by omega, fun n0 ad e2 => by have := rs_lt LV.out.rs n0 e2; omega⟩)).put (b2 := true) (R2.out.kept (put2_kept V2 V.heap.size (.bool true) (.slice A2 n2 c2)) (fun ad e x => by have x : ad.block = V.heap.size := x; have := NW.out ad e; omega)) h2 N3.out (W1 := V) (fun ad e => by have := NW.out ad e; omega) sz LV.out.kept
          · exact Blk.kept (Blk.kept BR2.out (put2_kept V2 V.heap.size (.bool true) (.slice A2 n2 c2)) (fun e => by have e : w.heap.size = V.heap.size := e; omega)) (put2_kept _ (w.heap.size + 1) (.bool true) (.slice A2 n2 c2)) (fun e => by have e : w.heap.size = w.heap.size + 1 := e; omega)
          · simp [intOf]; omega
        · have q1 : (C == 0) = false := beq_eq_false_iff_ne.2 q
          have ME := Lib.hid (show makeL [] (ps.take (k + 1)) = L from mt.out.trans e)
          clear e q
          go_wp2
          refine ⟨⟨k + 1, n, c, A, by omega, by go_num, Lib.hid ?_, Lib.hid ?_⟩, ?_⟩
          · rw [ME.out]
            exact (LV2.out.far (put2_kept V2 V.heap.size (.bool pb) (.slice A2 n2 c2)) (fun i e => by have e : i = V.heap.size := e; subst e; exact ⟨by have := LV.out.kept.size; omega, by omega, fun n0 ad e2 => by have := rs_lt LV.out.rs n0 e2; omega⟩))
          · exact Blk.kept BR2.out (put2_kept V2 V.heap.size (.bool pb) (.slice A2 n2 c2)) (fun e => by have e : w.heap.size = V.heap.size := e; omega)
          · simp [intOf]; omega
    · obtain rfl : k = len := by omega
      have HE := Lib.hid (show ps.take k = ps from List.take_of_length_le (by rw [HL.out]; omega))
      rw [HE.out] at LV
      have f0 := LV.out.box.f0
      have f1 := LV.out.box.f1
      have y0 := BR.out.c0
      have y1 := BR.out.c1
      have g0 := BR.out.f0
      have g1 := BR.out.f1
      have hlt := BR.out.lt
      go_wp2_with fail
      have LF := LV.out.flip on
      have k6 := only_setCell V (w.heap.size + 1) 0 (.bool on)
      have BF : Bq (V.setCell ⟨w.heap.size + 1, 0, none⟩ (.bool on)) w.heap.size false (.slice none 0 0) := Blk.kept BR.out k6 (fun e => by have e : w.heap.size = w.heap.size + 1 := e; omega)
      have k7 := put2_kept (V.setCell ⟨w.heap.size + 1, 0, none⟩ (.bool on)) w.heap.size (.bool on) (.slice A n c)
      have RF := rs_kept LF.rs k7 (fun n0 ad e x => bq_ne BF LF.rs n0 e x)
      have BE := BF.put2 (.bool on) (.slice A n c)
      obtain ⟨W, hW⟩ : ∃ W, (((V.setCell ⟨w.heap.size + 1, 0, none⟩ (.bool on)).setCell ⟨w.heap.size, 0, none⟩ (.bool on)).setCell ⟨w.heap.size, 1, none⟩ (.slice A n c)) = W := ⟨_, rfl⟩
      have KF := LF.kept.join k7 (fun i hi e => by have e : i = w.heap.size := e; omega)
      rw [hW] at BE RF KF ⊢
      have r0 := BE.cell 0
      have r1 := BE.cell 1
      exact bodyPost_ret (v := .agg #[.bool on, .slice A n c]) (by simp [results, Try.results15, go_sem, r0, r1]) rfl ⟨A, n, c, rfl, RF, LV.out.cap, LV.out.nil, fun n0 ad e => (LV.out.new n0 ad e).1, KF⟩
end Go.Proofs.Ytjchdkjncfjibaa.Lq
