/-
  GC of a store: the phase is set; where it is off, the queue and the large ones go back to the heap. Own work; it is proved by a walk through the landed text.
-/
import Derived.Test.YtjfkmgicbakmgaaGreatRows
import Derived.WalkKit
import Derived.ProofKit
import Derived.OpenShut
import Derived.Outline
import Derived.Deep.Light
import Derived.Deep.QuietTactic
import Derived.BigQuiet
import Derived.IntWalk
import Derived.StillTailTactics
import Derived.RegionTactic
import Derived.Deep.RegionLaw
import Derived.Deep.RegionHeld3
import Derived.Test.YtjfkmgicbakmgaaGreatJStoreDrain
namespace Go.Proofs.YtjfkmgicbakmgaaGreat.Sto
open Go.ChangeShapes Go.WideShapes Go.ChangeAt Go.RowKit
set_option maxRecDepth 100000
section gc
variable {w0 W : World} {s P : Nat} {k : K} {live : List Lm.S} {F : Nat → Prop} {pl : Pl} {O : Int → Int → Prop}
def QRel (w0 W : World) (s P : Nat) (k0 : K) (live : List Lm.S) (F : Nat → Prop) (pl0 : Pl) (O : Int → Int → Prop) (s4 s5 s6 : Value) (wr : World) : Prop :=
  ∃ pl x A n c rl sl l, s4 = ptr x ∧ s5 = .int .i64 (Lq.nextX l) ∧ s6 = .bool (Lq.nextK l) ∧ Hid (Lr w0 wr s P ⟨rl, sl, k0.p, k0.big, false, l⟩ live F pl x A n c) ∧ Hid (Same pl0 pl) ∧ Hid (Kept (Fr F) W wr) ∧ Hid (Inv P ⟨rl, sl, k0.p, k0.big, true, l⟩ O) ∧ Hid (freeAll rl sl l = freeAll k0.rl k0.sl k0.back)
def DRel (w0 W : World) (s P : Nat) (k0 : K) (live : List Lm.S) (F : Nat → Prop) (pl0 : Pl) (O : Int → Int → Prop) (T : List R × List S) (s7 s8 s9 : Value) (wr : World) : Prop :=
  ∃ pl x A n c rl sl l, s7 = .slice A n c ∧ s8 = ptr x ∧ s9 = .bool (Bg.dropB l) ∧ Hid (Dr w0 wr s P ⟨rl, sl, k0.p, l, false, []⟩ live F pl x A n c) ∧ Hid (Same pl0 pl) ∧ Hid (Kept (Fr F) W wr) ∧ Hid (Inv P ⟨rl, sl, k0.p, l, true, []⟩ O) ∧ Hid (freeAll rl sl (bigPages l) = T)
def GcPost (w0 W : World) (s P : Nat) (live : List Lm.S) (F : Nat → Prop) (pl : Pl) (k' : K) (e : Ending) (W' : World) : Prop := e = .returned (.tuple #[]) ∧ Left w0 W W' s P k' live F pl
set_option maxHeartbeats 2000000 in
theorem sgc_true (m : StM w0 W s P k live F pl) (v : Inv P k O) : Calls Tryz.prog 26 #[ptr s, .bool true] W (GcPost w0 W s P live F pl (gcK k true)) := by
  have bl := v.back_len
  have hl := m.kq.rs.len
  have c11 := m.c11
  have c12 := m.c12
  have hs := m.st.box.lt
  have LS := Lib.hid (Lq.lset_any k.on pl.A2 pl.n2 pl.c2 k.back true W m.kq.rs (by omega) (slice_nil m.kq.cap m.kq.nil))
  have M := Lib.hid m
  clear m v bl hl
  go_enter Tryz.func26, Tryz.ntmps26
  go_wp2_with fail
  refine LS.out.mono ?_
  rintro e W1 ⟨v1, rfl, A, n, c, rfl, R, hcc, hA, K⟩
  obtain ⟨⟨pl1, m1, x1, x2, x3⟩, f⟩ := M.out.late (on := true) R hcc hA.1 hA.2 K
  have mo := M.out.old K
  have f11 := mo.f 11
  have f12 := mo.f 12
  have g11 := mo.c11
  have g12 := mo.c12
  have L := Lib.hid (show Left w0 W _ s P (gcK k true) live F pl from ⟨⟨pl1, m1, ⟨x1, x2, x3⟩⟩, f⟩)
  clear m1 x1 x2 x3 f mo R hA K
  go_wp2_with fail
  (try simp only [Exit.inBlock, Exit.then])
  refine bodyPost_ret (results_none rfl _ _ _) rfl ?_
  exact ⟨rfl, L.out⟩
set_option maxHeartbeats 4000000 in
theorem sgc_false (m : StM w0 W s P k live F pl) (v : Inv P k O) : Calls Tryz.prog 26 #[ptr s, .bool false] W (GcPost w0 W s P live F pl (gcK k false)) := by
  have bl := v.back_len
  have hl := m.kq.rs.len
  have c11 := m.c11
  have c12 := m.c12
  have hs := m.st.box.lt
  have LS := Lib.hid (Lq.lset_any k.on pl.A2 pl.n2 pl.c2 k.back false W m.kq.rs (by omega) (slice_nil m.kq.cap m.kq.nil))
  have BL := Lib.hid bl
  have V0 := Lib.hid (show Inv P ⟨k.rl, k.sl, k.p, k.big, true, k.back⟩ O from v.on_)
  have M := Lib.hid m
  clear m v bl hl
  go_enter Tryz.func26, Tryz.ntmps26
  go_wp2_with fail
  refine LS.out.mono ?_
  rintro e W1 ⟨v1, rfl, A, n, c, rfl, R, hcc, hA, K⟩
  obtain ⟨⟨pl1, m1, x1, x2, x3⟩, f⟩ := M.out.late (on := false) R hcc hA.1 hA.2 K
  have mo := M.out.old K
  have f11 := mo.f 11
  have f12 := mo.f 12
  have g11 := mo.c11
  have g12 := mo.c12
  have R1 : RsI ((W1.setCell ⟨s, 11, none⟩ (.bool false)).setCell ⟨s, 12, none⟩ (.slice A n c)) A n k.back := int_fr R ((only_setCell W1 s 11 _).trans (only_setCell _ s 12 _)) (fun b _ ⟨_, ad, e, z⟩ d => by have := hA.2 ad e; have d : b = s := d; omega)
  have LN := Lib.hid (Lq.lnext_any false A n c k.back _ R1 (by have := R1.len; have := BL.out; omega) hcc)
  have M1 := Lib.hid (show StM w0 _ s P ⟨k.rl, k.sl, k.p, k.big, false, k.back⟩ live F pl1 from m1)
  have E1 := Lib.hid (show Same pl pl1 from ⟨x1, x2, x3⟩)
  have F1 := Lib.hid f
  clear m1 x1 x2 x3 f mo R hA K R1 LS
  go_wp2_with fail
  refine LN.out.mono ?_
  rintro e W2 ⟨v2, rfl, A2, n2, c2, rfl, R2, hc2, hA2, K2⟩
  rw [next_off]
  obtain ⟨l2, k2⟩ := Lr.first M1.out K2 R2 hc2 hA2.1 hA2.2
  have Q0 := Lib.hid (show QRel w0 W s P k live F pl O (ptr W2.heap.size) (.int .i64 (Lq.nextX k.back)) (.bool (Lq.nextK k.back)) _ from ⟨_, _, _, _, _, _, _, _, rfl, rfl, rfl, l2, ⟨E1.out.a, E1.out.h, E1.out.pq⟩, F1.out.trans k2.any, V0.out, rfl⟩)
  clear l2 k2 R2 hA2 K2 LN f11 f12 g11 g12 c11 c12
  go_wp2_with fail
  generalize W2.heap.size = x0 at *
  generalize W2.alloc (.cells #[.bool false, .slice A2 n2 c2] 84) = V0' at *
  clear M1 E1 F1
  go_loopw [4, 5, 6] (fun s4 s5 s6 wr => Hid (QRel w0 W s P k live F pl O s4 s5 s6 wr)) (fun _ _ _ wr => lenAt wr s 12)
  case atStart => exact Q0
  case round =>
    clear Q0
    obtain ⟨pl2, x, A3, n3, c3, rl, sl, l, rfl, rfl, rfl, h, e2, f2, iv, fa⟩ := hrel.out
    clear hrel
    rename World => V
    cases l with
    | nil =>
      have hk : Lq.nextK ([] : List Int) = false := rfl
      have M2 := Lib.hid (h.out.st.less (F := F) (fun _ z => .inl z))
      have S2 := Lib.hid (show (rl, sl) = freeAll k.rl k.sl k.back from fa.out)
      have c10 : V.cell? ⟨s, 10, none⟩ = some (.slice pl2.A1 pl2.n1 pl2.c1) := h.out.st.c 10
      have hs := h.out.st.st.box.lt
      have LB := Lib.hid (big_len iv.out.right)
      have R2 := Lib.hid (show Bg.Rs V pl2.A1 pl2.n1 k.big from M2.out.kb.rs)
      have DN := Lib.hid (Bg.drop_any pl2.A1 pl2.n1 pl2.c1 k.big V R2.out (by have := R2.out.len; have := LB.out; simp only at this; omega) M2.out.kb.cap)
      clear h fa
      go_wp2_with fail
      refine DN.out.mono ?_
      rintro e W3 ⟨v3, rfl, A3, n3, c3, rfl, R3, hc3, hA3, K3⟩
      obtain ⟨d3, k3⟩ := Dr.first M2.out K3 R3 hc3 hA3.1 hA3.2
      have Q0 := Lib.hid (show DRel w0 W s P k live F pl O (freeAll rl sl (bigPages k.big)) (.slice A3 n3 c3) (ptr W3.heap.size) (.bool (Bg.dropB k.big)) _ from ⟨_, _, _, _, _, _, _, _, rfl, rfl, rfl, d3, ⟨e2.out.a, e2.out.h, e2.out.pq⟩, f2.out.trans k3.any, iv.out, rfl⟩)
      clear d3 k3 R3 hA3 K3 DN c10 R2 M2 e2 f2 iv LB
      go_wp2_with fail
      generalize W3.heap.size = x3 at *
      generalize W3.alloc (.cells #[.int .i64 (Bg.headL k.big).1, .int .i64 (Bg.headL k.big).2] 111) = V3' at *
      obtain ⟨T, hT⟩ : ∃ T, freeAll rl sl (bigPages k.big) = T := ⟨_, rfl⟩
      rw [hT] at Q0
      have TT := Lib.hid hT
      clear hT
      go_loopw [7, 8, 9] (fun s7 s8 s9 wr => Hid (DRel w0 W s P k live F pl O T s7 s8 s9 wr)) (fun _ _ _ wr => lenAt wr s 10)
      case atStart => exact Q0
      case round =>
        clear Q0
        obtain ⟨pl4, y, A4, n4, c4, rl4, sl4, l4, rfl, rfl, rfl, h, e4, f4, iv, fa⟩ := hrel.out
        clear hrel
        rename World => U
        have hm := Lib.hid h.out.st.len10
        cases l4 with
        | nil =>
          have hd : Bg.dropB ([] : List Bg.R) = false := rfl
          have L := Lib.hid (show Left w0 W U s P (gcK k false) live F pl from by
            have e : gcK k false = ⟨rl4, sl4, k.p, [], false, []⟩ := by
              unfold gcK
              rw [if_neg (by simp)]
              simp only
              rw [← S2.out, TT.out, ← fa.out]
              rfl
            rw [e]
            exact ⟨⟨pl4, h.out.st.less (fun _ z => .inl z), e4.out⟩, f4.out⟩)
          clear h e4 f4 iv fa hm
          go_wp2_with fail
          (try simp only [Exit.inBlock, Exit.then])
          refine bodyPost_ret (results_none rfl _ _ _) rfl ?_
          exact ⟨rfl, L.out⟩
        | cons b t =>
          have hd : Bg.dropB (b :: t) = true := rfl
          have c1 : U.cell? ⟨s, 1, none⟩ = some (ptr pl4.h) := h.out.st.c 1
          have hs := h.out.st.st.box.lt
          have b0 : U.cell? ⟨y, 0, none⟩ = some (.int .i64 b.1) := h.out.box.c0
          obtain ⟨nb, hnb, nb1⟩ : ∃ nb : Nat, b.1 = (nb : Int) ∧ nb ≤ 1000000 := by
            have ok := iv.out.ok (iv.out.big b (List.mem_cons_self ..))
            have pp := iv.out.pages
            have := ok.a0
            have := ok.up
            have := ok.n1
            simp only at *
            exact ⟨b.1.toNat, by omega, by omega⟩
          have PG := Lib.hid (show ∀ X, Calls Tryz.prog 75 #[.int .i64 b.1] X fun e w' => e = .returned (.int .i64 (b.1 / 64)) ∧ X = w' from fun X => by rw [hnb]; exact page_at nb nb1 X)
          have HF := Lib.hid (show ∀ X, Kept Old U X → Calls Tryz.prog 73 #[ptr pl4.h, .int .i64 (b.1 / 64)] X fun e W' => e = .returned (.tuple #[spn (freeA rl4 sl4 (b.1 / 64)).x, .int .i64 (freeA rl4 sl4 (b.1 / 64)).e]) ∧ Left w0 U W' s P ⟨(freeA rl4 sl4 (b.1 / 64)).rl, (freeA rl4 sl4 (b.1 / 64)).sl, k.p, b :: t, false, []⟩ live (Gx F y A4 n4) pl4 from fun X q => by
            refine (heap_free (b.1 / 64) (h.out.st.old q)).mono ?_
            rintro e W' ⟨rfl, L⟩
            exact ⟨rfl, Left.trans (pl1 := pl4.re U.heap.size 97) ⟨rfl, rfl, rfl⟩ q.any L⟩)
          clear hnb
          go_wp2_with fail
          go_region_with (first
            | (go_at_call 75; refine (PG.out _).mono ?_; rintro e X ⟨rfl, rfl⟩)
            | (go_at_call 73; refine (HF.out _ (by first | exact Kept.refl Old U | exact (Kept.refl Old U).drew)).mono ?_; rintro e W5 ⟨rfl, L⟩; have L := Lib.hid L))
          all_goals
            obtain ⟨⟨pl5, m5, e5⟩, f5⟩ := L.out
            have h5 := h.out.turn m5 f5 rfl
            have b0 : W5.cell? ⟨y, 0, none⟩ = some (.int .i64 b.1) := h5.box.c0
            have b1 : W5.cell? ⟨y, 1, none⟩ = some (.int .i64 b.2) := h5.box.c1
            have f10 := m5.f 10
            have g10 : W5.cell? ⟨s, 10, none⟩ = some (.slice pl5.A1 pl5.n1 pl5.c1) := m5.c 10
            have hs5 := m5.st.box.lt
            obtain ⟨⟨pl6, m6, e6⟩, f6, bx6, r6⟩ := h5.step
            have ys : y ≠ s := fun e => by
              have := (h5.st.ff.far y (.inr (.inl rfl))).1
              rw [e, h5.st.st.lab] at this
              omega
            have r7 := r6.old ((Kept.refl Old _).alloc (.cells #[.int .i64 b.1, .int .i64 b.2] 111))
            have DN := Lib.hid (Bg.drop_any A4 n4 c4 t _ r7 (by have := big_len iv.out.right; simp at this; have : t.length = n4 := r7.len; omega) h5.cap)
            have M6 := Lib.hid m6
            have E6 := Lib.hid (e4.out.trans (e5.trans e6))
            have F6 := Lib.hid (f4.out.trans ((f5.mono fun i z q => z (.inl q)).trans f6))
            have IV := Lib.hid iv.out.dropBig.2
            have FA := Lib.hid (show freeAll (freeA rl4 sl4 (b.1 / 64)).rl (freeA rl4 sl4 (b.1 / 64)).sl (bigPages t) = T from fa.out)
            have sv : (W5.setCell ⟨s, 10, none⟩ (.slice A4 n4 c4)).heap.size = W5.heap.size := by simp
            clear h5 m5 e5 f5 h e4 f4 iv fa m6 e6 f6 bx6 r6 r7 HF PG L
            go_wp2_with fail
            refine DN.out.mono ?_
            rintro e W6 ⟨v6, rfl, A6, n6, c6, rfl, R6, hc6, hA6, K6⟩
            have B6 := (Bg.Bx.new _ b).old K6
            obtain ⟨l6, k6⟩ := Dr.next (y := b) M6.out K6 R6 hc6 hA6.1 hA6.2
            rw [sv] at B6 l6 k6
            have a0 := B6.c0
            have a1 := B6.c1
            have a2 := Blk.frozen B6 0
            have a3 := Blk.frozen B6 1
            have Q6 := Lib.hid (show DRel w0 W s P k live F pl O T (.slice A6 n6 c6) (ptr W5.heap.size) (.bool (Bg.dropB t)) _ from ⟨_, _, _, _, _, _, _, _, rfl, rfl, rfl, l6, ⟨E6.out.a, E6.out.h, E6.out.pq⟩, F6.out.trans k6.any, IV.out, FA.out⟩)
            have LT := Lib.hid (show lenAt _ s 10 < lenAt U s 10 from by rw [l6.st.len10, hm.out]; exact Nat.lt_succ_self _)
            clear B6 l6 k6 R6 hA6 K6 DN f10 g10 b0 b1 c1 M6 E6 F6 IV FA
            go_wp2_with fail
            exact ⟨Lib.hid Q6, LT.out⟩
    | cons q t =>
      have hk : Lq.nextK (q :: t) = true := rfl
      have c1 : V.cell? ⟨s, 1, none⟩ = some (ptr pl2.h) := h.out.st.c 1
      have hs := h.out.st.st.box.lt
      have HF := Lib.hid (heap_free (Lq.nextX (q :: t)) h.out.st)
      have hm := Lib.hid h.out.st.len12
      go_wp2_with fail
      refine HF.out.mono ?_
      rintro e W5 ⟨rfl, ⟨pl3, m3, e3⟩, f3⟩
      have h3 := h.out.turn m3 f3 rfl
      have b0 := h3.box.c0
      have b1 := h3.box.c1
      have f11 := m3.f 11
      have f12 := m3.f 12
      have g11 := m3.c11
      have g12 := m3.c12
      have hs5 := m3.st.box.lt
      obtain ⟨⟨pl4, m4, e4⟩, f4, bx4, r4⟩ := h3.step rfl
      have xs : x ≠ s := fun e => by
        have := (h3.st.ff.far x (.inr (.inl rfl))).1
        rw [e, h3.st.st.lab] at this
        omega
      have r5 := r4.old ((Kept.refl Old _).alloc (.cells #[.bool false, .slice A3 n3 c3] 84))
      have LN := Lib.hid (Lq.lnext_any false A3 n3 c3 t _ r5 (by have := r5.len; have := iv.out.back_len; simp at this; have : t.length = n3 := r5.len; omega) h3.cap)
      have M4 := Lib.hid m4
      have E4 := Lib.hid (e2.out.trans (e3.trans e4))
      have F4 := Lib.hid (f2.out.trans ((f3.mono fun i z y => z (.inl y)).trans f4))
      have IV := Lib.hid iv.out.dropBack.2
      have FA := Lib.hid (show freeAll (freeA rl sl q).rl (freeA rl sl q).sl t = _ from fa.out)
      have sv : ((W5.setCell ⟨s, 11, none⟩ (.bool false)).setCell ⟨s, 12, none⟩ (.slice A3 n3 c3)).heap.size = W5.heap.size := by simp
      clear h3 m3 e3 f3 h e2 f2 iv fa m4 e4 f4 bx4 r4 r5 HF
      go_wp2_with fail
      refine LN.out.mono ?_
      rintro e W6 ⟨v6, rfl, A6, n6, c6, rfl, R6, hc6, hA6, K6⟩
      rw [next_off]
      have B6 := (Lq.Bq.new _ false (.slice A3 n3 c3)).old K6
      obtain ⟨l6, k6⟩ := Lr.next M4.out K6 R6 hc6 hA6.1 hA6.2
      rw [sv] at B6 l6 k6
      have a0 := B6.c0
      have a1 := B6.c1
      have a2 := B6.f0
      have a3 := B6.f1
      have Q6 := Lib.hid (show QRel w0 W s P k live F pl O (ptr W5.heap.size) (.int .i64 (Lq.nextX t)) (.bool (Lq.nextK t)) _ from ⟨_, _, _, _, _, _, _, _, rfl, rfl, rfl, l6, ⟨E4.out.a, E4.out.h, E4.out.pq⟩, F4.out.trans k6.any, IV.out, FA.out⟩)
      have LT := Lib.hid (show lenAt _ s 12 < lenAt V s 12 from by rw [l6.st.len12, hm.out]; exact Nat.lt_succ_self _)
      clear B6 l6 k6 R6 hA6 K6 LN f11 f12 g11 g12 b0 b1 c1 M4 E4 F4 IV FA
      go_wp2_with fail
      exact ⟨Lib.hid Q6, LT.out⟩
theorem sgc_any (b : Bool) (m : StM w0 W s P k live F pl) (v : Inv P k O) : Calls Tryz.prog 26 #[ptr s, .bool b] W (GcPost w0 W s P live F pl (gcK k b)) := by
  cases b
  · exact sgc_false m v
  · exact sgc_true m v
end gc
end Go.Proofs.YtjfkmgicbakmgaaGreat.Sto
