/-
  How far the document's own Accepts accepts deeds, from a valid model, and the model there; whether two models are alike. Own work; each is proved by a walk through the landed text.
-/
import Derived.Test.YtmajgfpfbieakaaRows
import Derived.Test.YtmajgfpfbieakaaModelRacc
import Derived.Test.YtmajgfpfbieakaaModelAcc
import Derived.WalkKit
import Derived.ProofKit
import Derived.OpenShut
import Derived.Outline
import Derived.Deep.Light
import Derived.Deep.QuietTactic
import Derived.BigQuiet
import Derived.IntWalk
import Derived.StillTailTactics
import Derived.RegionTactic
import Derived.Deep.RegionLaw
import Derived.Deep.RegionHeld3
namespace Go.Proofs.Ytmajgfpfbieakaa.Lm
open Go.ChangeShapes Go.WideShapes Go.ChangeAt Go.RowKit
set_option maxRecDepth 100000

/-- A model in a variable that is put anew: its list is none of the variable's own block. -/
structure Lv (w V : World) (b : Nat) (W : Int) (l : List S) (A : Option Addr) (n c : Nat) : Prop where
  box : Bm V b W (.slice A n c)
  rs : RsS V A n l
  cap : n ≤ c
  nil : A = none → c = 0
  kept : Kept Old w V
  low : w.heap.size ≤ b
theorem rs_ne {X : World} {b n : Nat} {W : Int} {A : Option Addr} {l : List S} {v : Value} (h : Bm X b W v) (r : RsS X A n l) (hn : 0 < n) : ∀ ad, A = some ad → ad.block ≠ b := by
  intro ad e eb
  obtain ⟨g, o, x, e2, _, _, _, c0, c1, c2⟩ := r.get (k := 0) hn
  rw [e] at e2
  injection e2 with e2
  subst e2
  have eb : g = b := eb
  subst eb
  have q := Blk.cell h (o + 0 * 3 + 2)
  rw [c2] at q
  rw [show ([Value.int .i64 W, v] : List Value)[o + 0 * 3 + 2]? = none from List.getElem?_eq_none (by simp)] at q
  cases q
theorem rs_only {X Y : World} {b n : Nat} {W : Int} {A : Option Addr} {l : List S} {v : Value} (h : Bm X b W v) (r : RsS X A n l) (k : Kept (Only b) X Y) : RsS Y A n l :=
  ⟨r.len, r.fit, fun h0 => by
    obtain ⟨g, o, e, hg, cc⟩ := r.lies h0
    exact ⟨g, o, e, Nat.lt_of_lt_of_le hg k.size, fun i x hx => (cc i x hx).kept k hg (rs_ne h r h0 _ e)⟩⟩
theorem Lv.old {w V V' : World} {b n c : Nat} {W : Int} {l : List S} {A : Option Addr} (h : Lv w V b W l A n c) (k : Kept Old V V') : Lv w V' b W l A n c :=
  ⟨h.box.old k, h.rs.old k, h.cap, h.nil, h.kept.trans k, h.low⟩
theorem Lv.put {w V : World} {b n c n2 c2 : Nat} {W W2 : Int} {l L2 : List S} {A A2 : Option Addr} (h : Lv w V b W l A n c) (r : RsS V A2 n2 L2) (h1 : n2 ≤ c2) (h2 : A2 = none → c2 = 0) :
    Lv w ((V.setCell ⟨b, 0, none⟩ (.int .i64 W2)).setCell ⟨b, 1, none⟩ (.slice A2 n2 c2)) b W2 L2 A2 n2 c2 := by
  have kk := put2_kept V b (.int .i64 W2) (.slice A2 n2 c2)
  exact ⟨h.box.put2 _ _, rs_only h.box r kk, h1, h2, h.kept.join kk (fun i hi e => by have e : i = b := e; have := h.low; omega), h.low⟩
/-- The model that Accepts tells, its number, its word. -/
def RaccsPost (W : Int) (L : List S) (K : Int) (B : Bool) (w : World) (e : Ending) (w' : World) : Prop := ∃ A n c, e = .returned (.tuple #[md W A n c, .int .i64 K, .bool B]) ∧ RsS w' A n L ∧ n ≤ c ∧ (A = none → c = 0) ∧ Kept Old w w'
set_option maxHeartbeats 2000000 in
theorem raccepts_any (W : Int) (A : Option Addr) (n c : Nat) (l : List S) (A2 : Option Addr) (n2 c2 : Nat) (ds : List D) (w : World) (h : RsS w A n l) (v : Valid W l) (hc : n ≤ c) (hA : A = none → c = 0) (hd : RsD w A2 n2 ds) (hn2 : n2 ≤ 1000) :
    Calls Try.prog 16 #[md W A n c, .slice A2 n2 c2] w (RaccsPost W (accM W l ds) (accK W l ds : Int) (accF W l ds) w) := by
  have K1 := Lib.hid (kept2 w (.cells #[.int .i64 W, .slice A n c] 24) (.cells #[.int .i64 0, .slice none 0 0] 24))
  have L2 := Lib.hid (show Lv w ((w.alloc (.cells #[.int .i64 W, .slice A n c] 24)).alloc (.cells #[.int .i64 0, .slice none 0 0] 24)) w.heap.size W l A n c from ⟨(Bm.new w W (.slice A n c)).alloc _, h.old K1.out, hc, hA, K1.out, Nat.le_refl _⟩)
  have B4 := Lib.hid (Bm.new2 w (.cells #[.int .i64 W, .slice A n c] 24) _ 0 (.slice none 0 0) rfl)
  have HD := Lib.hid (hd.old K1.out)
  have dlow := Lib.hid (show 0 < n2 → ∀ ad, A2 = some ad → ad.block < w.heap.size from fun h0 ad e => by
    obtain ⟨g, o, e2, hg, _⟩ := hd.lies h0
    rw [e] at e2
    injection e2 with e2
    subst e2
    exact hg)
  have hdl := Lib.hid hd.len
  have F0 := Lib.hid (Far.zero ds v)
  clear h v hd hc hA
  generalize hW : ((w.alloc (.cells #[.int .i64 W, .slice A n c] 24)).alloc (.cells #[.int .i64 0, .slice none 0 0] 24)) = V at *
  have hW2 := Lib.hid hW
  have hV : w.heap.size + 1 < V.heap.size := by rw [← hW2.out]; simp
  have hV0 : w.heap.size < V.heap.size := by omega
  go_enter Try.func16, Try.ntmps16
  go_wp2_with fail
  go_loopw [7] (fun ii wr => ∃ (k : Nat) (lk : List S) (A7 : Option Addr) (n7 c7 : Nat), k ≤ n2 ∧ ii = .int .i64 (k : Int) ∧ Hid (Far W l ds k lk) ∧ Hid (Lv w wr w.heap.size W lk A7 n7 c7) ∧ Hid (Kept (Only w.heap.size) V wr)) (fun ii _ => n2 - (intOf ii).toNat)
  case atStart => exact ⟨0, l, A, n, c, by omega, rfl, F0, L2, Lib.hid (Kept.refl _ _)⟩
  case round =>
    clear L2 F0
    obtain ⟨k, lk, A7, n7, c7, hk, rfl, FA, LK, KU⟩ := hrel
    rename World => U
    have B4' := Lib.hid (show Bm U (w.heap.size + 1) 0 (.slice none 0 0) from Blk.kept B4.out KU.out (fun e => by have e : w.heap.size + 1 = w.heap.size := e; omega))
    have HD' := Lib.hid (show RsD U A2 n2 ds from ⟨HD.out.len, HD.out.fit, fun h0 => by
      obtain ⟨g, o, e, hg, cc⟩ := HD.out.lies h0
      have := dlow.out h0 _ e
      refine ⟨g, o, e, Nat.lt_of_lt_of_le hg KU.out.size, fun i x hx => (cc i x hx).kept KU.out hg (fun e => ?_)⟩
      have e : g = w.heap.size := e
      have : g < w.heap.size := this
      omega⟩)
    have m0 := LK.out.box.c0
    have m1 := LK.out.box.c1
    have b0 := B4'.out.c0
    have b1 := B4'.out.c1
    have f0 := B4'.out.f0
    have f1 := B4'.out.f1
    have lm := Blk.lt LK.out.box
    have l4 := Blk.lt B4'.out
    have sU := KU.out.size
    by_cases dk : k < n2
    · obtain ⟨g, o, d, rfl, hg, hx, fd, cx0, cx1, cx2, cx3⟩ := HD'.out.get dk
      have kn : (k : Int) < (n2 : Int) := by omega
      have RA := Lib.hid (fun X (q : Kept Old U X) => racc_any W A7 n7 c7 lk d X (LK.out.rs.old q) FA.out.val LK.out.cap LK.out.nil fd)
      have KA := Lib.hid (((Kept.refl Old U).alloc (.cells #[.int .i64 0, .slice none 0 0] 24)).drew)
      have s9 : w.heap.size ≠ U.heap.size := by omega
      have g9 : g ≠ U.heap.size := by omega
      cases hb : accB W lk d with
      | true =>
        have FB := Lib.hid (FA.out.yes hx hb)
        rw [hb] at RA
        clear hx hb fd
        go_wp2_with fail
        go_region_held3 (fun w' => w'.cell? ⟨w.heap.size, 0, none⟩ = some (.int .i64 W) ∧ w'.cell? ⟨w.heap.size, 1, none⟩ = some (.slice A7 n7 c7) ∧ w'.cell? ⟨g, o + k * 4, none⟩ = some (.int .i64 d.k) ∧ w'.cell? ⟨g, o + k * 4 + 1, none⟩ = some (.int .i64 d.n) ∧ w'.cell? ⟨g, o + k * 4 + 2, none⟩ = some (.int .i64 d.a) ∧ w'.cell? ⟨g, o + k * 4 + 3, none⟩ = some (.int .i64 d.c))
          (first
            | (exact ⟨‹_›, ‹_›, ‹_›, ‹_›, ‹_›, ‹_›⟩)
            | (exact ⟨cell_on k3 m0, cell_on k3 m1, cell_on k3 cx0, cell_on k3 cx1, cell_on k3 cx2, cell_on k3 cx3⟩)
            | (exact ⟨cell_on KA.out m0, cell_on KA.out m1, cell_on KA.out cx0, cell_on KA.out cx1, cell_on KA.out cx2, cell_on KA.out cx3⟩)
            | (exact ⟨cell_on (k3.alloc _) m0, cell_on (k3.alloc _) m1, cell_on (k3.alloc _) cx0, cell_on (k3.alloc _) cx1, cell_on (k3.alloc _) cx2, cell_on (k3.alloc _) cx3⟩)
            | (exact ⟨put_far (cell_on k3 m0) s9, put_far (cell_on k3 m1) s9, put_far (cell_on k3 cx0) g9, put_far (cell_on k3 cx1) g9, put_far (cell_on k3 cx2) g9, put_far (cell_on k3 cx3) g9⟩)
            | go_keep)
          (first
            | (go_at_call 30; refine (RA.out _ (by first | exact Kept.refl Old U | exact (Kept.refl Old U).drew)).mono ?_; rintro e V2 ⟨W2, L2, v2, rfl, hy, ⟨A8, n8, c8, rfl, R8, hc8, hA8⟩, k2⟩; have k3 : Kept Old U V2 := (Kept.trans (by first | exact Kept.refl Old U | exact (Kept.refl Old U).drew) k2); have R8 := Lib.hid R8; have hy := Lib.hid hy; have hz2 := k3.size; clear k2)
            | (go_at_call 30; refine (RA.out _ KA.out).mono ?_; rintro e V2 ⟨W2, L2, v2, rfl, hy, ⟨A8, n8, c8, rfl, R8, hc8, hA8⟩, k2⟩; have k3 : Kept Old U V2 := KA.out.trans k2; have BX := Lib.hid (Bm.old (w' := V2) (show Bm _ U.heap.size 0 (.slice none 0 0) from Bm.new U 0 (.slice none 0 0)) ⟨k2.os, k2.tape, k2.output, k2.size, k2.block⟩); have y0 := BX.out.c0; have y1 := BX.out.c1; have g0 := BX.out.f0; have g1 := BX.out.f1; have R8 := Lib.hid R8; have hy := Lib.hid hy; have hz2 := k3.size; clear k2))
        · have KY := Lib.hid (show Kept Old U _ from k3.alloc (.cells #[.int .i64 W2, .slice A8 n8 c8] 24))
          have RY := Lib.hid (show RsS _ A8 n8 L2 from R8.out.alloc (.cells #[.int .i64 W2, .slice A8 n8 c8] 24))
          have BY := Lib.hid (show Bm _ _ W2 (.slice A8 n8 c8) from Bm.new V2 W2 (.slice A8 n8 c8))
          generalize hY : V2.alloc (.cells #[.int .i64 W2, .slice A8 n8 c8] 24) = Y at *
          have LY := Lib.hid (LK.out.old KY.out)
          have B4Y := Lib.hid (B4'.out.old KY.out)
          have m0 := LY.out.box.c0
          have m1 := LY.out.box.c1
          have f0 := LY.out.box.f0
          have f1 := LY.out.box.f1
          have b0 := B4Y.out.c0
          have b1 := B4Y.out.c1
          have h0 := B4Y.out.f0
          have h1 := B4Y.out.f1
          have z0 := BY.out.c0
          have z1 := BY.out.c1
          obtain ⟨e1, e2⟩ := hy.out (by first | rfl | trivial)
          subst e1
          subst e2
          go_wp2_with fail
          refine ⟨⟨k + 1, _, A8, n8, c8, by omega, by go_num, FB, Lib.hid (LY.out.put RY.out hc8 hA8), Lib.hid (KU.out.trans (KY.out.any.trans (put2_kept _ _ _ _)))⟩, ?_⟩
          simp [intOf]; omega
        · have KY := Lib.hid (show Kept Old U _ from k3.join (put2_kept V2 U.heap.size (.int .i64 W2) (.slice A8 n8 c8)) (fun i hi e => by have e : i = U.heap.size := e; omega))
          have RY := Lib.hid (show RsS _ A8 n8 L2 from rs_only BX.out R8.out (put2_kept V2 U.heap.size (.int .i64 W2) (.slice A8 n8 c8)))
          have BY := Lib.hid (show Bm _ _ W2 (.slice A8 n8 c8) from BX.out.put2 _ _)
          generalize hY : (V2.setCell ⟨U.heap.size, 0, none⟩ (.int .i64 W2)).setCell ⟨U.heap.size, 1, none⟩ (.slice A8 n8 c8) = Y at *
          have LY := Lib.hid (LK.out.old KY.out)
          have B4Y := Lib.hid (B4'.out.old KY.out)
          have m0 := LY.out.box.c0
          have m1 := LY.out.box.c1
          have f0 := LY.out.box.f0
          have f1 := LY.out.box.f1
          have b0 := B4Y.out.c0
          have b1 := B4Y.out.c1
          have h0 := B4Y.out.f0
          have h1 := B4Y.out.f1
          have z0 := BY.out.c0
          have z1 := BY.out.c1
          obtain ⟨e1, e2⟩ := hy.out (by first | rfl | trivial)
          subst e1
          subst e2
          go_wp2_with fail
          refine ⟨⟨k + 1, _, A8, n8, c8, by omega, by go_num, FB, Lib.hid (LY.out.put RY.out hc8 hA8), Lib.hid (KU.out.trans (KY.out.any.trans (put2_kept _ _ _ _)))⟩, ?_⟩
          simp [intOf]; omega
      | false =>
        obtain ⟨e1, e2, e3, _⟩ := FA.out.no hx hb
        have E := Lib.hid (show accM W l ds = lk ∧ accK W l ds = k ∧ accF W l ds = false from ⟨e1, e2, e3⟩)
        rw [hb] at RA
        clear hx hb fd e1 e2 e3
        go_wp2_with fail
        go_region_held3 (fun w' => w'.cell? ⟨w.heap.size, 0, none⟩ = some (.int .i64 W) ∧ w'.cell? ⟨w.heap.size, 1, none⟩ = some (.slice A7 n7 c7) ∧ w'.cell? ⟨g, o + k * 4, none⟩ = some (.int .i64 d.k) ∧ w'.cell? ⟨g, o + k * 4 + 1, none⟩ = some (.int .i64 d.n) ∧ w'.cell? ⟨g, o + k * 4 + 2, none⟩ = some (.int .i64 d.a) ∧ w'.cell? ⟨g, o + k * 4 + 3, none⟩ = some (.int .i64 d.c))
          (first
            | (exact ⟨‹_›, ‹_›, ‹_›, ‹_›, ‹_›, ‹_›⟩)
            | (exact ⟨cell_on k3 m0, cell_on k3 m1, cell_on k3 cx0, cell_on k3 cx1, cell_on k3 cx2, cell_on k3 cx3⟩)
            | (exact ⟨cell_on KA.out m0, cell_on KA.out m1, cell_on KA.out cx0, cell_on KA.out cx1, cell_on KA.out cx2, cell_on KA.out cx3⟩)
            | (exact ⟨cell_on (k3.alloc _) m0, cell_on (k3.alloc _) m1, cell_on (k3.alloc _) cx0, cell_on (k3.alloc _) cx1, cell_on (k3.alloc _) cx2, cell_on (k3.alloc _) cx3⟩)
            | (exact ⟨put_far (cell_on k3 m0) s9, put_far (cell_on k3 m1) s9, put_far (cell_on k3 cx0) g9, put_far (cell_on k3 cx1) g9, put_far (cell_on k3 cx2) g9, put_far (cell_on k3 cx3) g9⟩)
            | go_keep)
          (first
            | (go_at_call 30; refine (RA.out _ (by first | exact Kept.refl Old U | exact (Kept.refl Old U).drew)).mono ?_; rintro e V2 ⟨W2, L2, v2, rfl, hy, ⟨A8, n8, c8, rfl, R8, hc8, hA8⟩, k2⟩; have k3 : Kept Old U V2 := (Kept.trans (by first | exact Kept.refl Old U | exact (Kept.refl Old U).drew) k2); have R8 := Lib.hid R8; have hy := Lib.hid hy; have hz2 := k3.size; clear k2)
            | (go_at_call 30; refine (RA.out _ KA.out).mono ?_; rintro e V2 ⟨W2, L2, v2, rfl, hy, ⟨A8, n8, c8, rfl, R8, hc8, hA8⟩, k2⟩; have k3 : Kept Old U V2 := KA.out.trans k2; have BX := Lib.hid (Bm.old (w' := V2) (show Bm _ U.heap.size 0 (.slice none 0 0) from Bm.new U 0 (.slice none 0 0)) ⟨k2.os, k2.tape, k2.output, k2.size, k2.block⟩); have y0 := BX.out.c0; have y1 := BX.out.c1; have g0 := BX.out.f0; have g1 := BX.out.f1; have R8 := Lib.hid R8; have hy := Lib.hid hy; have hz2 := k3.size; clear k2))
        · have KY := Lib.hid (show Kept Old U _ from k3.alloc (.cells #[.int .i64 W2, .slice A8 n8 c8] 24))
          have RY := Lib.hid (show RsS _ A8 n8 L2 from R8.out.alloc (.cells #[.int .i64 W2, .slice A8 n8 c8] 24))
          have BY := Lib.hid (show Bm _ _ W2 (.slice A8 n8 c8) from Bm.new V2 W2 (.slice A8 n8 c8))
          generalize hY : V2.alloc (.cells #[.int .i64 W2, .slice A8 n8 c8] 24) = Y at *
          have LY := Lib.hid (LK.out.old KY.out)
          have B4Y := Lib.hid (B4'.out.old KY.out)
          have m0 := LY.out.box.c0
          have m1 := LY.out.box.c1
          have f0 := LY.out.box.f0
          have f1 := LY.out.box.f1
          have b0 := B4Y.out.c0
          have b1 := B4Y.out.c1
          have h0 := B4Y.out.f0
          have h1 := B4Y.out.f1
          have z0 := BY.out.c0
          have z1 := BY.out.c1
          go_wp2_with fail
          obtain ⟨V9, hV9, r0, r1, R9, K9⟩ := Bm.put_end' (c := c7) B4Y.out LY.out.kept (by omega) LY.out.rs (fun ad e h0 => rs_ne B4Y.out LY.out.rs h0 ad e) W
          rw [hV9]
          refine bodyPost_ret (v := .tuple #[.agg #[.int .i64 W, .slice A7 n7 c7], .int .i64 (k : Int), .bool false]) (by simp [results, Try.results16, go_sem, r0, r1]) rfl ?_
          rw [E.out.1, E.out.2.1, E.out.2.2]
          exact ⟨A7, n7, c7, rfl, R9, LY.out.cap, LY.out.nil, K9⟩
        · have KY := Lib.hid (show Kept Old U _ from k3.join (put2_kept V2 U.heap.size (.int .i64 W2) (.slice A8 n8 c8)) (fun i hi e => by have e : i = U.heap.size := e; omega))
          have RY := Lib.hid (show RsS _ A8 n8 L2 from rs_only BX.out R8.out (put2_kept V2 U.heap.size (.int .i64 W2) (.slice A8 n8 c8)))
          have BY := Lib.hid (show Bm _ _ W2 (.slice A8 n8 c8) from BX.out.put2 _ _)
          generalize hY : (V2.setCell ⟨U.heap.size, 0, none⟩ (.int .i64 W2)).setCell ⟨U.heap.size, 1, none⟩ (.slice A8 n8 c8) = Y at *
          have LY := Lib.hid (LK.out.old KY.out)
          have B4Y := Lib.hid (B4'.out.old KY.out)
          have m0 := LY.out.box.c0
          have m1 := LY.out.box.c1
          have f0 := LY.out.box.f0
          have f1 := LY.out.box.f1
          have b0 := B4Y.out.c0
          have b1 := B4Y.out.c1
          have h0 := B4Y.out.f0
          have h1 := B4Y.out.f1
          have z0 := BY.out.c0
          have z1 := BY.out.c1
          go_wp2_with fail
          obtain ⟨V9, hV9, r0, r1, R9, K9⟩ := Bm.put_end' (c := c7) B4Y.out LY.out.kept (by omega) LY.out.rs (fun ad e h0 => rs_ne B4Y.out LY.out.rs h0 ad e) W
          rw [hV9]
          refine bodyPost_ret (v := .tuple #[.agg #[.int .i64 W, .slice A7 n7 c7], .int .i64 (k : Int), .bool false]) (by simp [results, Try.results16, go_sem, r0, r1]) rfl ?_
          rw [E.out.1, E.out.2.1, E.out.2.2]
          exact ⟨A7, n7, c7, rfl, R9, LY.out.cap, LY.out.nil, K9⟩
    · obtain rfl : k = n2 := by omega
      obtain ⟨e1, e2, e3⟩ := FA.out.end_ hdl.out
      go_wp2_with fail
      obtain ⟨V9, hV9, r0, r1, R9, K9⟩ := Bm.put_end' (c := c7) B4'.out LK.out.kept (by omega) LK.out.rs (fun ad e h0 => rs_ne B4'.out LK.out.rs h0 ad e) W
      rw [hV9]
      refine bodyPost_ret (v := .tuple #[.agg #[.int .i64 W, .slice A7 n7 c7], .int .i64 (k : Int), .bool true]) (by simp [results, Try.results16, go_sem, r0, r1]) rfl ?_
      rw [e1, e2, e3]
      exact ⟨A7, n7, c7, rfl, R9, LK.out.cap, LK.out.nil, K9⟩
end Go.Proofs.Ytmajgfpfbieakaa.Lm
