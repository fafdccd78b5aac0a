/-
  What a store's Alloc and Free answer and leave. Own work; each is proved by a walk through the landed text.
-/
import Derived.Test.YtjfkmgicbakmgaaGreatRows
import Derived.WalkKit
import Derived.ProofKit
import Derived.OpenShut
import Derived.Outline
import Derived.Deep.Light
import Derived.Deep.QuietTactic
import Derived.BigQuiet
import Derived.IntWalk
import Derived.StillTailTactics
import Derived.RegionTactic
import Derived.Deep.RegionLaw
import Derived.Deep.RegionHeld3
import Derived.Test.YtjfkmgicbakmgaaGreatJLive
import Derived.Test.YtjfkmgicbakmgaaGreatJStoreGive
import Derived.Test.YtjfkmgicbakmgaaGreatJStoreLive
namespace Go.Proofs.YtjfkmgicbakmgaaGreat.Sto
open Go.ChangeShapes Go.WideShapes Go.ChangeAt Go.RowKit
set_option maxRecDepth 100000
section calls
variable {w0 W : World} {s P : Nat} {k : K} {live : List Lm.S} {F : Nat → Prop} {pl : Pl}
theorem StM.c13 {pl' : Pl} (m : StM w0 W s P k live F pl') : W.cell? ⟨s, 13, none⟩ = some pl'.lv := m.c 13
theorem StM.s_own (m : StM w0 W s P k live F pl) : ¬ (some s = pl.lv.ownBlock) := fun e => by
  have := m.lv.lab s e.symm
  rw [m.st.lab] at this
  cases this
/-- Insert among the live stacks, behind the block of the new one. -/
theorem live_ins (m : StM w0 W s P k live F pl) (x : Lm.S) (hx : Lm.Fit x) (hn : live.length ≤ 600) :
    Calls Tryz.prog 51 #[pl.lv, .int .i64 (Lm.placeL live x.a : Int), .slice (some ⟨W.heap.size, 0, none⟩) 1 1] (W.alloc (.cells #[.int .i64 x.a, .int .i64 x.n, .int .i64 x.c] 52)) fun e X' => ∃ A n c, e = .returned (.slice A n c) ∧ X'.frozen? ⟨s, 13, none⟩ = false ∧ X'.cell? ⟨s, 13, none⟩ = some pl.lv ∧ Hid (Left w0 W (X'.setCell ⟨s, 13, none⟩ (.slice A n c)) s P k (Lm.insL live x) F pl) := by
  have KA := (Kept.refl Old W).alloc (.cells #[.int .i64 x.a, .int .i64 x.n, .int .i64 x.c] 52)
  have hi := Lm.place_le live x.a
  refine (Lm.ins_any w0.heap.size pl.lv live.length (Lm.placeL live x.a) live x hx W.heap.size 1 _ (m.lv.ow.alloc _) (Lm.BxS.new W x) (fun e => by have := (m.lv.ow.own _ e.symm).2; omega) hi (by omega) (Nat.le_trans m.ff.kept.size KA.size)).mono ?_
  rintro e X' ⟨v', rfl, O, K, ob⟩
  obtain ⟨A, c, rfl, _, _, _⟩ := O.rs
  have K2 : Kept (fun b => some b = pl.lv.ownBlock) W X' := KA.any.trans K
  have bx := m.st.box.kept K2 m.s_own
  obtain ⟨⟨pl', m', e1, e2, e3⟩, f⟩ := m.lives O K2 (ob.imp id fun e => ⟨_, e, by simp⟩)
  exact ⟨A, _, c, rfl, bx.frozen 13, bx.cell 13, Lib.hid ⟨⟨pl', m', ⟨e1, e2, e3⟩⟩, f⟩⟩
/-- Delete from the live stacks. -/
theorem live_del (m : StM w0 W s P k live F pl) (i : Nat) (hi : i < live.length) (hn : live.length ≤ 600) :
    Calls Tryz.prog 58 #[pl.lv, .int .i64 (i : Int), .int .i64 ((i : Int) + 1)] W fun e X' => ∃ A n c, e = .returned (.slice A n c) ∧ X'.frozen? ⟨s, 13, none⟩ = false ∧ X'.cell? ⟨s, 13, none⟩ = some pl.lv ∧ Hid (Left w0 W (X'.setCell ⟨s, 13, none⟩ (.slice A n c)) s P k (live.take i ++ live.drop (i + 1)) F pl) := by
  refine (Lm.del_any w0.heap.size pl.lv live.length i live W m.lv.ow hi (by omega)).mono ?_
  rintro e X' ⟨v', rfl, O, K, ob⟩
  obtain ⟨A, c, rfl, _, _, _⟩ := O.rs
  have bx := m.st.box.kept K m.s_own
  obtain ⟨⟨pl', m', e1, e2, e3⟩, f⟩ := m.lives O K (ob.imp id fun e => ⟨_, e, Nat.le_refl _⟩)
  exact ⟨A, _, c, rfl, bx.frozen 13, bx.cell 13, Lib.hid ⟨⟨pl', m', ⟨e1, e2, e3⟩⟩, f⟩⟩
def AllocPost (w0 W : World) (s P : Nat) (F : Nat → Prop) (pl : Pl) (r : K × List Lm.S × Int × Int) (e : Ending) (W' : World) : Prop := e = .returned (.tuple #[.int .i64 r.2.2.1, .int .i64 r.2.2.2]) ∧ Left w0 W W' s P r.1 r.2.1 F pl
set_option maxHeartbeats 4000000 in
theorem salloc_any (n : Int) (m : StM w0 W s P k live F pl) (v : Sv P k live) : Calls Tryz.prog 18 #[ptr s, .int .i64 n] W (AllocPost w0 W s P F pl (allocR P k live n)) := by
  have CL := Lib.hid (fun X => class_any n X)
  have HM := Lib.hid m
  have HV := Lib.hid v
  have EP := Lib.hid (show ∀ K' L' a C W', allocR P k live n = (K', L', a, C) → Left w0 W W' s P K' L' F pl → AllocPost w0 W s P F pl (allocR P k live n) (.returned (.tuple #[.int .i64 a, .int .i64 C])) W' from fun K' L' a C W' h L => ⟨by rw [h], by rw [h]; exact L⟩)
  cases hn : classB n with
  | false =>
    rw [hn] at CL
    have ER := Lib.hid (show allocR P k live n = (k, live, 0, 1) from by unfold allocR; rw [if_neg (by rw [hn]; simp)])
    clear hn m v
    go_enter Tryz.func18, Tryz.ntmps18
    go_wp2_with (go_at_call 46; refine (CL.out _).mono ?_; rintro e w' ⟨rfl, rfl⟩)
    go_ret2
    exact EP.out _ _ _ _ _ ER.out (Left.refl HM.out)
  | true =>
    rw [hn] at CL
    have b := of_decide_eq_true hn
    have u := class_up n b.1 b.2
    have HN := Lib.hid hn
    have TK := Lib.hid (v.took hn).way
    have AL := Lib.hid (fun h0 => v.alloc hn h0)
    have ln := v.val.len
    have SM := Lib.hid (fun X => small_any (classI n) X)
    rcases class_ways hn with ⟨sm, c, ec, hc⟩ | ⟨sm, c4, c7⟩
    · have TS := Lib.hid (take_small hc m v.inv)
      have et : takeSR P k c = tookR P k (classI n) := by unfold tookR; rw [if_pos sm, ec, Int.toNat_natCast]
      rw [et, ← ec] at TS
      rw [sm] at SM
      rcases TK.out with ⟨h0, _, _⟩ | ⟨h0, h1, h2⟩
      · have ER := Lib.hid (show allocR P k live n = ((tookR P k (classI n)).1, Lm.insL live (Lm.newS n (tookR P k (classI n)).2.1), (tookR P k (classI n)).2.1, 0) from by unfold allocR; rw [if_pos hn, if_pos h0])
        have ly := (AL.out h0).2.inv.lies (a := (tookR P k (classI n)).2.1) (c := classI n) ⟨_, lins_mem.2 (.inl rfl), rfl, rfl⟩
        have pp := v.inv.pages
        have fx : Lm.Fit ⟨(tookR P k (classI n)).2.1, classI n, -1⟩ := by
          have := ly.a0
          have := ly.fit
          have := ly.w0
          exact ⟨⟨by show (-9223372036854775808 : Int) ≤ (tookR P k (classI n)).2.1; omega, by show (tookR P k (classI n)).2.1 ≤ 9223372036854775807; omega⟩, ⟨by show (-9223372036854775808 : Int) ≤ classI n; omega, by show classI n ≤ 9223372036854775807; omega⟩, ⟨by show (-9223372036854775808 : Int) ≤ -1; decide, by show (-1 : Int) ≤ 9223372036854775807; decide⟩⟩
        have TS' := TS.out
        unfold TookPost at TS'
        rw [h0] at TS'
        have TS := Lib.hid TS'
        have ns : Lm.newS n (tookR P k (classI n)).2.1 = ⟨(tookR P k (classI n)).2.1, classI n, -1⟩ := rfl
        rw [ns] at ER
        generalize (tookR P k (classI n)).2.1 = at_ at *
        generalize (tookR P k (classI n)).1 = k1 at *
        have FX := Lib.hid fx
        generalize classI n = cl at *
        clear hn b u TK AL sm et h0 ly TS' ec fx ns m v
        go_enter Tryz.func18, Tryz.ntmps18
        go_wp2_with fail
        refine (CL.out _).mono ?_
        rintro e w' ⟨rfl, rfl⟩
        go_wp2_with fail
        refine (SM.out _).mono ?_
        rintro e w' ⟨rfl, rfl⟩
        go_wp2_with fail
        refine TS.out.mono ?_
        rintro e W1 ⟨rfl, L⟩
        obtain ⟨⟨pl1, m1, e1⟩, f1⟩ := L
        have FD := Lib.hid (find_any at_ m1 HV.out.val)
        have M1 := Lib.hid m1
        have E1 := Lib.hid e1
        have F1 := Lib.hid f1
        clear m1 e1 f1
        go_wp2_with fail
        refine FD.out.mono ?_
        rintro e W2 ⟨rfl, k2⟩
        have M2 := Lib.hid (M1.out.old k2)
        have L2 := Lib.hid (Same.trans E1.out ⟨rfl, rfl, rfl⟩ : Same pl (pl1.re W1.heap.size 97))
        have F2 := Lib.hid (F1.out.trans k2.any)
        have IN := Lib.hid (live_ins M2.out ⟨at_, cl, -1⟩ FX.out (by omega))
        have c13 := M2.out.c13
        have hs := M2.out.st.box.lt
        obtain ⟨Av, cv, ev, _, _, _⟩ := M2.out.lv.ow.rs
        rw [ev] at IN c13
        clear k2 ev
        go_wp2_with fail
        refine IN.out.mono ?_
        rintro e X ⟨A, nn, cc, rfl, x0, x1, L3⟩
        go_wp2_with fail
        go_ret2
        exact EP.out _ _ _ _ _ ER.out (Left.trans L2.out F2.out L3.out)
      · have ER := Lib.hid (show allocR P k live n = (k, live, 0, 3) from by unfold allocR; rw [if_pos hn, if_neg (by omega)])
        have TS' := TS.out
        unfold TookPost at TS'
        rw [h0, h1, h2] at TS'
        have TS := Lib.hid TS'
        generalize classI n = cl at *
        clear hn b u TK AL sm et h0 h1 h2 TS' ec m v
        go_enter Tryz.func18, Tryz.ntmps18
        go_wp2_with fail
        refine (CL.out _).mono ?_
        rintro e w' ⟨rfl, rfl⟩
        go_wp2_with fail
        refine (SM.out _).mono ?_
        rintro e w' ⟨rfl, rfl⟩
        go_wp2_with fail
        refine TS.out.mono ?_
        rintro e W1 ⟨rfl, L⟩
        have L := Lib.hid L
        go_wp2_with fail
        go_ret2
        exact EP.out _ _ _ _ _ ER.out L.out
    · have TS := Lib.hid (take_large c4 c7 m v.inv)
      have et : takeLR k (classI n) = tookR P k (classI n) := by unfold tookR; rw [if_neg (by rw [sm]; simp)]
      rw [et] at TS
      rw [sm] at SM
      rcases TK.out with ⟨h0, _, _⟩ | ⟨h0, h1, h2⟩
      · have ER := Lib.hid (show allocR P k live n = ((tookR P k (classI n)).1, Lm.insL live (Lm.newS n (tookR P k (classI n)).2.1), (tookR P k (classI n)).2.1, 0) from by unfold allocR; rw [if_pos hn, if_pos h0])
        have ly := (AL.out h0).2.inv.lies (a := (tookR P k (classI n)).2.1) (c := classI n) ⟨_, lins_mem.2 (.inl rfl), rfl, rfl⟩
        have pp := v.inv.pages
        have fx : Lm.Fit ⟨(tookR P k (classI n)).2.1, classI n, -1⟩ := by
          have := ly.a0
          have := ly.fit
          have := ly.w0
          exact ⟨⟨by show (-9223372036854775808 : Int) ≤ (tookR P k (classI n)).2.1; omega, by show (tookR P k (classI n)).2.1 ≤ 9223372036854775807; omega⟩, ⟨by show (-9223372036854775808 : Int) ≤ classI n; omega, by show classI n ≤ 9223372036854775807; omega⟩, ⟨by show (-9223372036854775808 : Int) ≤ -1; decide, by show (-1 : Int) ≤ 9223372036854775807; decide⟩⟩
        have TS' := TS.out
        unfold TookPost at TS'
        rw [h0] at TS'
        have TS := Lib.hid TS'
        have ns : Lm.newS n (tookR P k (classI n)).2.1 = ⟨(tookR P k (classI n)).2.1, classI n, -1⟩ := rfl
        rw [ns] at ER
        generalize (tookR P k (classI n)).2.1 = at_ at *
        generalize (tookR P k (classI n)).1 = k1 at *
        have FX := Lib.hid fx
        generalize classI n = cl at *
        clear hn b u TK AL sm et h0 ly TS' fx ns m v
        go_enter Tryz.func18, Tryz.ntmps18
        go_wp2_with fail
        refine (CL.out _).mono ?_
        rintro e w' ⟨rfl, rfl⟩
        go_wp2_with fail
        refine (SM.out _).mono ?_
        rintro e w' ⟨rfl, rfl⟩
        go_wp2_with fail
        refine TS.out.mono ?_
        rintro e W1 ⟨rfl, L⟩
        obtain ⟨⟨pl1, m1, e1⟩, f1⟩ := L
        have FD := Lib.hid (find_any at_ m1 HV.out.val)
        have M1 := Lib.hid m1
        have E1 := Lib.hid e1
        have F1 := Lib.hid f1
        clear m1 e1 f1
        go_wp2_with fail
        refine FD.out.mono ?_
        rintro e W2 ⟨rfl, k2⟩
        have M2 := Lib.hid (M1.out.old k2)
        have L2 := Lib.hid (Same.trans E1.out ⟨rfl, rfl, rfl⟩ : Same pl (pl1.re W1.heap.size 97))
        have F2 := Lib.hid (F1.out.trans k2.any)
        have IN := Lib.hid (live_ins M2.out ⟨at_, cl, -1⟩ FX.out (by omega))
        have c13 := M2.out.c13
        have hs := M2.out.st.box.lt
        obtain ⟨Av, cv, ev, _, _, _⟩ := M2.out.lv.ow.rs
        rw [ev] at IN c13
        clear k2 ev
        go_wp2_with fail
        refine IN.out.mono ?_
        rintro e X ⟨A, nn, cc, rfl, x0, x1, L3⟩
        go_wp2_with fail
        go_ret2
        exact EP.out _ _ _ _ _ ER.out (Left.trans L2.out F2.out L3.out)
      · have ER := Lib.hid (show allocR P k live n = (k, live, 0, 3) from by unfold allocR; rw [if_pos hn, if_neg (by omega)])
        have TS' := TS.out
        unfold TookPost at TS'
        rw [h0, h1, h2] at TS'
        have TS := Lib.hid TS'
        generalize classI n = cl at *
        clear hn b u TK AL sm et h0 h1 h2 TS' m v
        go_enter Tryz.func18, Tryz.ntmps18
        go_wp2_with fail
        refine (CL.out _).mono ?_
        rintro e w' ⟨rfl, rfl⟩
        go_wp2_with fail
        refine (SM.out _).mono ?_
        rintro e w' ⟨rfl, rfl⟩
        go_wp2_with fail
        refine TS.out.mono ?_
        rintro e W1 ⟨rfl, L⟩
        have L := Lib.hid L
        go_wp2_with fail
        go_ret2
        exact EP.out _ _ _ _ _ ER.out L.out
def FreePost (w0 W : World) (s P : Nat) (F : Nat → Prop) (pl : Pl) (r : K × List Lm.S × Int) (e : Ending) (W' : World) : Prop := e = .returned (.int .i64 r.2.2) ∧ Left w0 W W' s P r.1 r.2.1 F pl
set_option maxHeartbeats 4000000 in
theorem sfree_any (a : Int) (m : StM w0 W s P k live F pl) (v : Sv P k live) : Calls Tryz.prog 20 #[ptr s, .int .i64 a] W (FreePost w0 W s P F pl (freeR k live a)) := by
  have FD := Lib.hid (find_any a m v.val)
  have HM := Lib.hid m
  have HV := Lib.hid v
  have EP := Lib.hid (show ∀ K' L' C W', freeR k live a = (K', L', C) → Left w0 W W' s P K' L' F pl → FreePost w0 W s P F pl (freeR k live a) (.returned (.int .i64 C)) W' from fun K' L' C W' h L => ⟨by rw [h], by rw [h]; exact L⟩)
  cases ha : Lm.hasB live a with
  | false =>
    rw [ha] at FD
    have ER := Lib.hid (show freeR k live a = (k, live, 2) from by unfold freeR; rw [if_neg (by rw [ha]; simp)])
    clear ha m v
    go_enter Tryz.func20, Tryz.ntmps20
    go_wp2_with fail
    refine FD.out.mono ?_
    rintro e W1 ⟨rfl, k1⟩
    have K1 := Lib.hid k1
    clear k1
    go_wp2_with fail
    go_ret
    exact EP.out _ _ _ _ ER.out (Left.old HM.out K1.out)
  | true =>
    rw [ha] at FD
    have ER := Lib.hid (show freeR k live a = (gaveR k a (classAt live a), Lm.delL live a, 0) from by unfold freeR; rw [if_pos ha])
    obtain ⟨x, hx, e, en, hl, o⟩ := v.at_ ha
    have ln := v.val.len
    have ly := v.inv.lies o
    have c0 := ly.c0
    have c7 := ly.c7
    have HO := Lib.hid o
    have SM := Lib.hid (fun X => small_any (classAt live a) X)
    have DL := Lib.hid (show live.take (Lm.placeL live a) ++ live.drop (Lm.placeL live a + 1) = Lm.delL live a from rfl)
    have GV := Lib.hid (show (smallB (classAt live a) = true → gaveR k a (classAt live a) = giveSR k a (classAt live a).toNat) ∧ (smallB (classAt live a) = false → gaveR k a (classAt live a) = giveLR k a (classAt live a)) from ⟨fun q => by unfold gaveR; rw [if_pos q], fun q => by unfold gaveR; rw [if_neg (by rw [q]; simp)]⟩)
    obtain ⟨A, cc, ev, R, _, _⟩ := m.lv.ow.rs
    obtain ⟨g, o', y, rfl, hg, hy, _, y0, y1, y2⟩ := R.get hl
    obtain rfl : y = x := by rw [hx] at hy; exact (Option.some.inj hy).symm
    rw [en] at y1
    generalize Lm.placeL live a = i at *
    generalize classAt live a = cl at *
    have pi := HM.out.c13
    rw [ev] at pi
    have il : (i : Int) < (live.length : Int) := by omega
    have wi : IntKind.i64.wrap ((i : Int) + 1) = (i : Int) + 1 := IntWalk.i64_in _ (by omega)
    clear ha hx hy e en ly o ev R y0 y2 m v
    by_cases c4 : cl < 4
    · obtain ⟨c, rfl⟩ : ∃ c : Nat, cl = (c : Int) := ⟨cl.toNat, by omega⟩
      have sm := smallB_in (c : Int) c0 c4
      rw [sm] at SM
      have G := Lib.hid (GV.out.1 sm)
      rw [Int.toNat_natCast] at G
      clear GV sm
      go_enter Tryz.func20, Tryz.ntmps20
      go_wp2_with fail
      refine FD.out.mono ?_
      rintro e W1 ⟨rfl, k1⟩
      have M1 := Lib.hid (HM.out.old k1)
      have y1 := Lm.cell_on k1 y1
      have pi := Lm.cell_on k1 pi
      have GI := Lib.hid (give_small (show c < 4 by omega) M1.out HV.out.inv HO.out)
      have E1 := Lib.hid (show Same pl (pl.re W.heap.size 97) from ⟨rfl, rfl, rfl⟩)
      have F1 := Lib.hid (show Kept (Fr F) W W1 from k1.any)
      clear k1
      go_wp2_with fail
      refine (SM.out _).mono ?_
      rintro e w' ⟨rfl, rfl⟩
      go_wp2_with fail
      refine GI.out.mono ?_
      rintro e W2 ⟨rfl, L⟩
      obtain ⟨⟨pl2, m2, e2⟩, f2⟩ := L
      have M2 := Lib.hid m2
      have E2 := Lib.hid (Same.trans E1.out e2)
      have F2 := Lib.hid (F1.out.trans f2)
      have DE := Lib.hid (live_del M2.out i hl (by omega))
      have c13 := M2.out.c13
      have hs := M2.out.st.box.lt
      obtain ⟨Av, cv, ev, _, _, _⟩ := M2.out.lv.ow.rs
      rw [ev] at DE c13
      clear m2 e2 f2 ev pi y1
      go_wp2_with fail
      refine DE.out.mono ?_
      rintro e X ⟨A', nn, cc', rfl, x0, x1, L3⟩
      go_wp2_with fail
      go_ret
      refine EP.out _ _ _ _ ER.out ?_
      have z := L3.out
      rw [DL.out, ← G.out] at z
      exact Left.trans E2.out F2.out z
    · have sm := smallB_out cl (Or.inr (by omega))
      rw [sm] at SM
      have G := Lib.hid (GV.out.2 sm)
      clear GV sm
      go_enter Tryz.func20, Tryz.ntmps20
      go_wp2_with fail
      refine FD.out.mono ?_
      rintro e W1 ⟨rfl, k1⟩
      have M1 := Lib.hid (HM.out.old k1)
      have y1 := Lm.cell_on k1 y1
      have pi := Lm.cell_on k1 pi
      have GI := Lib.hid (give_large (show 4 ≤ cl by omega) M1.out HV.out.inv HO.out)
      have E1 := Lib.hid (show Same pl (pl.re W.heap.size 97) from ⟨rfl, rfl, rfl⟩)
      have F1 := Lib.hid (show Kept (Fr F) W W1 from k1.any)
      clear k1
      go_wp2_with fail
      refine (SM.out _).mono ?_
      rintro e w' ⟨rfl, rfl⟩
      go_wp2_with fail
      refine GI.out.mono ?_
      rintro e W2 ⟨rfl, L⟩
      obtain ⟨⟨pl2, m2, e2⟩, f2⟩ := L
      have M2 := Lib.hid m2
      have E2 := Lib.hid (Same.trans E1.out e2)
      have F2 := Lib.hid (F1.out.trans f2)
      have DE := Lib.hid (live_del M2.out i hl (by omega))
      have c13 := M2.out.c13
      have hs := M2.out.st.box.lt
      obtain ⟨Av, cv, ev, _, _, _⟩ := M2.out.lv.ow.rs
      rw [ev] at DE c13
      clear m2 e2 f2 ev pi y1
      go_wp2_with fail
      refine DE.out.mono ?_
      rintro e X ⟨A', nn, cc', rfl, x0, x1, L3⟩
      go_wp2_with fail
      go_ret
      refine EP.out _ _ _ _ ER.out ?_
      have z := L3.out
      rw [DL.out, ← G.out] at z
      exact Left.trans E2.out F2.out z
end calls
end Go.Proofs.YtjfkmgicbakmgaaGreat.Sto
