/-
  For every input the law StoreAgain of rickyard/rickyardlaw14 returns true, and its arguments read afterwards as before. The law's own sentence: While the phase is on, a stack that is freed is the next one of its class that is allocated, if it is free, or waits, and none of its class below it does. No further conditions.
-/
import Derived.Test.YtjfkmgicbakmgaaGreatRows
import Derived.SizedLaws
import Derived.WalkKit
import Derived.ProofKit
import Derived.OpenShut
import Derived.ChangeOld
import Derived.Below
import Derived.Lib.SmallJoins
import Derived.Deep.CutRange
import Derived.Test.YtjfkmgicbakmgaaGreatJBase
import Derived.Test.YtjfkmgicbakmgaaGreatJStoreAgainM
import Derived.Test.YtjfkmgicbakmgaaGreatJStoreCov
import Derived.Test.YtjfkmgicbakmgaaGreatJStorePlayed
namespace Go.Proofs.YtjfkmgicbakmgaaGreat.storeAgain
open Go.ChangeShapes Go.WideShapes Go.ChangeAt Go.RowKit
set_option linter.unusedVariables false
set_option maxRecDepth 100000

theorem own : ownKnob Tryz.prog.godebug = none := by kernel_rfl
theorem laidOut : laidOutB Tryz.prog = true := by kernel_rfl
open Sto
theorem metP_step {l : List Pc} {a w : Int} {j : Nat} {y : Pc} (hy : l[j]? = some y) : metP (l.take (j + 1)) a w = (metP (l.take j) a w || decide (y = (a, w))) := by
  unfold metP
  rw [Prt.take_at hy, List.any_append]
  simp only [List.any_cons, List.any_nil, Bool.or_false]
theorem belowP_step {l : List Pc} {a w : Int} {j : Nat} {y : Pc} (hy : l[j]? = some y) : belowP (l.take (j + 1)) a w = (belowP (l.take j) a w || decide (y.2 = w ∧ y.1 < a)) := by
  unfold belowP
  rw [Prt.take_at hy, List.any_append]
  simp only [List.any_cons, List.any_nil, Bool.or_false]
theorem field1 (v0 v1 v2 v3 v4 v5 v6 : Value) (V : World) : (Instr.field 44 (.agg #[v0, v1, v2, v3, v4, v5, v6]) 1).run Tryz.prog V = .ok v1 V := by rfl
theorem field3 (v0 v1 v2 v3 v4 v5 v6 : Value) (V : World) : (Instr.field 44 (.agg #[v0, v1, v2, v3, v4, v5, v6]) 3).run Tryz.prog V = .ok v3 V := by rfl
theorem freeR_yes {k : Sto.K} {live : List Lm.S} {a : Int} (h : Lm.hasB live a = true) : freeR k live a = (gaveR k a (classAt live a), Lm.delL live a, 0) := by unfold freeR; rw [if_pos h]
theorem give_on {k : Sto.K} (h : k.on = true) (a : Int) (c : Int) : (gaveR k a c).rl = k.rl ∧ (gaveR k a c).on = true := by
  unfold gaveR giveSR giveLR
  simp only [h, if_true]
  repeat' split
  all_goals first | exact ⟨rfl, h⟩ | exact ⟨rfl, rfl⟩
theorem parts_len {P : Nat} {k : Sto.K} {live : List Lm.S} {l0 l1 l3 l4 l5 : List Pc} (v : Sv P k live) (po : PartsOf k live l0 l1 l3 l4 l5) : l0.length ≤ 20000 ∧ l1.length ≤ 20000 ∧ l3.length ≤ 20000 ∧ l4.length ≤ 20000 ∧ l5.length ≤ 20000 := by
  have c := cov_parts v po
  have hP := v.inv.pages
  have a0 := c.len (show 0 < 7 by omega)
  have a1 := c.len (show 1 < 7 by omega)
  have a3 := c.len (show 3 < 7 by omega)
  have a4 := c.len (show 4 < 7 by omega)
  have a5 := c.len (show 5 < 7 by omega)
  simp only [seq7] at a0 a1 a3 a4 a5
  omega

set_option maxHeartbeats 4000000 in
/-- The walk: the Go text returns true, and nothing that was there has turned. -/
theorem walk (a0 : Int) (a1 : Option Addr) (len1 cap1 : Nat) (z1 : Nat → Int) (a2 : Int) (w : World) (w0 : (Lit.int .u8 a0).wf = true) (w1 : len1 ≤ cap1 ∧ cap1 ≤ maxLen ∧ (∀ i, i < len1 → (Lit.int .u8 (z1 i)).wf = true) ∧ Sl w a1 1 len1 fun i _ => .int .u8 (z1 i)) (rch1 : cap1 * 1 ≤ 140737488351232 ∧ (a1 = none → len1 = 0 ∧ cap1 = 0)) (w2 : (Lit.int .u8 a2).wf = true) :
    Calls Tryz.prog 10 #[.int .u8 a0, .slice a1 len1 cap1, .int .u8 a2] w fun e w' => e = .returned (.bool true) ∧ Kept Old w w' := by
  obtain ⟨v0, v1, v2, v3⟩ := w1
  have hl : len1 ≤ 9223372036854775807 := by unfold maxLen at v1; omega
  have hz := Lib.hid (show ∀ i, i < len1 → 0 ≤ z1 i ∧ z1 i ≤ 255 from fun i hi => bounds_u8 (v2 i hi))
  have HS := Lib.hid v3
  obtain ⟨p1, p2⟩ := bounds_u8 w0
  obtain ⟨u, rfl⟩ : ∃ u : Nat, a0 = (u : Int) := ⟨a0.toNat, by omega⟩
  obtain ⟨P, hP, P1, P2⟩ : ∃ P : Nat, 1 + (u : Int) = (P : Int) ∧ 1 ≤ P ∧ P ≤ 256 := ⟨1 + u, by omega, by omega, by omega⟩
  obtain ⟨b, hb, hb5⟩ : ∃ b : Nat, a2 = (b : Int) ∧ b ≤ 255 := by obtain ⟨g1, g2⟩ := bounds_u8 w2; exact ⟨a2.toNat, by omega, by omega⟩
  subst hb
  clear w2
  have PL := Lib.hid (played_any u P (by omega) hP a1 len1 cap1 z1 hl hz.out HS.out)
  clear v0 v1 v2 v3 w0
  go_enter Tryz.func10, Tryz.ntmps10
  go_wp2_with fail
  refine PL.out.mono ?_
  rintro e W1 ⟨s, rfl, k0, live, pl0, m0, sv0⟩
  have M0 := Lib.hid m0
  have V0 := Lib.hid sv0
  clear m0 sv0 PL
  go_wp2_with fail
  refine (sgc_any true M0.out V0.out.inv).mono ?_
  rintro e W2 ⟨rfl, ⟨pl1, m1, _⟩, f1⟩
  have M1 := Lib.hid m1
  have SV := Lib.hid (V0.out.gc true)
  have ON := Lib.hid (show (gcK k0 true).on = true from rfl)
  generalize gcK k0 true = k at *
  clear m1 f1 M0 V0
  go_wp2_with fail
  refine (slive_any M1.out (by have := SV.out.val.len; omega)).mono ?_
  rintro e X1 ⟨vl, rfl, AL, nL, cL, rfl, RL, _, NL, kl⟩
  have ln := RL.len
  have lv := SV.out.val.len
  by_cases n0 : nL = 0
  · subst n0
    have MA := Lib.hid (M1.out.old kl)
    clear RL NL kl ln
    go_wp2_with fail
    refine (awake_any _).mono ?_
    rintro e X2 ⟨rfl, k2⟩
    have KE := Lib.hid (MA.out.ff.kept.trans k2)
    clear k2
    go_wp2_with fail
    go_ret
    exact ⟨rfl, KE.out⟩
  · have hn0 : ¬ (nL : Int) = 0 := by omega
    obtain ⟨q, hq, hqn⟩ : ∃ q : Nat, b % nL = q ∧ q < nL := ⟨_, rfl, Nat.mod_lt _ (by omega)⟩
    have hq2 : (b : Int) % (nL : Int) = (q : Int) := by omega
    have hqn2 : (q : Int) < (nL : Int) := by omega
    obtain ⟨g3, o3, x, rfl, hg3, hx, _, y0, y1, y2⟩ := RL.get hqn
    obtain ⟨hh, hp⟩ := SV.out.val.found hx rfl
    have ca : classAt live x.a = x.n := by obtain ⟨x', hx', _, en, _⟩ := SV.out.at_ hh; rw [hp, hx] at hx'; injection hx' with hx'; rw [← en, ← hx']
    have oo : outOf live x.a x.n := ⟨x, List.mem_of_getElem? hx, rfl, rfl⟩
    have AG := Lib.hid (again_any SV.out ON.out oo ca)
    have lyx := SV.out.inv.lies oo
    have c0x := lyx.c0
    have c7x := lyx.c7
    have KA : Kept Old X1 (X1.alloc (.cells #[.int .i64 x.a, .int .i64 x.n, .int .i64 x.c] 52)) := (Kept.refl Old X1).alloc _
    have XB := Blk.new X1 52 [.int .i64 x.a, .int .i64 x.n, .int .i64 x.c]
    have MA := Lib.hid (M1.out.more (G := fun b => b = X1.heap.size) (kl.trans KA) (fun b hb => .inr ⟨by rw [hb]; exact kl.size, by rw [hb]; exact XB.lt⟩))
    have z0 := XB.cell 0
    have z1' := XB.cell 1
    simp only [List.getElem?_cons_succ, List.getElem?_cons_zero] at z0 z1'
    have XB := Lib.hid XB
    have FV := SV.out.freeR x.a
    have F1 := fun X pl' (m' : StM w X s P k live (fun b => b = X1.heap.size) pl') => sfree_any x.a m' SV.out
    rw [freeR_yes hh, ca] at FV
    simp only [freeR_yes hh, ca] at F1
    have FV := Lib.hid FV
    have F1 := Lib.hid (F1 _ _ MA.out)
    have on2 := Lib.hid (give_on ON.out x.a x.n).2
    generalize hkk : gaveR k x.a x.n = kk at *
    have hkk := Lib.hid hkk
    generalize Lm.delL live x.a = live2 at *
    have WD := Lib.hid (fun X => rwords_any x.n X)
    have SM := Lib.hid (fun X => rsmall_any x.n X)
    obtain ⟨cw, cb⟩ := class_words c0x c7x
    have cw := Lib.hid cw
    have cb := Lib.hid cb
    have lw := wordsI_lim x.n
    clear hx hh hp ca oo lyx RL NL kl KA M1 SV ON lv
    go_wp2_with fail
    generalize hxb : X1.heap.size = xb at *
    generalize X1.alloc (.cells #[.int .i64 x.a, .int .i64 x.n, .int .i64 x.c] 52) = X2 at *
    clear hxb y0 y1 y2
    refine (WD.out _).mono ?_
    rintro e w' ⟨rfl, rfl⟩
    go_wp2_with fail
    refine F1.out.mono ?_
    rintro e X3 ⟨rfl, ⟨pl3, m3, _⟩, f3⟩
    have M3 := Lib.hid m3
    have XC := Lib.hid (XB.out.kept f3 (fun z => z rfl))
    clear m3 f3 F1 MA XB z0 z1'
    have z0 := XC.out.cell 0
    have z1' := XC.out.cell 1
    simp only [List.getElem?_cons_succ, List.getElem?_cons_zero] at z0 z1'
    go_wp2_with fail
    refine (sparts_any M3.out FV.out).mono ?_
    rintro e X4 ⟨vp, l0, l1, l3, l4, l5, rfl, ⟨q0, q1, q2, q3, q4, q5, q6, rfl, ⟨A0, n0, c0, rfl, r0, _⟩, ⟨A1, n1, c1, rfl, r1, _⟩, ⟨A2, n2, c2, rfl, r2, _⟩, ⟨A3, n3, c3, rfl, r3, _⟩, ⟨A4, n4, c4, rfl, r4, _⟩, ⟨A5, n5, c5, rfl, r5, _⟩, ⟨A6, n6, c6, rfl, r6, _⟩⟩, po, kp⟩
    have M4 := Lib.hid (M3.out.old kp)
    have XD := Lib.hid (XC.out.kept (D := Old) kp (fun z => z))
    have PO := Lib.hid po
    have R1 := Lib.hid r1
    have K34 := Lib.hid kp
    have fd := field1 (.slice A0 n0 c0) (.slice A1 n1 c1) (.slice A2 n2 c2) (.slice A3 n3 c3) (.slice A4 n4 c4) (.slice A5 n5 c5) (.slice A6 n6 c6) X4
    clear r0 r1 r2 r3 r4 r5 r6 po kp M3 XC z0 z1'
    have z0 := XD.out.cell 0
    have z1' := XD.out.cell 1
    simp only [List.getElem?_cons_succ, List.getElem?_cons_zero] at z0 z1'
    go_upto_if 52 with (go_at_call 31; refine (SM.out _).mono ?_; rintro e w' ⟨rfl, rfl⟩)
    go_cut [11] from 49 to 56 (fun sv wx => ∃ (A : Option Addr) (m c : Nat) (lz : List Pc), sv = .slice A m c ∧ Hid (Pc.Rs wx A m lz) ∧ Hid (Kept Old X4 wx) ∧ Hid ((smallB x.n = true → lz.Perm (poolP kk.p)) ∧ (smallB x.n = false → lz.Perm (outP kk.big))) ∧ lz.length ≤ 20000)
    case first =>
      cases hs : smallB x.n with
      | true =>
        have hs' := hs
        go_wp2_with fail
        go_meet
        exact ⟨A1, n1, c1, l1, rfl, R1, Lib.hid (Kept.refl _ _), Lib.hid ⟨fun _ => PO.out.p.perm, fun q => absurd (hs.symm.trans q) (by decide)⟩, by have := (parts_len FV.out PO.out).2.1; omega⟩
      | false =>
        have hs' := hs
        go_wp2_with fail
        refine (sparts_any M4.out FV.out).mono ?_
        rintro e X5 ⟨vp, m0, m1, m3, m4, m5, rfl, ⟨q0, q1, q2, q3, q4, q5, q6, rfl, ⟨B0, i0, d0, rfl, r0, _⟩, ⟨B1, i1, d1, rfl, r1, _⟩, ⟨B2, i2, d2, rfl, r2, _⟩, ⟨B3, i3, d3, rfl, r3, _⟩, ⟨B4, i4, d4, rfl, r4, _⟩, ⟨B5, i5, d5, rfl, r5, _⟩, ⟨B6, i6, d6, rfl, r6, _⟩⟩, po, kp⟩
        have fd := field3 (.slice B0 i0 d0) (.slice B1 i1 d1) (.slice B2 i2 d2) (.slice B3 i3 d3) (.slice B4 i4 d4) (.slice B5 i5 d5) (.slice B6 i6 d6) X5
        have R3 := Lib.hid r3
        have PO2 := Lib.hid po
        have KP := Lib.hid kp
        clear r0 r1 r2 r3 r4 r5 r6 po kp
        go_wp2_with fail
        go_meet
        exact ⟨B3, i3, d3, m3, rfl, R3, KP, Lib.hid ⟨fun q => absurd (hs.symm.trans q) (by decide), fun _ => PO2.out.b.perm⟩, by have := (parts_len FV.out PO2.out).2.2.1; omega⟩
    case rest =>
      obtain ⟨A, m, c, lz, rfl, RZ, KZ, PZ, lz0⟩ := hcut
      rename World => Y
      clear fd R1 z0 z1' PO
      have lm := RZ.out.len
      have XE := Lib.hid (XD.out.kept (D := Old) KZ.out (fun z => z))
      have M5 := Lib.hid (M4.out.old KZ.out)
      clear XD M4 K34
      generalize hw : wordsI x.n = ww at *
      have hw := Lib.hid hw
      go_wp2_with fail
      go_loopw [12, 13, 14] (fun s12 s13 s14 wr => ∃ j : Nat, j ≤ m ∧ s14 = .int .i64 (j : Int) ∧ s12 = .bool (metP (lz.take j) x.a ww) ∧ s13 = .bool (belowP (lz.take j) x.a ww) ∧ Hid (Kept Old Y wr)) (fun _ _ s14 _ => m + 1 - (intOf s14).toNat)
      case atStart => exact ⟨0, Nat.zero_le _, rfl, by rw [List.take_zero]; rfl, by rw [List.take_zero]; rfl, Lib.hid (Kept.refl _ _)⟩
      case round =>
        obtain ⟨j, hj, rfl, rfl, rfl, KJ⟩ := hrel
        rename World => V
        have wj : IntKind.i64.wrap ((j : Int) + 1) = (j : Int) + 1 := IntWalk.i64_in _ (by omega)
        have z0 := (XE.out.kept (D := Old) KJ.out (fun z => z)).cell 0
        have z1' := (XE.out.kept (D := Old) KJ.out (fun z => z)).cell 1
        simp only [List.getElem?_cons_succ, List.getElem?_cons_zero] at z0 z1'
        by_cases cj : j < m
        · have cj' : (j : Int) < (m : Int) := by omega
          have j0 : ¬ (j : Int) < 0 := by omega
          obtain ⟨g, o, y, rfl, hg, hy, _, _, y0, y1⟩ := (RZ.out.old KJ.out).get cj
          have ms := metP_step (a := x.a) (w := ww) hy
          have bs := belowP_step (a := x.a) (w := ww) hy
          generalize metP (lz.take j) x.a ww = mj at *
          generalize belowP (lz.take j) x.a ww = bj at *
          obtain ⟨ya, yw⟩ := y
          simp only at y0 y1
          clear hy
          have fin : ∀ (mm bb : Bool), (mj || decide ((ya, yw) = (x.a, ww))) = mm → (bj || decide (yw = ww ∧ ya < x.a)) = bb → metP (lz.take (j + 1)) x.a ww = mm ∧ belowP (lz.take (j + 1)) x.a ww = bb := fun mm bb h1 h2 => ⟨ms.trans h1, bs.trans h2⟩
          have fin := Lib.hid fin
          clear ms bs
          cases mj with
          | true =>
            cases bj with
            | true =>
              have FI := Lib.hid (fin.out true true (by simp) (by simp))
              go_wp2_with fail
              go_quiet (fail)
              go_wp2_with fail
              go_quiet (fail)
              go_wp2_with fail
              exact ⟨⟨j + 1, by omega, by go_num, by rw [FI.out.1] <;> (congr 1; exact decide_eq_false (by omega)), by rw [FI.out.2] <;> first | (congr 1; exact decide_eq_false (by omega)) | (congr 1; exact decide_eq_true (by omega)), Lib.hid (KJ.out.drewN _)⟩, by simp [intOf] <;> omega⟩
            | false =>
              by_cases ew : yw = ww
              · by_cases lt : ya < x.a
                · have FI := Lib.hid (fin.out true true (by simp) (by rw [decide_eq_true ⟨ew, lt⟩]; rfl))
                  go_wp2_with fail
                  go_quiet (fail)
                  go_wp2_with fail
                  go_quiet (fail)
                  go_wp2_with fail
                  exact ⟨⟨j + 1, by omega, by go_num, by rw [FI.out.1] <;> (congr 1; exact decide_eq_false (by omega)), by rw [FI.out.2] <;> first | (congr 1; exact decide_eq_false (by omega)) | (congr 1; exact decide_eq_true (by omega)), Lib.hid (KJ.out.drewN _)⟩, by simp [intOf] <;> omega⟩
                · have FI := Lib.hid (fin.out true false (by simp) (by rw [decide_eq_false (fun q => lt q.2)]; rfl))
                  go_wp2_with fail
                  go_quiet (fail)
                  go_wp2_with fail
                  go_quiet (fail)
                  go_wp2_with fail
                  exact ⟨⟨j + 1, by omega, by go_num, by rw [FI.out.1] <;> (congr 1; exact decide_eq_false (by omega)), by rw [FI.out.2] <;> first | (congr 1; exact decide_eq_false (by omega)) | (congr 1; exact decide_eq_true (by omega)), Lib.hid (KJ.out.drewN _)⟩, by simp [intOf] <;> omega⟩
              · have FI := Lib.hid (fin.out true false (by simp) (by rw [decide_eq_false (fun q => ew q.1)]; rfl))
                go_wp2_with fail
                go_quiet (fail)
                go_wp2_with fail
                go_quiet (fail)
                go_wp2_with fail
                exact ⟨⟨j + 1, by omega, by go_num, by rw [FI.out.1] <;> (congr 1; exact decide_eq_false (by omega)), by rw [FI.out.2] <;> first | (congr 1; exact decide_eq_false (by omega)) | (congr 1; exact decide_eq_true (by omega)), Lib.hid (KJ.out.drewN _)⟩, by simp [intOf] <;> omega⟩
          | false =>
            by_cases eq : ya = x.a ∧ yw = ww
            · obtain ⟨e1, e2⟩ := eq
              subst e1
              subst e2
              cases bj with
              | true =>
                have FI := Lib.hid (fin.out true true (by simp) (by simp))
                go_wp2_with fail
                go_quiet (fail)
                go_wp2_with fail
                go_quiet (fail)
                go_wp2_with fail
                exact ⟨⟨j + 1, by omega, by go_num, by rw [FI.out.1] <;> (congr 1; exact decide_eq_false (by omega)), by rw [FI.out.2] <;> first | (congr 1; exact decide_eq_false (by omega)) | (congr 1; exact decide_eq_true (by omega)), Lib.hid (KJ.out.drewN _)⟩, by simp [intOf] <;> omega⟩
              | false =>
                have FI := Lib.hid (fin.out true false (by simp) (by simp))
                go_wp2_with fail
                go_quiet (fail)
                go_wp2_with fail
                go_quiet (fail)
                go_wp2_with fail
                exact ⟨⟨j + 1, by omega, by go_num, by rw [FI.out.1] <;> (congr 1; exact decide_eq_false (by omega)), by rw [FI.out.2] <;> first | (congr 1; exact decide_eq_false (by omega)) | (congr 1; exact decide_eq_true (by omega)), Lib.hid (KJ.out.drewN _)⟩, by simp [intOf] <;> omega⟩
            · have ne : ¬ (ya, yw) = (x.a, ww) := fun q => eq (by injection q with q1 q2; exact ⟨q1, q2⟩)
              cases bj with
              | true =>
                have FI := Lib.hid (fin.out false true (by rw [decide_eq_false ne]; rfl) (by simp))
                by_cases ew : yw = ww
                · have ea : ¬ ya = x.a := fun q => eq ⟨q, ew⟩
                  go_wp2_with fail
                  go_quiet (fail)
                  go_wp2_with fail
                  go_quiet (fail)
                  go_wp2_with fail
                  exact ⟨⟨j + 1, by omega, by go_num, by rw [FI.out.1] <;> (congr 1; exact decide_eq_false (by omega)), by rw [FI.out.2] <;> first | (congr 1; exact decide_eq_false (by omega)) | (congr 1; exact decide_eq_true (by omega)), Lib.hid (KJ.out.drewN _)⟩, by simp [intOf] <;> omega⟩
                · go_wp2_with fail
                  go_quiet (fail)
                  go_wp2_with fail
                  go_quiet (fail)
                  go_wp2_with fail
                  exact ⟨⟨j + 1, by omega, by go_num, by rw [FI.out.1] <;> (congr 1; exact decide_eq_false (by omega)), by rw [FI.out.2] <;> first | (congr 1; exact decide_eq_false (by omega)) | (congr 1; exact decide_eq_true (by omega)), Lib.hid (KJ.out.drewN _)⟩, by simp [intOf] <;> omega⟩
              | false =>
                by_cases ew : yw = ww
                · by_cases lt : ya < x.a
                  · have FI := Lib.hid (fin.out false true (by rw [decide_eq_false ne]; rfl) (by rw [decide_eq_true ⟨ew, lt⟩]; rfl))
                    go_wp2_with fail
                    go_quiet (fail)
                    go_wp2_with fail
                    go_quiet (fail)
                    go_wp2_with fail
                    exact ⟨⟨j + 1, by omega, by go_num, by rw [FI.out.1] <;> (congr 1; exact decide_eq_false (by omega)), by rw [FI.out.2] <;> first | (congr 1; exact decide_eq_false (by omega)) | (congr 1; exact decide_eq_true (by omega)), Lib.hid (KJ.out.drewN _)⟩, by simp [intOf] <;> omega⟩
                  · have FI := Lib.hid (fin.out false false (by rw [decide_eq_false ne]; rfl) (by rw [decide_eq_false (fun q => lt q.2)]; rfl))
                    go_wp2_with fail
                    go_quiet (fail)
                    go_wp2_with fail
                    go_quiet (fail)
                    go_wp2_with fail
                    exact ⟨⟨j + 1, by omega, by go_num, by rw [FI.out.1] <;> (congr 1; exact decide_eq_false (by omega)), by rw [FI.out.2] <;> first | (congr 1; exact decide_eq_false (by omega)) | (congr 1; exact decide_eq_true (by omega)), Lib.hid (KJ.out.drewN _)⟩, by simp [intOf] <;> omega⟩
                · have FI := Lib.hid (fin.out false false (by rw [decide_eq_false ne]; rfl) (by rw [decide_eq_false (fun q => ew q.1)]; rfl))
                  go_wp2_with fail
                  go_quiet (fail)
                  go_wp2_with fail
                  go_quiet (fail)
                  go_wp2_with fail
                  exact ⟨⟨j + 1, by omega, by go_num, by rw [FI.out.1] <;> (congr 1; exact decide_eq_false (by omega)), by rw [FI.out.2] <;> first | (congr 1; exact decide_eq_false (by omega)) | (congr 1; exact decide_eq_true (by omega)), Lib.hid (KJ.out.drewN _)⟩, by simp [intOf] <;> omega⟩
        · have cj' : ¬ (j : Int) < (m : Int) := by omega
          have M6 := Lib.hid (M5.out.old KJ.out)
          have AF : metP lz x.a ww = metP (lz.take j) x.a ww ∧ belowP lz x.a ww = belowP (lz.take j) x.a ww := by rw [List.take_of_length_le (by omega)]; exact ⟨rfl, rfl⟩
          generalize metP (lz.take j) x.a ww = mf at *
          generalize belowP (lz.take j) x.a ww = bf at *
          have AF := Lib.hid AF
          cases mf with
          | false =>
            have sm : smallB x.n = true := by
              cases hs : smallB x.n with
              | true => rfl
              | false =>
                exfalso
                have a1 := AG.out.1 hs
                rw [← metP_perm (PZ.out.2 hs), AF.out.1] at a1
                cases a1
            rw [sm] at SM
            go_wp2_with fail
            refine (SM.out _).mono ?_
            rintro e w' ⟨rfl, rfl⟩
            go_wp2_with fail
            refine (awake_any _).mono ?_
            rintro e Z1 ⟨rfl, k7⟩
            have KE := Lib.hid (M6.out.ff.kept.trans k7)
            clear k7
            go_wp2_with fail
            go_ret
            exact ⟨rfl, KE.out⟩
          | true =>
            cases bf with
            | true =>
              go_wp2_with fail
              refine (awake_any _).mono ?_
              rintro e Z1 ⟨rfl, k7⟩
              have KE := Lib.hid (M6.out.ff.kept.trans k7)
              clear k7
              go_wp2_with fail
              go_ret
              exact ⟨rfl, KE.out⟩
            | false =>
              have TK : (tookR P kk x.n).2.1 = x.a ∧ (tookR P kk x.n).2.2 = 0 := by
                have t := AG.out.2
                refine t (fun hs => ?_) (fun hs => ?_)
                · rw [← metP_perm (PZ.out.1 hs), ← belowP_perm (PZ.out.1 hs)]; exact AF.out
                · rw [← belowP_perm (PZ.out.2 hs)]; exact AF.out.2
              have AL := salloc_any ww M6.out FV.out
              have cw' : classI ww = x.n := cw.out
              have cb' : classB ww = true := cb.out
              have ae := alloc_yes (P := P) (k := kk) (live := live2) cb' (by rw [cw']; exact TK.2)
              rw [cw', TK.1] at ae
              rw [ae] at AL
              have AL := Lib.hid AL
              clear TK ae cw' cb'
              go_wp2_with fail
              refine AL.out.mono ?_
              rintro e Z1 ⟨rfl, ⟨pl7, m7, _⟩, f7⟩
              have M7 := Lib.hid m7
              have y0 := ((XE.out.kept (D := Old) KJ.out (fun z => z)).kept f7 (fun z => z rfl)).cell 0
              simp only [List.getElem?_cons_zero] at y0
              clear m7 f7 AL z0 z1'
              go_wp2_with fail
              refine (awake_any _).mono ?_
              rintro e Z2 ⟨rfl, k8⟩
              have KE := Lib.hid (M7.out.ff.kept.trans k8)
              clear k8
              go_wp2_with fail
              go_ret
              exact ⟨rfl, KE.out⟩

/-- The row's step. -/
theorem lifted (os : Os) (started : os.Started) (H : Type) (enc : TypeId × Value → H) :
    ReturnsInHanded {} Tryz.checked os 10 .any (Rows.storeAgainSpec.pre6 enc Tryz.prog Tryz.f10 Rows.storeAgainRow.domain false) (Rows.storeAgainSpec.post enc Tryz.prog Tryz.f10 false true false false) := by
  refine returnsInHanded_of_change_sized (C := Tryz.checked) own started (by kernel_rfl) Tryz.func10
    (ChangeSpec.witness6 (enc := enc) (C := Tryz.checked) false ⟨#[], #[.int .u8 0, .slice none 0 0, .int .u8 0], []⟩ 8 (by kernel_rfl) (by kernel_rfl) (by kernel_rfl) (by kernel_rfl)) ?_
  intro W base args ds gs before hval0 hW hcnd hsz0 _
  have hsz : (DataW.weightsEach Tryz.prog (Tryz.f10.params.toList ++ Rows.storeAgainSpec.plain.varTypes Tryz.prog) (ds ++ gs)).all (· ≤ reachBytes) = true := hsz0
  have hval : ∀ (j : Nat) t v, Tryz.f10.params[j]? = some t → args[j]? = some v → Value.okWide Tryz.prog W .any base t v := hval0
  have hW' := hW
  obtain ⟨p, q, hA0, hV, rfl, hfz, hnd⟩ := hW
  have hA : DataW.TrodAll enc Tryz.prog W 0 (fun _ => true) true Tryz.f10.params.toList args.toList ds p := hA0
  rw [Tryz.params10] at hA hval hsz
  obtain ⟨v0, vs0, d0, ds0, p0, q0, hargs, rfl, rfl, h0, r0⟩ := trodAll_cons hA
  obtain ⟨v1, vs1, d1, ds1, p1, q1, rfl, rfl, rfl, h1, r1⟩ := trodAll_cons r0
  obtain ⟨v2, vs2, d2, ds2, p2, q2, rfl, rfl, rfl, h2, r2⟩ := trodAll_cons r1
  obtain ⟨rfl, rfl, rfl⟩ := trodAll_nil r2
  obtain rfl : args = #[v0, v1, v2] := by cases args; simp_all
  obtain ⟨rfl, rfl⟩ := trodVars_none hV
  obtain ⟨a0, rfl, rfl, rfl, w0⟩ := open_int Tryz.underlying5 (hval 0 5 v0 rfl rfl) h0
  have k1 := h1
  have lt1 : ∀ x ∈ p1, x.block < W.heap.size := by obtain ⟨m, hm⟩ := k1; exact DataW.trod_lt m _ _ _ hm
  obtain ⟨a1, len1, cap1, rfl⟩ := okWide_slice Tryz.underlying22 (hval 1 22 v1 rfl rfl)
  obtain ⟨z1, w1⟩ := ints_in Tryz.underlying22 Tryz.underlying5 (by kernel_rfl) h1
  have rch1 := slice_reach (j := 1) Tryz.underlying22 (show Tryz.prog.bytesOf 5 = 1 by kernel_rfl) k1 hsz rfl rfl
  obtain ⟨a2, rfl, rfl, rfl, w2⟩ := open_int Tryz.underlying5 (hval 2 5 v2 rfl rfl) h2
  clear hA0 hval0
  refine (walk a0 a1 len1 cap1 z1 a2 W w0 w1 rch1 w2).mono fun e W' ⟨he, kept⟩ => ?_
  subst he
  have bel : Below W.heap.size W W' := kept.toBelow (Nat.le_refl _) (fun _ x => x.elim)
  exact ⟨_, rfl, _, _, _, [], _, [], hW', trodAll_mk1 (shut_bool Tryz.underlying4 _), (trodAll_cons_mk (shut_int Tryz.underlying5 w0) (trodAll_cons_mk (Below.trod laidOut (by kernel_rfl) (of_decide_eq_true (by kernel_rfl)) k1 bel lt1) (trodAll_cons_mk (shut_int Tryz.underlying5 w2) trodAll_mk0))), rfl, bel.frame _, fun h => by cases h⟩

theorem over : Rows.StoreAgainSaid :=
  OpenClaim.holds_of_wide 10 Tryz.f10 rfl rfl rfl rfl rfl rfl rfl ⟨rfl, rfl, rfl, rfl, rfl⟩ rfl rfl rfl rfl rfl (by kernel_rfl) Tryz.func10 (by kernel_rfl)
    (of_decide_eq_true (by kernel_rfl)) (by unfold Func.isWrapper; first | (rw [if_pos (by decide +kernel)]; kernel_rfl) | (rw [if_neg (by decide +kernel)]; exact ⟨rfl, rfl⟩))
    (fun os started H enc _ => lifted os started H enc)

/-- The statement. -/
theorem proved : Rows.StoreAgainSaid := over
#print axioms proved
end Go.Proofs.YtjfkmgicbakmgaaGreat.storeAgain
