/-
  For every input the law StoreKept of rickyard/rickyardlaw14 returns true, and its arguments read afterwards as before. The law's own sentence: While the phase is on, what is freed never makes a free run greater; once it is off nothing waits, and nothing is kept back; live stacks are the same. No further conditions.
-/
import Derived.Test.YtjfkmgicbakmgaaGreatRows
import Derived.SizedLaws
import Derived.WalkKit
import Derived.ProofKit
import Derived.OpenShut
import Derived.ChangeOld
import Derived.Below
import Derived.Lib.SmallJoins
import Derived.Test.YtjfkmgicbakmgaaGreatJBase
import Derived.Test.YtjfkmgicbakmgaaGreatJModelNew
import Derived.Test.YtjfkmgicbakmgaaGreatJStoreCov
import Derived.Test.YtjfkmgicbakmgaaGreatJStorePlayed
import Derived.Test.YtjfkmgicbakmgaaGreatJStoreSameP
namespace Go.Proofs.YtjfkmgicbakmgaaGreat.storeKept
open Go.ChangeShapes Go.WideShapes Go.ChangeAt Go.RowKit
set_option linter.unusedVariables false
set_option maxRecDepth 100000

theorem own : ownKnob Tryz.prog.godebug = none := by kernel_rfl
theorem laidOut : laidOutB Tryz.prog = true := by kernel_rfl
open Sto
theorem give_on {k : Sto.K} (h : k.on = true) (a : Int) (c : Int) : (gaveR k a c).rl = k.rl ∧ (gaveR k a c).on = true := by
  unfold gaveR giveSR giveLR
  simp only [h, if_true]
  repeat' split
  all_goals first | exact ⟨rfl, h⟩ | exact ⟨rfl, rfl⟩
theorem field0 (v0 v1 v2 v3 v4 v5 v6 : Value) (V : World) : (Instr.field 44 (.agg #[v0, v1, v2, v3, v4, v5, v6]) 0).run Tryz.prog V = .ok v0 V := by rfl
theorem freeR_on {k : Sto.K} (live : List Lm.S) (a : Int) (h : k.on = true) : (freeR k live a).1.rl = k.rl ∧ (freeR k live a).1.on = true := by
  unfold freeR
  split
  · exact give_on h a _
  · exact ⟨rfl, h⟩
theorem freeR_hit (k : Sto.K) {live : List Lm.S} {a : Int} (h : Lm.hasB live a = true) : (freeR k live a).2.2 = 0 := by unfold freeR; rw [if_pos h]
theorem sum_pre {l : List Pc} (h : ∀ x ∈ l, 0 ≤ x.2) (j : Nat) : 0 ≤ sumP (l.take j) ∧ sumP (l.take j) ≤ sumP l := by
  have pos : ∀ l : List Pc, (∀ y ∈ l, 0 ≤ y.2) → 0 ≤ sumP l := by
    intro l
    induction l with
    | nil => intro _; exact Int.le_refl _
    | cons y t ih =>
      intro hy
      have := ih (fun z hz => hy z (List.mem_cons_of_mem _ hz))
      have := hy y List.mem_cons_self
      show 0 ≤ y.2 + sumP t
      omega
  have e : sumP l = sumP (l.take j) + sumP (l.drop j) := by rw [← sumP_append, List.take_append_drop]
  have a := pos (l.take j) (fun x hx => h x (List.mem_of_mem_take hx))
  have b := pos (l.drop j) (fun x hx => h x (List.mem_of_mem_drop hx))
  omega
theorem runs_lim {P : Nat} {k : Sto.K} {live : List Lm.S} (v : Sv P k live) : (runsP k.rl).length ≤ 257 ∧ ∀ j, 0 ≤ sumP ((runsP k.rl).take j) ∧ sumP ((runsP k.rl).take j) ≤ 1000000 := by
  have ln : (runsP k.rl).length ≤ 257 := by unfold runsP; rw [List.length_map]; exact v.inv.whole.len.1
  refine ⟨ln, fun j => ?_⟩
  have hP := v.inv.pages
  have f := v.inv.fits v.outs
  have all := sum_pre (l := allP k (liveC live)) (fun x hx => by have := (f x hx).2.1; omega) (runsP k.rl).length
  have e : (allP k (liveC live)).take (runsP k.rl).length = runsP k.rl := by unfold allP; rw [List.take_left]
  rw [e, v.inv.sums v.outs] at all
  have one := sum_pre (l := runsP k.rl) (fun x hx => by have := (f x (List.mem_append_left _ hx)).2.1; omega) j
  omega
theorem liv_lt {W : World} {A : Option Addr} {n : Nat} {l : List Lm.S} (h : Lm.RsS W A n l) {b : Nat} (hb : FR A n b) : b < W.heap.size := by
  obtain ⟨hn, ad, e, rfl⟩ := hb
  obtain ⟨g, o, rfl, hg, _⟩ := h.lies hn
  injection e with e
  subst e
  exact hg
theorem liv_fr {D : Nat → Prop} {W W' : World} {A : Option Addr} {n : Nat} {l : List Lm.S} (h : Lm.RsS W A n l) (k : Kept D W W') (hd : ∀ b, b < W.heap.size → FR A n b → ¬ D b) : Lm.RsS W' A n l := by
  by_cases hn : 0 < n
  · exact h.kept k (fun ad e => hd ad.block (liv_lt h ⟨hn, ad, e, rfl⟩) ⟨hn, ad, e, rfl⟩)
  · obtain rfl : n = 0 := by omega
    obtain rfl : l = [] := List.eq_nil_of_length_eq_zero h.len
    exact Lm.RsS.nil _ _

set_option maxHeartbeats 4000000 in
/-- The walk: the Go text returns true, and nothing that was there has turned. -/
theorem walk (a0 : Int) (a1 : Option Addr) (len1 cap1 : Nat) (z1 : Nat → Int) (a2 : Option Addr) (len2 cap2 : Nat) (z2 : Nat → Int) (w : World) (w0 : (Lit.int .u8 a0).wf = true) (w1 : len1 ≤ cap1 ∧ cap1 ≤ maxLen ∧ (∀ i, i < len1 → (Lit.int .u8 (z1 i)).wf = true) ∧ Sl w a1 1 len1 fun i _ => .int .u8 (z1 i)) (rch1 : cap1 * 1 ≤ 140737488351232 ∧ (a1 = none → len1 = 0 ∧ cap1 = 0)) (w2 : len2 ≤ cap2 ∧ cap2 ≤ maxLen ∧ (∀ i, i < len2 → (Lit.int .u8 (z2 i)).wf = true) ∧ Sl w a2 1 len2 fun i _ => .int .u8 (z2 i)) (rch2 : cap2 * 1 ≤ 140737488351232 ∧ (a2 = none → len2 = 0 ∧ cap2 = 0)) :
    Calls Tryz.prog 9 #[.int .u8 a0, .slice a1 len1 cap1, .slice a2 len2 cap2] w fun e w' => e = .returned (.bool true) ∧ Kept Old w w' := by
  obtain ⟨v0, v1, v2, v3⟩ := w1
  have hl : len1 ≤ 9223372036854775807 := by unfold maxLen at v1; omega
  have hz := Lib.hid (show ∀ i, i < len1 → 0 ≤ z1 i ∧ z1 i ≤ 255 from fun i hi => bounds_u8 (v2 i hi))
  have HS := Lib.hid v3
  obtain ⟨p1, p2⟩ := bounds_u8 w0
  obtain ⟨u, rfl⟩ : ∃ u : Nat, a0 = (u : Int) := ⟨a0.toNat, by omega⟩
  obtain ⟨P, hP, P1, P2⟩ : ∃ P : Nat, 1 + (u : Int) = (P : Int) ∧ 1 ≤ P ∧ P ≤ 256 := ⟨1 + u, by omega, by omega, by omega⟩
  obtain ⟨u0, u1, u2, u3⟩ := w2
  have hl2 : len2 ≤ 9223372036854775807 := by unfold maxLen at u1; omega
  have hz2 := Lib.hid (show ∀ i, i < len2 → 0 ≤ z2 i ∧ z2 i ≤ 255 from fun i hi => bounds_u8 (u2 i hi))
  have HS2 := Lib.hid u3
  clear u0 u1 u2 u3 v0 v1 v2 v3 w0
  have PL := Lib.hid (played_any u P (by omega) hP a1 len1 cap1 z1 hl hz.out HS.out)
  go_enter Tryz.func9, Tryz.ntmps9
  go_wp2_with fail
  refine PL.out.mono ?_
  rintro e W1 ⟨s, rfl, k0, live0, pl0, m0, sv0⟩
  have M0 := Lib.hid m0
  have V0 := Lib.hid sv0
  clear m0 sv0 PL
  go_wp2_with fail
  refine (sgc_any true M0.out V0.out.inv).mono ?_
  rintro e W2 ⟨rfl, ⟨pl1, m1, _⟩, f1⟩
  have M1 := Lib.hid m1
  have V1 := Lib.hid (V0.out.gc true)
  clear m1 f1 M0
  go_wp2_with fail
  go_loopw [8] (fun s8 wr => ∃ (i : Nat) (k : Sto.K) (live : List Lm.S) (pl : Pl), i ≤ 100 ∧ s8 = .int .i64 (i : Int) ∧ Hid (StM w wr s P k live NoB pl) ∧ Hid (Sv P k live) ∧ Hid (k.on = true)) (fun s8 _ => 102 - (intOf s8).toNat)
  case atStart => exact ⟨0, _, _, _, by omega, rfl, M1, V1, Lib.hid rfl⟩
  case round =>
    clear M1 V1 V0
    obtain ⟨i, k, live, pl, hi, rfl, M, SV, ON⟩ := hrel
    rename World => V
    have wi : IntKind.i64.wrap ((i : Int) + 1) = (i : Int) + 1 := IntWalk.i64_in _ (by omega)
    by_cases cc : i < len2 ∧ i < 100
    · obtain ⟨cq1, cq2⟩ := cc
      have ci : (i : Int) < (len2 : Int) := by omega
      have ci2 : (i : Int) < 100 := by omega
      have ci4 : ¬ (i : Int) < 0 := by omega
      obtain ⟨g, o, rfl, hg, hc⟩ := (HS2.out.old M.out.ff.kept).lies (by omega)
      obtain ⟨q0, q1⟩ := hz2.out i (by omega)
      obtain ⟨b, hb, hb5⟩ : ∃ b : Nat, z2 i = (b : Int) ∧ b ≤ 255 := ⟨(z2 i).toNat, by omega, by omega⟩
      have HC := Lib.hid (fun X (q : Kept Old w X) => (show X.cell? ⟨g, o + i, none⟩ = some (.int .u8 (b : Int)) from by
        obtain ⟨g2, o2, e2, hg2, hc2⟩ := (HS2.out.old q).lies (by omega)
        injection e2 with e2
        injection e2 with e3 e4
        subst e3
        subst e4
        have x0 := hc2 i 0 (by omega) (by omega)
        simp only [Nat.mul_one, Nat.add_zero] at x0
        rw [hb] at x0
        exact x0))
      clear hc q0 q1 hb cq1 cq2
      go_wp2_with fail
      refine (slive_any M.out (by have := SV.out.val.len; omega)).mono ?_
      rintro e X1 ⟨vl, rfl, AL, nL, cL, rfl, RL, _, NL, kl⟩
      have MA := Lib.hid (M.out.old kl)
      have ln := RL.len
      have lv := SV.out.val.len
      by_cases n0 : nL = 0
      · subst n0
        clear HC RL NL kl ln
        have MB := MA
        clear M
        go_wp2_with fail
        refine (slive_any MB.out (by have := SV.out.val.len; omega)).mono ?_
        rintro e X1 ⟨vl, rfl, AL, nL, cL, rfl, RL, _, NL, kl⟩
        have MA := Lib.hid (MB.out.more (G := FR AL nL) kl (fun b hb => by have lt := liv_lt RL hb; obtain ⟨_, ad, e1, rfl⟩ := hb; exact .inr ⟨NL.2 ad e1, lt⟩))
        have RA := Lib.hid RL
        clear RL NL kl
        go_wp2_with fail
        refine (sgc_any false MA.out SV.out.inv).mono ?_
        rintro e X2 ⟨rfl, ⟨pl2, m2, _⟩, f2⟩
        have M2 := Lib.hid m2
        have V2 := Lib.hid (SV.out.gc false)
        have RB := Lib.hid (liv_fr RA.out f2 (fun b _ hb z => z hb))
        clear m2 f2 MA RA
        go_wp2_with fail
        refine (sparts_any M2.out V2.out).mono ?_
        rintro e X3 ⟨vp, l0, l1, l3, l4, l5, rfl, ⟨q0, q1, q2, q3, q4, q5, q6, rfl, ⟨A0, n0, c0, rfl, r0, _⟩, ⟨A1, n1, c1, rfl, r1, _⟩, ⟨A2, n2, c2, rfl, r2, _⟩, ⟨A3, n3, c3, rfl, r3, _⟩, ⟨A4, n4, c4, rfl, r4, _⟩, ⟨A5, n5, c5, rfl, r5, _⟩, ⟨A6, n6, c6, rfl, r6, _⟩⟩, po, kp⟩
        have M3 := Lib.hid (M2.out.old kp)
        have RC := Lib.hid (RB.out.old kp)
        have z3 : n3 = 0 := by have h := r3.len; have p : l3.length = 0 := po.b.perm.length_eq; omega
        have z4 : n4 = 0 := by have h := r4.len; have p : l4.length = 0 := po.t.perm.length_eq; omega
        subst z3
        subst z4
        have XB := Blk.new X3 44 [.slice A0 n0 c0, .slice A1 n1 c1, .slice A2 n2 c2, .slice A3 0 c3, .slice A4 0 c4, .slice A5 n5 c5, .slice A6 n6 c6]
        have x3 := XB.cell 3
        have x4 := XB.cell 4
        simp only [List.getElem?_cons_succ, List.getElem?_cons_zero] at x3 x4
        have KA : Kept Old X3 (X3.alloc (.cells #[.slice A0 n0 c0, .slice A1 n1 c1, .slice A2 n2 c2, .slice A3 0 c3, .slice A4 0 c4, .slice A5 n5 c5, .slice A6 n6 c6] 44)) := (Kept.refl Old X3).alloc _
        have M4 := Lib.hid (M3.out.old KA)
        have RD := Lib.hid (RC.out.old KA)
        have XB := Lib.hid XB
        clear r0 r1 r2 r3 r4 r5 r6 po kp M3 RB RC KA M2 x3 x4
        go_wp2_with fail
        generalize hX4 : X3.alloc (.cells #[.slice A0 n0 c0, .slice A1 n1 c1, .slice A2 n2 c2, .slice A3 0 c3, .slice A4 0 c4, .slice A5 n5 c5, .slice A6 n6 c6] 44) = X4 at *
        clear hX4
        refine (son_any M4.out).mono ?_
        rintro e X5 ⟨rfl, rfl⟩
        have y3 := XB.out.cell 3
        have y4 := XB.out.cell 4
        simp only [List.getElem?_cons_succ, List.getElem?_cons_zero] at y3 y4
        have go : (gcK k false).on = false := rfl
        rw [go]
        go_wp2_with fail
        refine (slive_any M4.out (by have := V2.out.val.len; omega)).mono ?_
        rintro e X6 ⟨vl2, rfl, AM, nM, cM, rfl, RM, _, _, km⟩
        have M5 := Lib.hid (M4.out.old km)
        obtain rfl : nM = nL := RM.len.symm.trans RD.out.len
        have RE := Lib.hid (RD.out.old km)
        have RM := Lib.hid RM
        clear km RD
        go_wp2_with fail
        refine (Lm.samel_yes AM AL _ cM cL live _ RM.out RE.out (by have := RE.out.len; have := V2.out.val.len; omega)).mono ?_
        rintro e X7 ⟨rfl, k7⟩
        have M6 := Lib.hid (M5.out.old k7)
        clear k7 RE RM M5
        go_wp2_with fail
        refine (awake_any _).mono ?_
        rintro e X8 ⟨rfl, k8⟩
        have KE := Lib.hid (M6.out.ff.kept.trans k8)
        clear k8
        go_wp2_with fail
        go_ret
        exact ⟨rfl, KE.out⟩
      · obtain ⟨q, hq, hqn⟩ : ∃ q : Nat, b % nL = q ∧ q < nL := ⟨_, rfl, Nat.mod_lt _ (by omega)⟩
        obtain ⟨g3, o3, x, rfl, hg3, hx, _, y0, _, _⟩ := RL.get hqn
        have YC := Lib.hid (fun X (k : Kept Old X1 X) => Bg.cell_on k y0)
        have RL := Lib.hid RL
        have hq2 : (b : Int) % (nL : Int) = (q : Int) := by omega
        have hqn2 : (q : Int) < (nL : Int) := by omega
        have hn0 : ¬ (nL : Int) = 0 := by omega
        obtain ⟨hh, _⟩ := SV.out.val.found hx rfl
        obtain ⟨rk, rl, rc, hr⟩ : ∃ rk rl rc, freeR k live x.a = (rk, rl, rc) := ⟨_, _, _, rfl⟩
        have FR := Lib.hid (freeR_on live x.a ON.out)
        have FV := Lib.hid (SV.out.freeR x.a)
        have FC := freeR_hit k hh
        rw [hr] at FR FV FC
        obtain rfl : rc = 0 := FC
        clear hx hh lv
        go_wp2_with fail
        refine (sparts_any MA.out SV.out).mono ?_
        rintro e X2 ⟨vp, l0, l1, l3, l4, l5, rfl, ⟨q0, q1, q2, q3, q4, q5, q6, rfl, ⟨A0, n0, c0, rfl, r0, _⟩, ⟨A1, n1, c1, rfl, r1, _⟩, ⟨A2, n2, c2, rfl, r2, _⟩, ⟨A3, n3, c3, rfl, r3, _⟩, ⟨A4, n4, c4, rfl, r4, _⟩, ⟨A5, n5, c5, rfl, r5, _⟩, ⟨A6, n6, c6, rfl, r6, _⟩⟩, po, kp⟩
        have KX := Lib.hid kp
        have MB := Lib.hid (MA.out.old kp)
        have e0 := po.r
        subst e0
        have TB := Lib.hid (runs_lim SV.out)
        have TT := Lib.hid (fun X (q : Kept Old X2 X) => total_any A0 n0 c0 (runsP k.rl) X (r0.old q) (by have := r0.len; have := TB.out.1; omega) (fun j _ => TB.out.2 j))
        have z0 := HC.out X2 MB.out.ff.kept
        clear r0 r1 r2 r3 r4 r5 r6 po kp MA y0 z0
        have fd := field0 (.slice A0 n0 c0) (.slice A1 n1 c1) (.slice A2 n2 c2) (.slice A3 n3 c3) (.slice A4 n4 c4) (.slice A5 n5 c5) (.slice A6 n6 c6) X2
        go_wp2_with fail
        clear fd
        refine (TT.out _ (Kept.refl _ _)).mono ?_
        rintro e X3 ⟨rfl, k3⟩
        have MC := Lib.hid (MB.out.old k3)
        have z0 := HC.out X3 MC.out.ff.kept
        have y0 := YC.out X3 (KX.out.trans k3)
        clear k3 MB
        go_wp2_with fail
        have FRE := sfree_any x.a MC.out SV.out
        rw [hr] at FRE
        refine FRE.mono ?_
        rintro e X4 ⟨rfl, ⟨pl5, m5, _⟩, f5⟩
        have M5 := Lib.hid m5
        clear m5 f5 MC FRE y0 z0
        go_wp2_with fail
        refine (sparts_any M5.out FV.out).mono ?_
        rintro e X5 ⟨vp, l0, l1, l3, l4, l5, rfl, ⟨q0, q1, q2, q3, q4, q5, q6, rfl, ⟨A0, n0, c0, rfl, r0, _⟩, ⟨A1, n1, c1, rfl, r1, _⟩, ⟨A2, n2, c2, rfl, r2, _⟩, ⟨A3, n3, c3, rfl, r3, _⟩, ⟨A4, n4, c4, rfl, r4, _⟩, ⟨A5, n5, c5, rfl, r5, _⟩, ⟨A6, n6, c6, rfl, r6, _⟩⟩, po, kp⟩
        have M6 := Lib.hid (M5.out.old kp)
        have e0 : l0 = runsP k.rl := po.r.trans (by show runsP rk.rl = _; rw [FR.out.1])
        subst e0
        have T2 := Lib.hid (total_any A0 n0 c0 (runsP k.rl) X5 r0 (by have := r0.len; have := TB.out.1; omega) (fun j _ => TB.out.2 j))
        clear r0 r1 r2 r3 r4 r5 r6 po kp M5 TT
        have fd := field0 (.slice A0 n0 c0) (.slice A1 n1 c1) (.slice A2 n2 c2) (.slice A3 n3 c3) (.slice A4 n4 c4) (.slice A5 n5 c5) (.slice A6 n6 c6) X5
        go_wp2_with fail
        clear fd
        refine T2.out.mono ?_
        rintro e X6 ⟨rfl, k6⟩
        have M7 := Lib.hid (M6.out.old k6)
        clear k6 M6 T2
        go_wp2_with fail
        refine (son_any M7.out).mono ?_
        rintro e X7 ⟨rfl, rfl⟩
        have on2 : rk.on = true := FR.out.2
        rw [on2]
        go_wp2_with fail
        exact ⟨⟨i + 1, rk, rl, _, by omega, by go_num, M7, FV, Lib.hid on2⟩, by simp [intOf] <;> omega⟩
    · have ways : ¬ (i : Int) < (len2 : Int) ∨ ((i : Int) < (len2 : Int) ∧ ¬ (i : Int) < 100) := by omega
      clear cc
      rcases ways with h1 | ⟨h1, h2⟩
      all_goals
        have MB := M
        clear M
        go_wp2_with fail
        refine (slive_any MB.out (by have := SV.out.val.len; omega)).mono ?_
        rintro e X1 ⟨vl, rfl, AL, nL, cL, rfl, RL, _, NL, kl⟩
        have MA := Lib.hid (MB.out.more (G := FR AL nL) kl (fun b hb => by have lt := liv_lt RL hb; obtain ⟨_, ad, e1, rfl⟩ := hb; exact .inr ⟨NL.2 ad e1, lt⟩))
        have RA := Lib.hid RL
        clear RL NL kl
        go_wp2_with fail
        refine (sgc_any false MA.out SV.out.inv).mono ?_
        rintro e X2 ⟨rfl, ⟨pl2, m2, _⟩, f2⟩
        have M2 := Lib.hid m2
        have V2 := Lib.hid (SV.out.gc false)
        have RB := Lib.hid (liv_fr RA.out f2 (fun b _ hb z => z hb))
        clear m2 f2 MA RA
        go_wp2_with fail
        refine (sparts_any M2.out V2.out).mono ?_
        rintro e X3 ⟨vp, l0, l1, l3, l4, l5, rfl, ⟨q0, q1, q2, q3, q4, q5, q6, rfl, ⟨A0, n0, c0, rfl, r0, _⟩, ⟨A1, n1, c1, rfl, r1, _⟩, ⟨A2, n2, c2, rfl, r2, _⟩, ⟨A3, n3, c3, rfl, r3, _⟩, ⟨A4, n4, c4, rfl, r4, _⟩, ⟨A5, n5, c5, rfl, r5, _⟩, ⟨A6, n6, c6, rfl, r6, _⟩⟩, po, kp⟩
        have M3 := Lib.hid (M2.out.old kp)
        have RC := Lib.hid (RB.out.old kp)
        have z3 : n3 = 0 := by have h := r3.len; have p : l3.length = 0 := po.b.perm.length_eq; omega
        have z4 : n4 = 0 := by have h := r4.len; have p : l4.length = 0 := po.t.perm.length_eq; omega
        subst z3
        subst z4
        have XB := Blk.new X3 44 [.slice A0 n0 c0, .slice A1 n1 c1, .slice A2 n2 c2, .slice A3 0 c3, .slice A4 0 c4, .slice A5 n5 c5, .slice A6 n6 c6]
        have x3 := XB.cell 3
        have x4 := XB.cell 4
        simp only [List.getElem?_cons_succ, List.getElem?_cons_zero] at x3 x4
        have KA : Kept Old X3 (X3.alloc (.cells #[.slice A0 n0 c0, .slice A1 n1 c1, .slice A2 n2 c2, .slice A3 0 c3, .slice A4 0 c4, .slice A5 n5 c5, .slice A6 n6 c6] 44)) := (Kept.refl Old X3).alloc _
        have M4 := Lib.hid (M3.out.old KA)
        have RD := Lib.hid (RC.out.old KA)
        have XB := Lib.hid XB
        clear r0 r1 r2 r3 r4 r5 r6 po kp M3 RB RC KA M2 x3 x4
        go_wp2_with fail
        generalize hX4 : X3.alloc (.cells #[.slice A0 n0 c0, .slice A1 n1 c1, .slice A2 n2 c2, .slice A3 0 c3, .slice A4 0 c4, .slice A5 n5 c5, .slice A6 n6 c6] 44) = X4 at *
        clear hX4
        refine (son_any M4.out).mono ?_
        rintro e X5 ⟨rfl, rfl⟩
        have y3 := XB.out.cell 3
        have y4 := XB.out.cell 4
        simp only [List.getElem?_cons_succ, List.getElem?_cons_zero] at y3 y4
        have go : (gcK k false).on = false := rfl
        rw [go]
        go_wp2_with fail
        refine (slive_any M4.out (by have := V2.out.val.len; omega)).mono ?_
        rintro e X6 ⟨vl2, rfl, AM, nM, cM, rfl, RM, _, _, km⟩
        have M5 := Lib.hid (M4.out.old km)
        obtain rfl : nM = nL := RM.len.symm.trans RD.out.len
        have RE := Lib.hid (RD.out.old km)
        have RM := Lib.hid RM
        clear km RD
        go_wp2_with fail
        refine (Lm.samel_yes AM AL _ cM cL live _ RM.out RE.out (by have := RE.out.len; have := V2.out.val.len; omega)).mono ?_
        rintro e X7 ⟨rfl, k7⟩
        have M6 := Lib.hid (M5.out.old k7)
        clear k7 RE RM M5
        go_wp2_with fail
        refine (awake_any _).mono ?_
        rintro e X8 ⟨rfl, k8⟩
        have KE := Lib.hid (M6.out.ff.kept.trans k8)
        clear k8
        go_wp2_with fail
        go_ret
        exact ⟨rfl, KE.out⟩

/-- The row's step. -/
theorem lifted (os : Os) (started : os.Started) (H : Type) (enc : TypeId × Value → H) :
    ReturnsInHanded {} Tryz.checked os 9 .any (Rows.storeKeptSpec.pre6 enc Tryz.prog Tryz.f9 Rows.storeKeptRow.domain false) (Rows.storeKeptSpec.post enc Tryz.prog Tryz.f9 false true false false) := by
  refine returnsInHanded_of_change_sized (C := Tryz.checked) own started (by kernel_rfl) Tryz.func9
    (ChangeSpec.witness6 (enc := enc) (C := Tryz.checked) false ⟨#[], #[.int .u8 0, .slice none 0 0, .slice none 0 0], []⟩ 8 (by kernel_rfl) (by kernel_rfl) (by kernel_rfl) (by kernel_rfl)) ?_
  intro W base args ds gs before hval0 hW hcnd hsz0 _
  have hsz : (DataW.weightsEach Tryz.prog (Tryz.f9.params.toList ++ Rows.storeKeptSpec.plain.varTypes Tryz.prog) (ds ++ gs)).all (· ≤ reachBytes) = true := hsz0
  have hval : ∀ (j : Nat) t v, Tryz.f9.params[j]? = some t → args[j]? = some v → Value.okWide Tryz.prog W .any base t v := hval0
  have hW' := hW
  obtain ⟨p, q, hA0, hV, rfl, hfz, hnd⟩ := hW
  have hA : DataW.TrodAll enc Tryz.prog W 0 (fun _ => true) true Tryz.f9.params.toList args.toList ds p := hA0
  rw [Tryz.params9] at hA hval hsz
  obtain ⟨v0, vs0, d0, ds0, p0, q0, hargs, rfl, rfl, h0, r0⟩ := trodAll_cons hA
  obtain ⟨v1, vs1, d1, ds1, p1, q1, rfl, rfl, rfl, h1, r1⟩ := trodAll_cons r0
  obtain ⟨v2, vs2, d2, ds2, p2, q2, rfl, rfl, rfl, h2, r2⟩ := trodAll_cons r1
  obtain ⟨rfl, rfl, rfl⟩ := trodAll_nil r2
  obtain rfl : args = #[v0, v1, v2] := by cases args; simp_all
  obtain ⟨rfl, rfl⟩ := trodVars_none hV
  obtain ⟨a0, rfl, rfl, rfl, w0⟩ := open_int Tryz.underlying5 (hval 0 5 v0 rfl rfl) h0
  have k1 := h1
  have lt1 : ∀ x ∈ p1, x.block < W.heap.size := by obtain ⟨m, hm⟩ := k1; exact DataW.trod_lt m _ _ _ hm
  obtain ⟨a1, len1, cap1, rfl⟩ := okWide_slice Tryz.underlying22 (hval 1 22 v1 rfl rfl)
  obtain ⟨z1, w1⟩ := ints_in Tryz.underlying22 Tryz.underlying5 (by kernel_rfl) h1
  have rch1 := slice_reach (j := 1) Tryz.underlying22 (show Tryz.prog.bytesOf 5 = 1 by kernel_rfl) k1 hsz rfl rfl
  have k2 := h2
  have lt2 : ∀ x ∈ p2, x.block < W.heap.size := by obtain ⟨m, hm⟩ := k2; exact DataW.trod_lt m _ _ _ hm
  obtain ⟨a2, len2, cap2, rfl⟩ := okWide_slice Tryz.underlying22 (hval 2 22 v2 rfl rfl)
  obtain ⟨z2, w2⟩ := ints_in Tryz.underlying22 Tryz.underlying5 (by kernel_rfl) h2
  have rch2 := slice_reach (j := 2) Tryz.underlying22 (show Tryz.prog.bytesOf 5 = 1 by kernel_rfl) k2 hsz rfl rfl
  clear hA0 hval0
  refine (walk a0 a1 len1 cap1 z1 a2 len2 cap2 z2 W w0 w1 rch1 w2 rch2).mono fun e W' ⟨he, kept⟩ => ?_
  subst he
  have bel : Below W.heap.size W W' := kept.toBelow (Nat.le_refl _) (fun _ x => x.elim)
  exact ⟨_, rfl, _, _, _, [], _, [], hW', trodAll_mk1 (shut_bool Tryz.underlying4 _), (trodAll_cons_mk (shut_int Tryz.underlying5 w0) (trodAll_cons_mk (Below.trod laidOut (by kernel_rfl) (of_decide_eq_true (by kernel_rfl)) k1 bel lt1) (trodAll_cons_mk (Below.trod laidOut (by kernel_rfl) (of_decide_eq_true (by kernel_rfl)) k2 bel lt2) trodAll_mk0))), rfl, bel.frame _, fun h => by cases h⟩

theorem over : Rows.StoreKeptSaid :=
  OpenClaim.holds_of_wide 9 Tryz.f9 rfl rfl rfl rfl rfl rfl rfl ⟨rfl, rfl, rfl, rfl, rfl⟩ rfl rfl rfl rfl rfl (by kernel_rfl) Tryz.func9 (by kernel_rfl)
    (of_decide_eq_true (by kernel_rfl)) (by unfold Func.isWrapper; first | (rw [if_pos (by decide +kernel)]; kernel_rfl) | (rw [if_neg (by decide +kernel)]; exact ⟨rfl, rfl⟩))
    (fun os started H enc _ => lifted os started H enc)

/-- The statement. -/
theorem proved : Rows.StoreKeptSaid := over
#print axioms proved
end Go.Proofs.YtjfkmgicbakmgaaGreat.storeKept
