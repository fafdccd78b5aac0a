/-
  For every input the law HeapBack of rickyard/rickyardlaw7 returns true, and its arguments read afterwards as before. The law's own sentence: When all spans are freed, in any order, there is one run again. No further conditions.
-/
import Derived.Test.YtdolchlhphoggaaRows
import Derived.Test.YtdolchlhphoggaaKept
import Derived.Test.YtdolchlhphoggaaShell
import Derived.Test.YtdolchlhphoggaaShellInts
import Derived.WalkKit
import Derived.ProofKit
import Derived.OpenShut
import Derived.ChangeOld
import Derived.Below
import Derived.Lib.SmallJoins
import Derived.Test.YtdolchlhphoggaaHeapAwake
import Derived.RegionTactic
import Derived.Deep.CutRange
namespace Go.Proofs.Ytdolchlhphoggaa.heapBack
open Go.ChangeShapes Go.WideShapes Go.ChangeAt Go.RowKit
set_option linter.unusedVariables false
set_option maxRecDepth 100000

theorem own : ownKnob Try.prog.godebug = none := by kernel_rfl
theorem laidOut : laidOutB Try.prog = true := by kernel_rfl

set_option maxHeartbeats 8000000 in
/-- The walk: the Go text returns true, and nothing that was there has turned. -/
theorem walk (a0 : Int) (a1 : Option Addr) (len1 cap1 : Nat) (z1 : Nat → Int) (a2 : Option Addr) (len2 cap2 : Nat) (z2 : Nat → Int) (w : World) (w0 : (Lit.int .u8 a0).wf = true) (w1 : len1 ≤ cap1 ∧ cap1 ≤ maxLen ∧ (∀ i, i < len1 → (Lit.int .u8 (z1 i)).wf = true) ∧ Sl w a1 1 len1 fun i _ => .int .u8 (z1 i)) (w2 : len2 ≤ cap2 ∧ cap2 ≤ maxLen ∧ (∀ i, i < len2 → (Lit.int .u8 (z2 i)).wf = true) ∧ Sl w a2 1 len2 fun i _ => .int .u8 (z2 i)) :
    Calls Try.prog 5 #[.int .u8 a0, .slice a1 len1 cap1, .slice a2 len2 cap2] w fun e w' => e = .returned (.bool true) ∧ Kept Old w w' := by
  obtain ⟨v0, v1, v2, v3⟩ := w1
  have hl : len1 ≤ 9223372036854775807 := by unfold maxLen at v1; omega
  have hz := Lib.hid (show ∀ i, i < len1 → 0 ≤ z1 i ∧ z1 i ≤ 255 from fun i hi => bounds_u8 (v2 i hi))
  have HS := Lib.hid v3
  obtain ⟨u0, u1, u2, u3⟩ := w2
  have hl2 : len2 ≤ 9223372036854775807 := by unfold maxLen at u1; omega
  have hz2 := Lib.hid (show ∀ i, i < len2 → 0 ≤ z2 i ∧ z2 i ≤ 255 from fun i hi => bounds_u8 (u2 i hi))
  have HS2 := Lib.hid u3
  obtain ⟨p1, p2⟩ := bounds_u8 w0
  clear v0 v1 v2 v3 u0 u1 u2 u3 w0
  obtain ⟨P, hP⟩ : ∃ P, 1 + a0 = P := ⟨_, rfl⟩
  have P1 : 1 ≤ P := by omega
  have P2 : P ≤ 256 := by omega
  go_enter Try.func5, Try.ntmps5
  go_wp2_with fail
  refine (hp_new w P F0 w P1 P2 (Kept.refl _ _) (fun _ h => h.elim)).mono ?_
  rintro e W ⟨h, rfl, T, -⟩
  have T := Lib.hid T
  go_wp2_with fail
  go_loopw [9] (fun i wr => ∃ (k : Nat) (rl : List R) (sl : List S), k ≤ 200 ∧ i = .int .i64 (k : Int) ∧ Hid (Hp w wr h P rl sl F0)) (fun i _ => 201 - (intOf i).toNat)
  case atStart => exact ⟨0, _, _, by omega, rfl, T⟩
  case round =>
    obtain ⟨k, rl, sl, hk, rfl, T1⟩ := hrel
    rename World => V
    clear T
    by_cases c : k < len1 ∧ k < 200
    · obtain ⟨c1, c2⟩ := c
      obtain ⟨g, o, rfl, hg, hc⟩ := (HS.out.old T1.out.kept).lies (by omega)
      have d0 := hc k 0 (by omega) (by omega)
      simp only [Nat.mul_one, Nat.add_zero] at d0
      have y0 := hz.out k (by omega)
      generalize z1 k = u at *
      have fv : u.tmod 30 = u % 30 := Int.tmod_eq_emod_of_nonneg (by omega)
      have fr : u.tmod 8 = u % 8 := Int.tmod_eq_emod_of_nonneg (by omega)
      clear hc hz HS hz2 HS2
      go_wp2_with fail
      have cd0 : World.cell? { heap := V.heap, tape := V.tape, drawn := V.drawn + 1, os := V.os, output := V.output } ⟨g, o + k, none⟩ = some (.int .u8 u) := d0
      have j0 : (k : Int) < (len1 : Int) := by omega
      have j4 : IntKind.i64.wrap u = u := IntWalk.i64_in _ (by omega)
      have j6 : IntKind.i64.wrap (u % 8) = u % 8 := IntWalk.i64_in _ (by omega)
      have j7 : IntKind.i64.wrap (u % 30) = u % 30 := IntWalk.i64_in _ (by omega)
      have j8 : IntKind.i64.wrap (1 + u % 30) = 1 + u % 30 := IntWalk.i64_in _ (by omega)
      have T2 := Lib.hid (T1.out.old ((Kept.refl Old V).drew))
      go_still_tail 14, (by kernel_rfl)
      change wpList _ _ _ _ _ V.drew
      go_wp2_with fail
      refine (hp_alloc _ _ T2.out).mono ?_
      rintro e V2 ⟨rfl, T3, -⟩
      have T3 := Lib.hid T3
      go_wp2
      refine ⟨⟨k + 1, _, _, by omega, by go_num, T3⟩, ?_⟩
      simp [intOf]; omega
    · have cc : ¬ (k : Int) < (len1 : Int) ∨ ((k : Int) < (len1 : Int) ∧ ¬ (k : Int) < 200) := by omega
      clear c hz HS
      rcases cc with ca | ⟨ca, cb⟩
      all_goals
        go_wp2_with fail
        go_loopw [10] (fun i wr => ∃ (j : Nat) (rl : List R) (sl : List S), sl.length + j ≤ 256 ∧ i = .int .i64 (j : Int) ∧ Hid (Hp w wr h P rl sl F0)) (fun i _ => 300 - (intOf i).toNat)
        case atStart => exact ⟨0, rl, sl, by have := T1.out.whole.len; omega, rfl, T1⟩
        case round =>
          obtain ⟨j, rl, sl, hj, rfl, T4⟩ := hrel
          rename World => X
          clear T1
          have wj : (j : Int) < 300 := by omega
          go_wp2_with fail
          refine (hp_spans T4.out).mono ?_
          rintro e X1 ⟨A5, c5, rfl, R5, k5, hA5, g5, cs5, rfl, bg, -⟩
          have hg5 : X.heap.size ≤ g5 := hA5 _ rfl
          have T5 := Lib.hid (T4.out.more (G := fun b => b = g5) k5 (fun b e => .inr (by rw [e]; exact ⟨hg5, Blk.lt bg⟩)))
          obtain ⟨n, hn⟩ : ∃ n, sl.length = n := ⟨_, rfl⟩
          rw [hn] at R5 hj ⊢
          have hn := Lib.hid hn
          have R5 := Lib.hid R5
          clear k5 hA5 bg hg5 T4
          by_cases c6 : n = 0
          · subst c6
            obtain rfl : sl = [] := List.eq_nil_of_length_eq_zero hn.out
            obtain rfl : rl = [(0, P)] := T5.out.whole.back
            go_wp2_with fail
            refine (hp_spans T5.out).mono ?_
            rintro e X2 ⟨A6, c6, rfl, -, k6, -⟩
            have T6 := Lib.hid (T5.out.old k6)
            clear k6 T5 R5
            go_wp2_with fail
            refine (hp_runs T6.out).mono ?_
            rintro e V2 ⟨g, rfl, R2, k8, hg, -⟩
            have R3 := Lib.hid (R2.old ((Kept.refl Old V2).alloc (.cells #[.int .i64 0, .int .i64 P] 63)))
            have RO := Lib.hid (Rs.one V2 (0, P) ⟨by omega, by omega⟩ ⟨by show _ ≤ P; omega, by show P ≤ _; omega⟩ V2.heap.size rfl)
            have K10 := Lib.hid ((T6.out.kept.trans k8).alloc (.cells #[.int .i64 0, .int .i64 P] 63))
            clear R2 k8 T6 hg
            go_wp2_with fail
            refine (same_yes _ _ 1 _ _ [(0, P)] _ R3.out RO.out (by omega)).mono ?_
            rintro e V6 ⟨rfl, k10⟩
            have K11 := Lib.hid (K10.out.trans k10)
            clear k10
            go_wp2_with fail
            refine (awakeH_any _).mono ?_
            rintro e V7 ⟨rfl, k11⟩
            have K12 := Lib.hid (K11.out.trans k11)
            clear k11
            go_wp2_with fail
            go_ret
            exact ⟨rfl, K12.out⟩
          · have c7 : ((n : Int) == 0) = false := beq_eq_false_iff_ne.2 (by omega)
            have KX := Lib.hid T5.out.kept
            have zs := Lib.hid (show j < len2 → ∃ (g : Nat) (o : Nat) (z : Int), a2 = some ⟨g, o, none⟩ ∧ X1.cell? ⟨g, o + j, none⟩ = some (.int .u8 z) ∧ 0 ≤ z ∧ z ≤ 255 from fun hi => by
              obtain ⟨g, o, e, hg, hc⟩ := (HS2.out.old KX.out).lies (by omega)
              have d0 := hc j 0 hi (by omega)
              simp only [Nat.mul_one, Nat.add_zero] at d0
              have b := hz2.out j hi
              exact ⟨g, o, _, e, d0, b.1, b.2⟩)
            go_upto_if 59 with fail
            go_cut [12] from 47 to 87 (fun s wx => ∃ q : Nat, q < n ∧ s = .int .i64 (q : Int) ∧ wx = X1)
            case first =>
              by_cases z : j < len2
              · obtain ⟨g2, o2, q, rfl, hq, hq0, hq1⟩ := zs.out z
                have z1' : (j : Int) < (len2 : Int) := by omega
                have nz : ¬ (n : Int) = 0 := by omega
                have fq : q.tmod (n : Int) = q % (n : Int) := Int.tmod_eq_emod_of_nonneg hq0
                have q8 := Int.emod_nonneg q (show (n : Int) ≠ 0 by omega)
                have q9 := Int.emod_lt_of_pos q (show (0 : Int) < (n : Int) by omega)
                obtain ⟨r, hr⟩ : ∃ r : Nat, q % (n : Int) = (r : Int) := ⟨(q % (n : Int)).toNat, by omega⟩
                rw [hr] at fq q8 q9
                clear zs hr
                go_wp2_with fail
                go_meet
                exact ⟨r, by omega, rfl, rfl⟩
              · have z1' : ¬ (j : Int) < (len2 : Int) := by omega
                clear zs
                go_wp2_with fail
                go_meet
                exact ⟨0, by omega, rfl, rfl⟩
            case rest =>
              obtain ⟨q, hq, rfl, rfl⟩ := hcut
              obtain ⟨gg, o, x, e', _, hx, f1, b0, b1, b2⟩ := R5.out.get hq
              obtain ⟨rfl, rfl⟩ : g5 = gg ∧ 0 = o := by injection e' with e'; injection e' with e1 e2; exact ⟨e1, e2⟩
              simp only [Nat.zero_add] at b0 b1 b2
              have hb := beg_at T5.out.whole.good hx rfl
              have eF := Lib.hid (freeA_yes (rl := rl) hb)
              have dl := Lib.hid (del_len (beg_some hb).1)
              have HX := Lib.hid hx
              have e' := Lib.hid e'
              clear hx hb f1 zs
              go_wp2_with fail
              refine (hp_free x.a T5.out).mono ?_
              rw [eF.out]
              rintro e V2 ⟨rfl, T6, k6⟩
              have k7 := (Kept.refl Old V2).alloc (.cells #[.int .i64 x.a, .int .i64 x.n, .int .i64 x.c] 44)
              have R6 := ((R5.out.fr k6 (fun ad e => by injection e with e; subst e; rfl)).old k7)
              have T7 := Lib.hid (T6.more (G := F0) k7 (fun _ h => h.elim))
              have B7 := BxS.new V2 x
              obtain ⟨gg, o, x', e2, _, hx', f1, d0, d1, d2⟩ := R6.get hq
              obtain ⟨rfl, rfl⟩ : g5 = gg ∧ 0 = o := by injection e2 with e2; injection e2 with e3 e4; exact ⟨e3, e4⟩
              obtain rfl : x = x' := by have := HX.out; rw [hx'] at this; exact (Option.some.inj this).symm
              simp only [Nat.zero_add] at d0 d1 d2
              have s0 := B7.c0
              have s1 := B7.c1
              have s2 := B7.c2
              clear k6 k7 R6 T6 B7 hx' f1 e2 b0 b1 b2 R5 T5
              go_wp2_with fail
              generalize V2.alloc (.cells #[.int .i64 x.a, .int .i64 x.n, .int .i64 x.c] 44) = V3 at *
              go_quiet (fail)
              have T8 := Lib.hid (T7.out.old ((Kept.refl Old V3).drewN nq))
              go_wp2
              refine ⟨⟨j + 1, _, _, by have := dl.out; have := hn.out; omega, by go_num, T8⟩, ?_⟩
              simp [intOf]; omega

/-- The row's step. -/
theorem lifted (os : Os) (started : os.Started) (H : Type) (enc : TypeId × Value → H) :
    ReturnsInHanded {} Try.checked os 5 .any (Rows.heapBackSpec.pre6 enc Try.prog Try.f5 Rows.heapBackRow.domain false) (Rows.heapBackSpec.post enc Try.prog Try.f5 false true false false) := by
  refine returnsInHanded_of_change (C := Try.checked) own started (by kernel_rfl) Try.func5
    (ChangeSpec.witness6 (enc := enc) (C := Try.checked) false ⟨#[], #[.int .u8 0, .slice none 0 0, .slice none 0 0], []⟩ 8 (by kernel_rfl) (by kernel_rfl) (by kernel_rfl) (by kernel_rfl)) ?_
  intro W base args ds gs before hval0 hW hcnd _
  have hval : ∀ (j : Nat) t v, Try.f5.params[j]? = some t → args[j]? = some v → Value.okWide Try.prog W .any base t v := hval0
  have hW' := hW
  obtain ⟨p, q, hA0, hV, rfl, hfz, hnd⟩ := hW
  have hA : DataW.TrodAll enc Try.prog W 0 (fun _ => true) true Try.f5.params.toList args.toList ds p := hA0
  rw [Try.params5] at hA hval
  obtain ⟨v0, vs0, d0, ds0, p0, q0, hargs, rfl, rfl, h0, r0⟩ := trodAll_cons hA
  obtain ⟨v1, vs1, d1, ds1, p1, q1, rfl, rfl, rfl, h1, r1⟩ := trodAll_cons r0
  obtain ⟨v2, vs2, d2, ds2, p2, q2, rfl, rfl, rfl, h2, r2⟩ := trodAll_cons r1
  obtain ⟨rfl, rfl, rfl⟩ := trodAll_nil r2
  obtain rfl : args = #[v0, v1, v2] := by cases args; simp_all
  obtain ⟨rfl, rfl⟩ := trodVars_none hV
  obtain ⟨a0, rfl, rfl, rfl, w0⟩ := open_int Try.underlying5 (hval 0 5 v0 rfl rfl) h0
  have k1 := h1
  have lt1 : ∀ x ∈ p1, x.block < W.heap.size := by obtain ⟨m, hm⟩ := k1; exact DataW.trod_lt m _ _ _ hm
  obtain ⟨a1, len1, cap1, rfl⟩ := okWide_slice Try.underlying50 (hval 1 50 v1 rfl rfl)
  obtain ⟨z1, w1⟩ := ints_in Try.underlying50 Try.underlying5 (by kernel_rfl) h1
  have k2 := h2
  have lt2 : ∀ x ∈ p2, x.block < W.heap.size := by obtain ⟨m, hm⟩ := k2; exact DataW.trod_lt m _ _ _ hm
  obtain ⟨a2, len2, cap2, rfl⟩ := okWide_slice Try.underlying50 (hval 2 50 v2 rfl rfl)
  obtain ⟨z2, w2⟩ := ints_in Try.underlying50 Try.underlying5 (by kernel_rfl) h2
  clear hA0 hval0
  refine (walk a0 a1 len1 cap1 z1 a2 len2 cap2 z2 W w0 w1 w2).mono fun e W' ⟨he, kept⟩ => ?_
  subst he
  have bel : Below W.heap.size W W' := kept.toBelow (Nat.le_refl _) (fun _ x => x.elim)
  exact ⟨_, rfl, _, _, _, [], _, [], hW', trodAll_mk1 (shut_bool Try.underlying4 _), (trodAll_cons_mk (shut_int Try.underlying5 w0) (trodAll_cons_mk (Below.trod laidOut (by kernel_rfl) (of_decide_eq_true (by kernel_rfl)) k1 bel lt1) (trodAll_cons_mk (Below.trod laidOut (by kernel_rfl) (of_decide_eq_true (by kernel_rfl)) k2 bel lt2) trodAll_mk0))), rfl, bel.frame _, fun h => by cases h⟩

theorem over : Rows.HeapBackSaid :=
  OpenClaim.holds_of_wide 5 Try.f5 rfl rfl rfl rfl rfl rfl rfl ⟨rfl, rfl, rfl, rfl, rfl⟩ rfl rfl rfl rfl rfl (by kernel_rfl) Try.func5 (by kernel_rfl)
    (of_decide_eq_true (by kernel_rfl)) (by unfold Func.isWrapper; first | (rw [if_pos (by decide +kernel)]; kernel_rfl) | (rw [if_neg (by decide +kernel)]; exact ⟨rfl, rfl⟩))
    (fun os started H enc _ => lifted os started H enc)

/-- The statement. -/
theorem proved : Rows.HeapBackSaid := over
#print axioms proved
end Go.Proofs.Ytdolchlhphoggaa.heapBack
