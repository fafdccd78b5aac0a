/-
  For every input the law SpanOnce of rickyard/rickyardlaw6 returns true, and its arguments read afterwards as before. The law's own sentence: A page is in one span at most: that which Of tells, by which each span of the list is found at all its pages, and none elsewhere. No further conditions.
-/
import Derived.Test.YtibgggchofpllaaRows
import Derived.Test.YtibgggchofpllaaKept
import Derived.Test.YtibgggchofpllaaShell
import Derived.Test.YtibgggchofpllaaShellInts
import Derived.WalkKit
import Derived.ProofKit
import Derived.OpenShut
import Derived.ChangeOld
import Derived.Below
import Derived.Lib.SmallJoins
import Derived.Test.YtibgggchofpllaaSpanSt
import Derived.Test.YtibgggchofpllaaSpanAwake
import Derived.Test.YtibgggchofpllaaSpanRef
import Derived.Test.YtibgggchofpllaaSpanMore
import Derived.Test.YtibgggchofpllaaSpanCount
import Derived.Deep.CutRange
namespace Go.Proofs.Ytibgggchofpllaa.spanOnce
open Go.ChangeShapes Go.WideShapes Go.ChangeAt Go.RowKit
set_option linter.unusedVariables false
set_option maxRecDepth 100000

theorem own : ownKnob Try.prog.godebug = none := by kernel_rfl
theorem laidOut : laidOutB Try.prog = true := by kernel_rfl

set_option maxHeartbeats 8000000 in
/-- The walk: the Go text returns true, and nothing that was there has turned. -/
theorem walk (a0 : Option Addr) (len0 cap0 : Nat) (z0 : Nat → Int) (w : World) (w0 : len0 ≤ cap0 ∧ cap0 ≤ maxLen ∧ (∀ i, i < len0 → (Lit.int .u8 (z0 i)).wf = true) ∧ Sl w a0 1 len0 fun i _ => .int .u8 (z0 i)) :
    Calls Try.prog 4 #[.slice a0 len0 cap0] w fun e w' => e = .returned (.bool true) ∧ Kept Old w w' := by
  obtain ⟨v0, v1, v2, v3⟩ := w0
  have hl : len0 ≤ 9223372036854775807 := by unfold maxLen at v1; omega
  have hz := Lib.hid (show ∀ i, i < len0 → 0 ≤ z0 i ∧ z0 i ≤ 255 from fun i hi => bounds_u8 (v2 i hi))
  have HS := Lib.hid v3
  clear v0 v1 v2 v3
  go_enter Try.func4, Try.ntmps4
  go_wp2_with fail
  refine (st_new w 120 (fun _ => False) w (by omega) (by omega) (Kept.refl _ _) (fun _ h => h.elim)).mono ?_
  rintro e W ⟨p, rfl, T, -⟩
  have T := Lib.hid T
  go_wp2_with fail
  go_loopw [4] (fun i wr => ∃ (k : Nat) (l : List S), k ≤ 302 ∧ i = .int .i64 (k : Int) ∧ Hid (St w wr p 120 l fun _ => False)) (fun i _ => 303 - (intOf i).toNat)
  case atStart => exact ⟨0, [], by omega, rfl, T⟩
  case round =>
    obtain ⟨k, l, hk, rfl, T1⟩ := hrel
    rename World => V
    clear T
    have wk : IntKind.i64.wrap ((k : Int) + 2) = (k : Int) + 2 := IntWalk.i64_in _ (by omega)
    by_cases c : k + 2 < len0 ∧ k < 300
    · obtain ⟨c1, c2⟩ := c
      obtain ⟨g, o, rfl, hg, hc⟩ := (HS.out.old T1.out.kept).lies (by omega)
      have d0 := hc k 0 (by omega) (by omega)
      have d1 := hc (k + 1) 0 (by omega) (by omega)
      have d2 := hc (k + 2) 0 (by omega) (by omega)
      simp only [Nat.mul_one, Nat.add_zero] at d0 d1 d2
      have y0 := hz.out k (by omega)
      have y1 := hz.out (k + 1) (by omega)
      have y2 := hz.out (k + 2) (by omega)
      generalize z0 k = u at *
      generalize z0 (k + 1) = v at *
      generalize z0 (k + 2) = r at *
      have fu : u.tmod 120 = u % 120 := Int.tmod_eq_emod_of_nonneg (by omega)
      have fv : v.tmod 20 = v % 20 := Int.tmod_eq_emod_of_nonneg (by omega)
      have fr : r.tmod 8 = r % 8 := Int.tmod_eq_emod_of_nonneg (by omega)
      have fx : Fit ⟨u % 120, 1 + v % 20, r % 8⟩ := ⟨in_lit (by show _ ≤ u % 120; omega) (by show u % 120 ≤ _; omega), in_lit (by show _ ≤ 1 + v % 20; omega) (by show 1 + v % 20 ≤ _; omega), in_lit (by show _ ≤ r % 8; omega) (by show r % 8 ≤ _; omega)⟩
      have fx := Lib.hid fx
      have C1 := Lib.hid (fun W3 (h : Kept Old V W3) => st_add ⟨u % 120, 1 + v % 20, r % 8⟩ (T1.out.old h) fx.out)
      clear hc hz HS
      go_wp2_with fail
      have cd0 : World.cell? { heap := V.heap, tape := V.tape, drawn := V.drawn + 1, os := V.os, output := V.output } ⟨g, o + k, none⟩ = some (.int .u8 u) := d0
      have cd1 : World.cell? { heap := V.heap, tape := V.tape, drawn := V.drawn + 1, os := V.os, output := V.output } ⟨g, o + (k + 1), none⟩ = some (.int .u8 v) := d1
      have cd2 : World.cell? { heap := V.heap, tape := V.tape, drawn := V.drawn + 1, os := V.os, output := V.output } ⟨g, o + (k + 2), none⟩ = some (.int .u8 r) := d2
      have j0 : (k : Int) < (len0 : Int) := by omega
      have j1 : (k : Int) + 1 < (len0 : Int) := by omega
      have j2 : (0 : Int) ≤ (k : Int) + 1 := by omega
      have j3 : ((k : Int) + 1).toNat = k + 1 := by omega
      have i1 : (k : Int) + 2 < (len0 : Int) := by omega
      have i2 : (0 : Int) ≤ (k : Int) + 2 := by omega
      have i3 : ((k : Int) + 2).toNat = k + 2 := by omega
      have wk1 : IntKind.i64.wrap ((k : Int) + 1) = (k : Int) + 1 := IntWalk.i64_in _ (by omega)
      have j4 : IntKind.i64.wrap u = u := IntWalk.i64_in _ (by omega)
      have j5 : IntKind.i64.wrap v = v := IntWalk.i64_in _ (by omega)
      have j9 : IntKind.i64.wrap r = r := IntWalk.i64_in _ (by omega)
      have j6 : IntKind.i64.wrap (u % 120) = u % 120 := IntWalk.i64_in _ (by omega)
      have j7 : IntKind.i64.wrap (v % 20) = v % 20 := IntWalk.i64_in _ (by omega)
      have j8 : IntKind.i64.wrap (1 + v % 20) = 1 + v % 20 := IntWalk.i64_in _ (by omega)
      have j10 : IntKind.i64.wrap (r % 8) = r % 8 := IntWalk.i64_in _ (by omega)
      go_still_tail 23, (by kernel_rfl)
      change wpList _ _ _ _ _ V.drew
      go_wp2_with fail
      refine (C1.out _ (Kept.refl Old V).drew).mono ?_
      rintro e V2 ⟨rfl, T2, -⟩
      have T2 := Lib.hid T2
      go_wp2
      refine ⟨⟨k + 3, _, by omega, by go_num, T2⟩, ?_⟩
      simp [intOf]; omega
    · have cc : ¬ (k : Int) + 2 < (len0 : Int) ∨ ((k : Int) + 2 < (len0 : Int) ∧ ¬ (k : Int) < 300) := by omega
      clear c hz HS
      rcases cc with ca | ⟨ca, cb⟩
      all_goals
        go_wp2_with fail
        refine (st_list T1.out).mono ?_
        rintro e W5 ⟨A, c, rfl, R5, k5, -, g, cs, rfl, -, hlc⟩
        have hl := T1.out.len
        have T5 := Lib.hid (T1.out.old k5)
        have R5 := Lib.hid R5
        have HG := Lib.hid T1.out.good
        clear k5 T1 hlc
        obtain ⟨n, hln⟩ : ∃ n, l.length = n := ⟨_, rfl⟩
        rw [hln] at R5 hl ⊢
        have hln := Lib.hid hln
        go_wp2_with fail
        go_loopw [6, 7] (fun s i wr => ∃ j : Nat, j ≤ n ∧ s = .int .i64 (sumN (l.take j)) ∧ i = .int .i64 (j : Int) ∧ Hid (Kept Old W5 wr)) (fun _ i _ => n - (intOf i).toNat)
        case atStart => exact ⟨0, by omega, by simp [sumN], rfl, Lib.hid (Kept.refl _ _)⟩
        case round =>
          obtain ⟨j, hj, rfl, rfl, K⟩ := hrel
          rename World => X
          by_cases c2 : j < n
          · obtain ⟨gg, o, x, e', _, hx, f1, a0, a1, a2⟩ := (R5.out.old K.out).get c2
            obtain ⟨rfl, rfl⟩ : g = gg ∧ 0 = o := by injection e' with e'; injection e' with e1 e2; exact ⟨e1, e2⟩
            simp only [Nat.zero_add] at a0 a1 a2
            obtain ⟨b1, b2, b3, b4, b5⟩ := HG.out.at hx
            have sb := (HG.out.sub (List.take_sublist j l)).sum (by omega)
            have ts := Lib.hid (sum_snoc hx)
            have oX := Lib.hid (show ∀ q, x.a ≤ q → q < x.a + x.n → ofX l q = x ∧ ofB l q = true from fun q h1 h2 => by
              have := of_at HG.out hx h1 h2
              unfold ofX ofB
              rw [this]
              exact ⟨rfl, rfl⟩)
            have pv := Lib.hid (show 0 < j → ∃ y : S, X.cell? ⟨g, (j - 1) * 3, none⟩ = some (.int .i64 y.a) ∧ X.cell? ⟨g, (j - 1) * 3 + 1, none⟩ = some (.int .i64 y.n) ∧ y.a + y.n ≤ x.a ∧ 0 ≤ y.a ∧ 1 ≤ y.n from fun hi => by
              obtain ⟨gg, o, y, e', _, hy, f1, d0, d1, d2⟩ := (R5.out.old K.out).get (k := j - 1) (by omega)
              obtain ⟨rfl, rfl⟩ : g = gg ∧ 0 = o := by injection e' with e'; injection e' with e1 e2; exact ⟨e1, e2⟩
              simp only [Nat.zero_add] at d0 d1 d2
              exact ⟨y, d0, d1, HG.out.two hy hx (by omega), (HG.out.at hy).a0, (HG.out.at hy).n1⟩)
            have hgl := block_lt_of_cell a0
            generalize sumN (l.take j) = t at *
            clear hx f1 e'
            go_upto_region 13 with fail
            go_cut [90] from 54 to 137 (fun s wx => s = .bool false ∧ Hid (Kept Old X wx))
            case first =>
              have t1 : decide (x.n < 1) = false := decide_eq_false (by omega)
              by_cases z : 0 < j
              · obtain ⟨y, d0, d1, y1, y2, y3⟩ := pv.out z
                have t2 : decide (0 < j) = true := decide_eq_true z
                have t3 : decide ((0 : Int) < (j : Int)) = true := decide_eq_true (by omega)
                have t4 : decide (x.a < y.a + y.n) = false := decide_eq_false (by omega)
                have r1 : IntKind.i64.wrap ((j : Int) - 1) = (j : Int) - 1 := IntWalk.i64_in _ (by omega)
                have r2 : (0 : Int) ≤ (j : Int) - 1 := by omega
                have r3 : ((j : Int) - 1).toNat = j - 1 := by omega
                have r4 : (j : Int) - 1 < (n : Int) := by omega
                have r5 : IntKind.i64.wrap (y.a + y.n) = y.a + y.n := IntWalk.i64_in _ (by omega)
                go_quiet (fail)
                go_wp2_with fail
                go_meet
                exact ⟨rfl, Lib.hid ((Kept.refl _ _).drewN _)⟩
              · obtain rfl : j = 0 := by omega
                go_quiet (fail)
                go_wp2_with fail
                go_meet
                exact ⟨rfl, Lib.hid ((Kept.refl _ _).drewN _)⟩
            case rest =>
              obtain ⟨rfl, K2⟩ := hcut
              have a0' := cell_on K2.out a0
              have a1' := cell_on K2.out a1
              have a2' := cell_on K2.out a2
              have r1 : IntKind.i64.wrap (t + x.n) = t + x.n := IntWalk.i64_in _ (by omega)
              have r2 : IntKind.i64.wrap (x.a + x.n) = x.a + x.n := IntWalk.i64_in _ (by omega)
              have K2' := Lib.hid (K.out.trans K2.out)
              clear pv a0 a1 a2 K K2
              go_wp2_with fail
              go_loopw [8] (fun i wr => ∃ q : Int, i = .int .i64 q ∧ x.a ≤ q ∧ q ≤ x.a + x.n ∧ Hid (Kept Old wc wr)) (fun i _ => (x.a + x.n - intOf i).toNat)
              case atStart => exact ⟨x.a, rfl, by omega, by omega, Lib.hid (Kept.refl _ _)⟩
              case round =>
                obtain ⟨q, rfl, q1, q2, K3⟩ := hrel
                rename World => Y
                have a0 := cell_on K3.out a0'
                have a1 := cell_on K3.out a1'
                have a2 := cell_on K3.out a2'
                have KY := Lib.hid (K2'.out.trans K3.out)
                by_cases d : q < x.a + x.n
                · have t1 : decide (q < x.a + x.n) = true := decide_eq_true d
                  have t2 : decide (q < 130) = true := decide_eq_true (by omega)
                  obtain ⟨e1, e2⟩ := oX.out q q1 d
                  have e1 := Lib.hid e1
                  have e2 := Lib.hid e2
                  go_wp2_with fail
                  go_quiet (fail)
                  go_wp2_with fail
                  refine (st_of q (T5.out.old (KY.out.drewN _))).mono ?_
                  rintro e Z ⟨rfl, k6⟩
                  rw [e1.out, e2.out]
                  have c0 := cell_on k6 (show (Y.drewN nq).cell? _ = _ from a0)
                  have c1 := cell_on k6 (show (Y.drewN nq).cell? _ = _ from a1)
                  have c2' := cell_on k6 (show (Y.drewN nq).cell? _ = _ from a2)
                  have hgZ := block_lt_of_cell c0
                  have k6' := Lib.hid ((K3.out.drewN nq).trans k6)
                  clear k6 a0 a1 a2
                  go_wp2_with fail
                  go_quiet (fail)
                  go_wp2
                  refine ⟨⟨q + 1, by go_num, by omega, by omega, Lib.hid ((k6'.out.alloc _).drewN _)⟩, ?_⟩
                  simp [intOf]; omega
                · have t1 : decide (q < x.a + x.n) = false := decide_eq_false d
                  go_wp2_with fail
                  go_quiet (fail)
                  go_wp2
                  refine ⟨⟨j + 1, by omega, by rw [ts.out], by go_num, Lib.hid (KY.out.drewN _)⟩, ?_⟩
                  simp [intOf]; omega
          · have e : l.take j = l := List.take_of_length_le (by have := hln.out; omega)
            rw [e]
            have cz := cov_zero HG.out.each
            clear e
            go_wp2_with fail
            go_loopw [6, 11] (fun s i wr => ∃ q : Nat, q ≤ 120 ∧ s = .int .i64 (sumN l - covL l (q : Int)) ∧ i = .int .i64 (q : Int) ∧ Hid (Kept Old W5 wr)) (fun _ i _ => 120 - (intOf i).toNat)
            case atStart => exact ⟨0, by omega, by rw [show ((0 : Nat) : Int) = 0 from rfl, cz, Int.sub_zero], rfl, K⟩
            case round =>
              obtain ⟨q, hq, rfl, rfl, K3⟩ := hrel
              rename World => Y
              have sb := HG.out.sum (by omega)
              have cb := cov_bounds HG.out.each (q : Int)
              by_cases d : q < 120
              · have st := cov_step HG.out (q : Int)
                go_wp2_with fail
                refine (st_of (q : Int) (T5.out.old K3.out)).mono ?_
                rintro e Z ⟨rfl, k6⟩
                have k6' := Lib.hid (K3.out.trans k6)
                clear k6
                generalize ofX l (q : Int) = ox at *
                cases hb : ofB l (q : Int)
                · rw [hb] at st
                  have st2 := Lib.hid (show sumN l - covL l ((q + 1 : Nat) : Int) = sumN l - covL l (q : Int) from by rw [show ((q + 1 : Nat) : Int) = (q : Int) + 1 by omega, st]; simp)
                  clear st
                  generalize sumN l - covL l (q : Int) = t at *
                  clear hb
                  go_wp2
                  refine ⟨⟨q + 1, by omega, by rw [st2.out], by go_num, Lib.hid (k6'.out.alloc _)⟩, ?_⟩
                  simp [intOf]; omega
                · rw [hb] at st
                  have st2 := Lib.hid (show sumN l - covL l ((q + 1 : Nat) : Int) = sumN l - covL l (q : Int) - 1 from by rw [show ((q + 1 : Nat) : Int) = (q : Int) + 1 by omega, st]; simp; omega)
                  have bt : 0 ≤ sumN l - covL l (q : Int) ∧ sumN l - covL l (q : Int) ≤ 120 := by omega
                  clear st
                  generalize sumN l - covL l (q : Int) = t at *
                  clear hb
                  go_wp2
                  refine ⟨⟨q + 1, by omega, by rw [st2.out], by go_num, Lib.hid (k6'.out.alloc _)⟩, ?_⟩
                  simp [intOf]; omega
              · obtain rfl : q = 120 := by omega
                have ez : sumN l - covL l ((120 : Nat) : Int) = 0 := by rw [show ((120 : Nat) : Int) = 120 from rfl, cov_all HG.out.each]; omega
                rw [ez]
                clear sb cb ez
                go_wp2_with fail
                refine (st_len (T5.out.old K3.out)).mono ?_
                rintro e Z ⟨rfl, rfl⟩
                rw [hln.out]
                have K9 := Lib.hid (T5.out.kept.trans K3.out)
                go_wp2_with fail
                refine (awake_any _).mono ?_
                rintro e W17 ⟨rfl, k17⟩
                have K17 := Lib.hid (K9.out.trans k17)
                clear k17
                go_wp2_with fail
                go_ret
                exact ⟨rfl, K17.out⟩

/-- The row's step. -/
theorem lifted (os : Os) (started : os.Started) (H : Type) (enc : TypeId × Value → H) :
    ReturnsInHanded {} Try.checked os 4 .any (Rows.spanOnceSpec.pre6 enc Try.prog Try.f4 Rows.spanOnceRow.domain false) (Rows.spanOnceSpec.post enc Try.prog Try.f4 false true false false) := by
  refine returnsInHanded_of_change (C := Try.checked) own started (by kernel_rfl) Try.func4
    (ChangeSpec.witness6 (enc := enc) (C := Try.checked) false ⟨#[], #[.slice none 0 0], []⟩ 8 (by kernel_rfl) (by kernel_rfl) (by kernel_rfl) (by kernel_rfl)) ?_
  intro W base args ds gs before hval0 hW hcnd _
  have hval : ∀ (j : Nat) t v, Try.f4.params[j]? = some t → args[j]? = some v → Value.okWide Try.prog W .any base t v := hval0
  have hW' := hW
  obtain ⟨p, q, hA0, hV, rfl, hfz, hnd⟩ := hW
  have hA : DataW.TrodAll enc Try.prog W 0 (fun _ => true) true Try.f4.params.toList args.toList ds p := hA0
  rw [Try.params4] at hA hval
  obtain ⟨v0, vs0, d0, ds0, p0, q0, hargs, rfl, rfl, h0, r0⟩ := trodAll_cons hA
  obtain ⟨rfl, rfl, rfl⟩ := trodAll_nil r0
  obtain rfl : args = #[v0] := by cases args; simp_all
  obtain ⟨rfl, rfl⟩ := trodVars_none hV
  have k0 := h0
  have lt0 : ∀ x ∈ p0, x.block < W.heap.size := by obtain ⟨m, hm⟩ := k0; exact DataW.trod_lt m _ _ _ hm
  obtain ⟨a0, len0, cap0, rfl⟩ := okWide_slice Try.underlying38 (hval 0 38 v0 rfl rfl)
  obtain ⟨z0, w0⟩ := ints_in Try.underlying38 Try.underlying5 (by kernel_rfl) h0
  clear hA0 hval0
  refine (walk a0 len0 cap0 z0 W w0).mono fun e W' ⟨he, kept⟩ => ?_
  subst he
  have bel : Below W.heap.size W W' := kept.toBelow (Nat.le_refl _) (fun _ x => x.elim)
  exact ⟨_, rfl, _, _, _, [], _, [], hW', trodAll_mk1 (shut_bool Try.underlying4 _), (trodAll_cons_mk (Below.trod laidOut (by kernel_rfl) (of_decide_eq_true (by kernel_rfl)) k0 bel lt0) trodAll_mk0), rfl, bel.frame _, fun h => by cases h⟩

theorem over : Rows.SpanOnceSaid :=
  OpenClaim.holds_of_wide 4 Try.f4 rfl rfl rfl rfl rfl rfl rfl ⟨rfl, rfl, rfl, rfl, rfl⟩ rfl rfl rfl rfl rfl (by kernel_rfl) Try.func4 (by kernel_rfl)
    (of_decide_eq_true (by kernel_rfl)) (by unfold Func.isWrapper; first | (rw [if_pos (by decide +kernel)]; kernel_rfl) | (rw [if_neg (by decide +kernel)]; exact ⟨rfl, rfl⟩))
    (fun os started H enc _ => lifted os started H enc)

/-- The statement. -/
theorem proved : Rows.SpanOnceSaid := over
#print axioms proved
end Go.Proofs.Ytibgggchofpllaa.spanOnce
