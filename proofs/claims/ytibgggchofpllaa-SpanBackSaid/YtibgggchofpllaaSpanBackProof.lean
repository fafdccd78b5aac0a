/-
  For every input the law SpanBack of rickyard/rickyardlaw6 returns true, and its arguments read afterwards as before. The law's own sentence: What is added is removed as it was, by its first page alone, once; behind that the table is as it was; what is removed makes room for another one. No further conditions.
-/
import Derived.Test.YtibgggchofpllaaRows
import Derived.Test.YtibgggchofpllaaKept
import Derived.Test.YtibgggchofpllaaShell
import Derived.Test.YtibgggchofpllaaShellInts
import Derived.WalkKit
import Derived.ProofKit
import Derived.OpenShut
import Derived.ChangeOld
import Derived.Below
import Derived.Lib.SmallJoins
import Derived.Test.YtibgggchofpllaaSpanSt
import Derived.Test.YtibgggchofpllaaSpanAwake
import Derived.Test.YtibgggchofpllaaSpanRef
import Derived.Test.YtibgggchofpllaaSpanMore
namespace Go.Proofs.Ytibgggchofpllaa.spanBack
open Go.ChangeShapes Go.WideShapes Go.ChangeAt Go.RowKit
set_option linter.unusedVariables false
set_option maxRecDepth 100000

theorem own : ownKnob Try.prog.godebug = none := by kernel_rfl
theorem laidOut : laidOutB Try.prog = true := by kernel_rfl

set_option maxHeartbeats 8000000 in
/-- The walk: the Go text returns true, and nothing that was there has turned. -/
theorem walk (a0 : Option Addr) (len0 cap0 : Nat) (z0 : Nat → Int) (a1 : Int) (a2 : Int) (a3 : Int) (w : World) (w0 : len0 ≤ cap0 ∧ cap0 ≤ maxLen ∧ (∀ i, i < len0 → (Lit.int .u8 (z0 i)).wf = true) ∧ Sl w a0 1 len0 fun i _ => .int .u8 (z0 i)) (w1 : (Lit.int .u8 a1).wf = true) (w2 : (Lit.int .u8 a2).wf = true) (w3 : (Lit.int .u8 a3).wf = true) :
    Calls Try.prog 5 #[.slice a0 len0 cap0, .int .u8 a1, .int .u8 a2, .int .u8 a3] w fun e w' => e = .returned (.bool true) ∧ Kept Old w w' := by
  obtain ⟨v0, v1, v2, v3⟩ := w0
  have b1 := bounds_u8 w1
  have b2 := bounds_u8 w2
  have b3 := bounds_u8 w3
  have hl : len0 ≤ 9223372036854775807 := by unfold maxLen at v1; omega
  have hz := Lib.hid (show ∀ i, i < len0 → 0 ≤ z0 i ∧ z0 i ≤ 255 from fun i hi => bounds_u8 (v2 i hi))
  have HS := Lib.hid v3
  clear v0 v1 v2 v3 w1 w2 w3
  go_enter Try.func5, Try.ntmps5
  go_wp2_with fail
  refine (st_new w 200 (fun _ => False) w (by omega) (by omega) (Kept.refl _ _) (fun _ h => h.elim)).mono ?_
  rintro e W ⟨p, rfl, T, -⟩
  have T := Lib.hid T
  go_wp2_with fail
  go_loopw [10] (fun i wr => ∃ (k : Nat) (l : List S), k ≤ 101 ∧ i = .int .i64 (k : Int) ∧ Hid (St w wr p 200 l fun _ => False) ∧ Hid (Good 108 l)) (fun i _ => 102 - (intOf i).toNat)
  case atStart => exact ⟨0, [], by omega, rfl, T, Lib.hid (Good.nil _)⟩
  case round =>
    obtain ⟨k, l, hk, rfl, T1, G1⟩ := hrel
    rename World => V
    clear T
    have wk : IntKind.i64.wrap ((k : Int) + 1) = (k : Int) + 1 := IntWalk.i64_in _ (by omega)
    by_cases c : k + 1 < len0 ∧ k < 100
    · obtain ⟨c1, c2⟩ := c
      obtain ⟨g, o, rfl, hg, hc⟩ := (HS.out.old T1.out.kept).lies (by omega)
      have d0 := hc k 0 (by omega) (by omega)
      have d1 := hc (k + 1) 0 (by omega) (by omega)
      simp only [Nat.mul_one, Nat.add_zero] at d0 d1
      have y0 := hz.out k (by omega)
      have y1 := hz.out (k + 1) (by omega)
      generalize z0 k = u at *
      generalize z0 (k + 1) = v at *
      have fu : u.tmod 100 = u % 100 := Int.tmod_eq_emod_of_nonneg (by omega)
      have fv : v.tmod 9 = v % 9 := Int.tmod_eq_emod_of_nonneg (by omega)
      obtain ⟨x, hx⟩ : ∃ x : S, x = ⟨u % 100, 1 + v % 9, 2⟩ := ⟨_, rfl⟩
      have ok : Ok 108 x := by rw [hx]; exact ⟨by show 0 ≤ u % 100; omega, by show 1 ≤ 1 + v % 9; omega, by show u % 100 + (1 + v % 9) ≤ 108; omega, by show (0 : Int) ≤ 2; omega, by show (2 : Int) < 8; omega⟩
      have fx := Lib.hid (fit_lit (by omega) ok)
      have G2 := Lib.hid (G1.out.add' (P := 200) ok)
      have C1 := Lib.hid (fun W3 (h : Kept Old V W3) => st_add x (T1.out.old h) fx.out)
      clear hc ok hz HS
      go_wp2_with fail
      have cd0 : World.cell? { heap := V.heap, tape := V.tape, drawn := V.drawn + 1, os := V.os, output := V.output } ⟨g, o + k, none⟩ = some (.int .u8 u) := d0
      have cd1 : World.cell? { heap := V.heap, tape := V.tape, drawn := V.drawn + 1, os := V.os, output := V.output } ⟨g, o + (k + 1), none⟩ = some (.int .u8 v) := d1
      have j0 : (k : Int) < (len0 : Int) := by omega
      have j1 : (k : Int) + 1 < (len0 : Int) := by omega
      have j2 : (0 : Int) ≤ (k : Int) + 1 := by omega
      have j3 : ((k : Int) + 1).toNat = k + 1 := by omega
      have j4 : IntKind.i64.wrap u = u := IntWalk.i64_in _ (by omega)
      have j5 : IntKind.i64.wrap v = v := IntWalk.i64_in _ (by omega)
      have j6 : IntKind.i64.wrap (u % 100) = u % 100 := IntWalk.i64_in _ (by omega)
      have j7 : IntKind.i64.wrap (v % 9) = v % 9 := IntWalk.i64_in _ (by omega)
      have j8 : IntKind.i64.wrap (1 + v % 9) = 1 + v % 9 := IntWalk.i64_in _ (by omega)
      go_still_tail 16, (by kernel_rfl)
      change wpList _ _ _ _ _ V.drew
      go_wp2_with fail
      subst hx
      refine (C1.out _ (Kept.refl Old V).drew).mono ?_
      rintro e V2 ⟨rfl, T2, -⟩
      have T2 := Lib.hid T2
      go_wp2
      refine ⟨⟨k + 2, _, by omega, by go_num, T2, G2⟩, ?_⟩
      simp [intOf]; omega
    · have cB : (decide ((k : Int) + 1 < (len0 : Int)) && decide ((k : Int) < 100)) = false := by simp; omega
      have kb : (k : Int) + 1 < (len0 : Int) → ¬ (k : Int) < 100 := by omega
      have bk := Lib.hid (fun s h1 h2 h3 h4 h5 h6 => back_of G1.out s h1 h2 h3 h4 h5 h6)
      have fa1 : a1.tmod 60 = a1 % 60 := Int.tmod_eq_emod_of_nonneg (by omega)
      have fa2 : a2.tmod 20 = a2 % 20 := Int.tmod_eq_emod_of_nonneg (by omega)
      have fa3 : a3.tmod 8 = a3 % 8 := Int.tmod_eq_emod_of_nonneg (by omega)
      clear c hz HS
      have cc : ¬ (k : Int) + 1 < (len0 : Int) ∨ ((k : Int) + 1 < (len0 : Int) ∧ ¬ (k : Int) < 100) := by omega
      have ba := Lib.hid (show 110 ≤ 110 + a1 % 60 ∧ 110 + a1 % 60 ≤ 169 ∧ 2 ≤ 2 + a2 % 20 ∧ 2 + a2 % 20 ≤ 21 ∧ 0 ≤ a3 % 8 ∧ a3 % 8 ≤ 7 from by omega)
      clear kb cB
      rcases cc with ca | ⟨ca, cb⟩
      all_goals
        go_wp2_with fail
        refine (st_list T1.out).mono ?_
        rintro e W5 ⟨A, c, rfl, R5, k5, hA5, g, cs, rfl, bg, hlc⟩
        have hg5 : V.heap.size ≤ g := hA5 _ rfl
        have hg6 := bg.lt
        have hl := T1.out.len
        have R5 := Lib.hid R5
        have k5' := Lib.hid k5
        clear hA5 bg hlc k5
        go_wp2_with fail
        generalize 110 + a1 % 60 = xa at *
        generalize 2 + a2 % 20 = xn at *
        generalize a3 % 8 = xc at *
        obtain ⟨p1, p2, p3, p4, p5, p6⟩ := ba.out
        have Q := Lib.hid (bk.out ⟨xa, xn, xc⟩ p1 p2 p3 p4 p5 p6)
        have fx := Lib.hid (fit_lit (by omega) Q.out.ok)
        have fy := Lib.hid (fit_lit (by omega) Q.out.oy)
        have T6 := Lib.hid (T1.out.more (G := fun k => k = g ∨ k = W5.heap.size) (k5'.out.alloc (.cells #[.int .i64 xa, .int .i64 xn, .int .i64 xc] 30)) (fun k h => .inr (by simp; rcases h with rfl | rfl; omega; have := k5'.out.size; omega)))
        have B6 := Lib.hid (Bx.new W5 ⟨xa, xn, xc⟩)
        have R6 := Lib.hid (R5.out.alloc (.cells #[.int .i64 xa, .int .i64 xn, .int .i64 xc] 30))
        clear T1 k5' R5 ba bk G1
        refine (st_add ⟨xa, xn, xc⟩ T6.out fx.out).mono ?_
        rintro e W7 ⟨rfl, T7, k7⟩
        rw [Q.out.l0] at T7
        rw [Q.out.c0]
        have T7 := Lib.hid T7
        have B7 := Lib.hid (B6.out.fr k7 (.inr rfl))
        have R7 := Lib.hid (R6.out.fr k7 (fun ad e => by injection e with e; subst e; exact .inl rfl))
        have c0 := B7.out.c0
        clear T6 B6 R6 k7
        generalize W5.heap.size = sb at *
        go_wp2_with fail
        refine (st_rem (xa + 1) T7.out).mono ?_
        rintro e W8 ⟨rfl, T8, k8⟩
        rw [Q.out.l1] at T8
        rw [Q.out.c1, Q.out.x1]
        have T8 := Lib.hid (T8.old ((Kept.refl Old W8).alloc (.cells #[.int .i64 0, .int .i64 0, .int .i64 0] 30)))
        have B8 := Lib.hid ((B7.out.fr k8 (.inr rfl)).alloc (.cells #[.int .i64 0, .int .i64 0, .int .i64 0] 30))
        have R8 := Lib.hid ((R7.out.fr k8 (fun ad e => by injection e with e; subst e; exact .inl rfl)).alloc (.cells #[.int .i64 0, .int .i64 0, .int .i64 0] 30))
        have b0 := (B7.out.fr k8 (.inr rfl)).c0
        have b1' := (B7.out.fr k8 (.inr rfl)).c1
        have hb8 := Blk.lt (B7.out.fr k8 (.inr rfl))
        clear T7 B7 R7 k8 c0
        go_wp2_with fail
        refine (st_add ⟨xa + xn - 1, 1, 0⟩ T8.out fy.out).mono ?_
        rintro e W9 ⟨rfl, T9, k9⟩
        rw [Q.out.l2] at T9
        rw [Q.out.c2]
        have T9 := Lib.hid T9
        have B9 := Lib.hid (B8.out.fr k9 (.inr rfl))
        have R9 := Lib.hid (R8.out.fr k9 (fun ad e => by injection e with e; subst e; exact .inl rfl))
        have c0 := B9.out.c0
        clear T8 B8 R8 k9 b0 b1' hb8
        go_wp2_with fail
        refine (st_rem xa T9.out).mono ?_
        rintro e W10 ⟨rfl, T10, k10⟩
        rw [Q.out.l3] at T10
        rw [Q.out.c3, Q.out.x3]
        have T11 := Lib.hid (T10.more (G := fun k => (k = g ∨ k = sb) ∨ k = W10.heap.size) ((Kept.refl Old W10).alloc (.cells #[.int .i64 xa, .int .i64 xn, .int .i64 xc] 30)) (fun k h => h.imp id (fun e => by subst e; simp)))
        have B11 := Lib.hid ((B9.out.fr k10 (.inr rfl)).alloc (.cells #[.int .i64 xa, .int .i64 xn, .int .i64 xc] 30))
        have R11 := Lib.hid ((R9.out.fr k10 (fun ad e => by injection e with e; subst e; exact .inl rfl)).alloc (.cells #[.int .i64 xa, .int .i64 xn, .int .i64 xc] 30))
        have X11 := Lib.hid (Bx.new W10 ⟨xa, xn, xc⟩)
        have b0 := (B9.out.fr k10 (.inr rfl)).c0
        have hb8 := Blk.lt (B9.out.fr k10 (.inr rfl))
        clear T9 B9 R9 k10 c0 T10
        go_wp2_with fail
        refine (st_rem xa T11.out).mono ?_
        rintro e W12 ⟨rfl, T12, k12⟩
        rw [Q.out.l4] at T12
        rw [Q.out.c4, Q.out.x4]
        have T13 := Lib.hid (T12.old ((Kept.refl Old W12).alloc (.cells #[.int .i64 0, .int .i64 0, .int .i64 0] 30)))
        have B12 := B11.out.fr k12 (.inl (.inr rfl))
        have X12 := X11.out.fr k12 (.inr rfl)
        have R13 := Lib.hid ((R11.out.fr k12 (fun ad e => by injection e with e; subst e; exact .inl (.inl rfl))).alloc (.cells #[.int .i64 0, .int .i64 0, .int .i64 0] 30))
        have b0 := B12.c0
        have b1' := B12.c1
        have b2' := B12.c2
        have b3' := Blk.lt B12
        have x0 := X12.c0
        have x1 := X12.c1
        have x2 := X12.c2
        have x3 := Blk.lt X12
        have B13 := Lib.hid (B12.alloc (.cells #[.int .i64 0, .int .i64 0, .int .i64 0] 30))
        clear T11 B11 R11 X11 k12 T12 B12 X12 hb8
        generalize W10.heap.size = xb at *
        go_wp2_with fail
        refine (st_list T13.out).mono ?_
        rintro e W14 ⟨A, c14, rfl, R14, k14, _, _⟩
        have T14 := Lib.hid (T13.out.old k14)
        have S14 := Lib.hid R14
        have U14 := Lib.hid (R13.out.old k14)
        have B14 := Lib.hid (B13.out.old k14)
        clear R14 k14 T13 R13 B13 b0 b1' b2' b3' x0 x1 x2 x3
        go_wp2_with fail
        refine (same_yes _ _ l.length _ _ l _ S14.out U14.out (by omega)).mono ?_
        rintro e W15 ⟨rfl, k15⟩
        have T15 := Lib.hid (T14.out.old k15)
        have c0 := (B14.out.old k15).c0
        have c1 := (B14.out.old k15).c1
        clear k15 T14 S14 U14 B14
        go_wp2_with fail
        refine (st_add ⟨xa + xn - 1, 1, 0⟩ T15.out fy.out).mono ?_
        rintro e W16 ⟨rfl, T16, -⟩
        rw [Q.out.c5]
        have K16 := Lib.hid T16.kept
        clear T15 T16 c0 c1
        go_wp2_with fail
        refine (awake_any _).mono ?_
        rintro e W17 ⟨rfl, k17⟩
        have K17 := Lib.hid (K16.out.trans k17)
        clear k17
        go_wp2_with fail
        go_ret
        exact ⟨rfl, K17.out⟩

/-- The row's step. -/
theorem lifted (os : Os) (started : os.Started) (H : Type) (enc : TypeId × Value → H) :
    ReturnsInHanded {} Try.checked os 5 .any (Rows.spanBackSpec.pre6 enc Try.prog Try.f5 Rows.spanBackRow.domain false) (Rows.spanBackSpec.post enc Try.prog Try.f5 false true false false) := by
  refine returnsInHanded_of_change (C := Try.checked) own started (by kernel_rfl) Try.func5
    (ChangeSpec.witness6 (enc := enc) (C := Try.checked) false ⟨#[], #[.slice none 0 0, .int .u8 0, .int .u8 0, .int .u8 0], []⟩ 8 (by kernel_rfl) (by kernel_rfl) (by kernel_rfl) (by kernel_rfl)) ?_
  intro W base args ds gs before hval0 hW hcnd _
  have hval : ∀ (j : Nat) t v, Try.f5.params[j]? = some t → args[j]? = some v → Value.okWide Try.prog W .any base t v := hval0
  have hW' := hW
  obtain ⟨p, q, hA0, hV, rfl, hfz, hnd⟩ := hW
  have hA : DataW.TrodAll enc Try.prog W 0 (fun _ => true) true Try.f5.params.toList args.toList ds p := hA0
  rw [Try.params5] at hA hval
  obtain ⟨v0, vs0, d0, ds0, p0, q0, hargs, rfl, rfl, h0, r0⟩ := trodAll_cons hA
  obtain ⟨v1, vs1, d1, ds1, p1, q1, rfl, rfl, rfl, h1, r1⟩ := trodAll_cons r0
  obtain ⟨v2, vs2, d2, ds2, p2, q2, rfl, rfl, rfl, h2, r2⟩ := trodAll_cons r1
  obtain ⟨v3, vs3, d3, ds3, p3, q3, rfl, rfl, rfl, h3, r3⟩ := trodAll_cons r2
  obtain ⟨rfl, rfl, rfl⟩ := trodAll_nil r3
  obtain rfl : args = #[v0, v1, v2, v3] := by cases args; simp_all
  obtain ⟨rfl, rfl⟩ := trodVars_none hV
  have k0 := h0
  have lt0 : ∀ x ∈ p0, x.block < W.heap.size := by obtain ⟨m, hm⟩ := k0; exact DataW.trod_lt m _ _ _ hm
  obtain ⟨a0, len0, cap0, rfl⟩ := okWide_slice Try.underlying38 (hval 0 38 v0 rfl rfl)
  obtain ⟨z0, w0⟩ := ints_in Try.underlying38 Try.underlying5 (by kernel_rfl) h0
  obtain ⟨a1, rfl, rfl, rfl, w1⟩ := open_int Try.underlying5 (hval 1 5 v1 rfl rfl) h1
  obtain ⟨a2, rfl, rfl, rfl, w2⟩ := open_int Try.underlying5 (hval 2 5 v2 rfl rfl) h2
  obtain ⟨a3, rfl, rfl, rfl, w3⟩ := open_int Try.underlying5 (hval 3 5 v3 rfl rfl) h3
  clear hA0 hval0
  refine (walk a0 len0 cap0 z0 a1 a2 a3 W w0 w1 w2 w3).mono fun e W' ⟨he, kept⟩ => ?_
  subst he
  have bel : Below W.heap.size W W' := kept.toBelow (Nat.le_refl _) (fun _ x => x.elim)
  exact ⟨_, rfl, _, _, _, [], _, [], hW', trodAll_mk1 (shut_bool Try.underlying4 _), (trodAll_cons_mk (Below.trod laidOut (by kernel_rfl) (of_decide_eq_true (by kernel_rfl)) k0 bel lt0) (trodAll_cons_mk (shut_int Try.underlying5 w1) (trodAll_cons_mk (shut_int Try.underlying5 w2) (trodAll_cons_mk (shut_int Try.underlying5 w3) trodAll_mk0)))), rfl, bel.frame _, fun h => by cases h⟩

theorem over : Rows.SpanBackSaid :=
  OpenClaim.holds_of_wide 5 Try.f5 rfl rfl rfl rfl rfl rfl rfl ⟨rfl, rfl, rfl, rfl, rfl⟩ rfl rfl rfl rfl rfl (by kernel_rfl) Try.func5 (by kernel_rfl)
    (of_decide_eq_true (by kernel_rfl)) (by unfold Func.isWrapper; first | (rw [if_pos (by decide +kernel)]; kernel_rfl) | (rw [if_neg (by decide +kernel)]; exact ⟨rfl, rfl⟩))
    (fun os started H enc _ => lifted os started H enc)

/-- The statement. -/
theorem proved : Rows.SpanBackSaid := over
#print axioms proved
end Go.Proofs.Ytibgggchofpllaa.spanBack
