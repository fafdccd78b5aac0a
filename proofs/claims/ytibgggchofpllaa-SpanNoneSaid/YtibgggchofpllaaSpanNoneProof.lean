/-
  For every input the law SpanNone of rickyard/rickyardlaw6 returns true, and its arguments read afterwards as before. The law's own sentence: Of no table each call says so; what is told is new memory. No further conditions.
-/
import Derived.Test.YtibgggchofpllaaRows
import Derived.Test.YtibgggchofpllaaKept
import Derived.Test.YtibgggchofpllaaShell
import Derived.WalkKit
import Derived.ProofKit
import Derived.OpenShut
import Derived.ChangeOld
import Derived.Below
import Derived.Lib.SmallJoins
import Derived.Test.YtibgggchofpllaaSpanSt
import Derived.Test.YtibgggchofpllaaSpanAwake
import Derived.Test.YtibgggchofpllaaSpanRef
namespace Go.Proofs.Ytibgggchofpllaa.spanNone
open Go.ChangeShapes Go.WideShapes Go.ChangeAt Go.RowKit
set_option linter.unusedVariables false
set_option maxRecDepth 100000

theorem own : ownKnob Try.prog.godebug = none := by kernel_rfl
theorem laidOut : laidOutB Try.prog = true := by kernel_rfl
abbrev oneS : S := ⟨1, 2, 3⟩

set_option maxHeartbeats 8000000 in
/-- The walk: the Go text returns true, and nothing that was there has turned. -/
theorem walk (a0_0 : Int) (a0_1 : Int) (a0_2 : Int) (a1 : Int) (w : World) (w0_0 : (Lit.int .i64 a0_0).wf = true) (w0_1 : (Lit.int .i64 a0_1).wf = true) (w0_2 : (Lit.int .i64 a0_2).wf = true) (w1 : (Lit.int .i64 a1).wf = true) :
    Calls Try.prog 6 #[.agg #[.int .i64 a0_0, .int .i64 a0_1, .int .i64 a0_2], .int .i64 a1] w fun e w' => e = .returned (.bool true) ∧ Kept Old w w' := by
  have fx : Fit ⟨a0_0, a0_1, a0_2⟩ := ⟨by have := bounds_i64 w0_0; exact ⟨by show _ ≤ a0_0; omega, by show a0_0 ≤ _; omega⟩, by have := bounds_i64 w0_1; exact ⟨by show _ ≤ a0_1; omega, by show a0_1 ≤ _; omega⟩, by have := bounds_i64 w0_2; exact ⟨by show _ ≤ a0_2; omega, by show a0_2 ≤ _; omega⟩⟩
  obtain ⟨x, hx⟩ : ∃ x : S, x = ⟨a0_0, a0_1, a0_2⟩ := ⟨_, rfl⟩
  obtain rfl : a0_0 = x.a := by rw [hx]
  obtain rfl : a0_1 = x.n := by rw [hx]
  obtain rfl : a0_2 = x.c := by rw [hx]
  rw [← hx] at fx
  have hc := Lib.hid (show addC 8 [] oneS = 0 from by decide)
  have hl := Lib.hid (show addL 8 [] oneS = [oneS] from by decide)
  have fo : Fit oneS := fit_lit (P := 8) (by omega) (by constructor <;> decide)
  clear hx w0_0 w0_1 w0_2 w1
  have k0 := Lib.hid ((Kept.refl Old w).alloc (.cells #[.int .i64 x.a, .int .i64 x.n, .int .i64 x.c] 30))
  have B0 := Lib.hid (Bx.new w x)
  go_enter Try.func6, Try.ntmps6
  go_wp2_with fail
  refine (rem_nil a1 _).mono ?_
  rintro e W1 ⟨rfl, k1⟩
  have K := Lib.hid ((k0.out.trans k1).alloc (.cells #[.int .i64 0, .int .i64 0, .int .i64 0] 30))
  have B1 := Lib.hid ((B0.out.old k1).alloc (.cells #[.int .i64 0, .int .i64 0, .int .i64 0] 30))
  have X1 := Lib.hid (Bx.new W1 noS)
  clear k0 k1 B0
  go_wp2_with fail
  refine (tof_nil a1 _).mono ?_
  rintro e W2 ⟨rfl, k2⟩
  have K := Lib.hid ((K.out.trans k2).alloc (.cells #[.int .i64 0, .int .i64 0, .int .i64 0] 30))
  have B2 := Lib.hid ((B1.out.old k2).alloc (.cells #[.int .i64 0, .int .i64 0, .int .i64 0] 30))
  have X2 := Lib.hid ((X1.out.old k2).alloc (.cells #[.int .i64 0, .int .i64 0, .int .i64 0] 30))
  have Y2 := Lib.hid (Bx.new W2 noS)
  clear k2 B1 X1
  go_wp2_with fail
  generalize hb : w.heap.size = b at *
  generalize W1.heap.size = bx at *
  generalize W2.heap.size = by_ at *
  refine (st_new w 8 (fun k => k = b ∨ k = bx ∨ k = by_) _ (by omega) (by omega) K.out (fun k h => by rcases h with rfl | rfl | rfl; exact Blk.lt B2.out; exact Blk.lt X2.out; exact Blk.lt Y2.out)).mono ?_
  rintro e W3 ⟨p, rfl, T, k3⟩
  have T3 := Lib.hid T
  have B3 := Lib.hid (B2.out.old k3)
  have X3 := Lib.hid (X2.out.old k3)
  have Y3 := Lib.hid (Y2.out.old k3)
  clear T k3 B2 X2 Y2 K
  go_wp2_with fail
  refine (st_add oneS T3.out fo).mono ?_
  rintro e W4 ⟨rfl, T, k4⟩
  rw [hl.out] at T
  rw [hc.out]
  have T4 := Lib.hid T
  have B4 := Lib.hid (B3.out.fr k4 (.inl rfl))
  have X4 := Lib.hid (X3.out.fr k4 (.inr (.inl rfl)))
  have Y4 := Lib.hid (Y3.out.fr k4 (.inr (.inr rfl)))
  clear T k4 T3 B3 X3 Y3
  go_wp2_with fail
  refine (st_list T4.out).mono ?_
  rintro e W5 ⟨A, c, rfl, R5, k5, hA5, g, cs, rfl, bg, hlc⟩
  have hg5 : W4.heap.size ≤ g := hA5 _ rfl
  have hg6 := bg.lt
  have T5 := Lib.hid (T4.out.more (G := fun k => k = g ∨ k = b ∨ k = bx ∨ k = by_) k5 (fun k h => h.elim (fun e => .inr ⟨by omega, by omega⟩) .inl))
  have B5 := B4.out.old k5
  have X5 := X4.out.old k5
  have Y5 := Y4.out.old k5
  obtain ⟨g', o', y, e', _, _, _, r0, r1, r2⟩ := R5.get (k := 0) (by simp)
  obtain ⟨rfl, rfl⟩ : g = g' ∧ 0 = o' := by injection e' with e'; injection e' with e1 e2; exact ⟨e1, e2⟩
  have gf := bg.frozen
  have hbg : b ≠ g := by have := Blk.lt B4.out; omega
  have hxg : bx ≠ g := by have := Blk.lt X4.out; omega
  have hyg : by_ ≠ g := by have := Blk.lt Y4.out; omega
  obtain ⟨V, hV, kV⟩ : ∃ V, ((W5.setCell ⟨g, 0, none⟩ (.int .i64 x.a)).setCell ⟨g, 1, none⟩ (.int .i64 x.n)).setCell ⟨g, 2, none⟩ (.int .i64 x.c) = V ∧ Kept (Only g) W5 V := ⟨_, rfl, ((only_setCell _ _ _ _).trans (only_setCell _ _ _ _)).trans (only_setCell _ _ _ _)⟩
  have hwg : w.heap.size ≤ g := by have := T4.out.kept.size; omega
  have T6 := Lib.hid (T5.out.only (.inl rfl) hwg kV)
  have B6 := B5.kept kV hbg
  have X6 := X5.kept kV hxg
  have Y6 := Y5.kept kV hyg
  have b0 := B5.c0
  have b1 := B5.c1
  have b2 := B5.c2
  have d0 := B6.c0
  have d1 := B6.c1
  have d2 := B6.c2
  have B6 := Lib.hid B6
  have X6 := Lib.hid X6
  have Y6 := Lib.hid Y6
  simp only [Nat.zero_mul, Nat.zero_add] at r0 r1 r2
  clear R5 k5 hA5 bg T4 B4 X4 Y4 B5 X5 Y5 T5 kV e'
  go_wp2_with fail
  refine (add_nil x _).mono ?_
  rintro e V2 ⟨rfl, k6⟩
  have T7 := Lib.hid (T6.out.old k6)
  have x0 := (X6.out.old k6).c0
  have x1 := (X6.out.old k6).c1
  have x2 := (X6.out.old k6).c2
  have y0 := (Y6.out.old k6).c0
  have y1 := (Y6.out.old k6).c1
  have y2 := (Y6.out.old k6).c2
  clear k6 T6 hV
  go_wp2_with fail
  refine (list_nil _).mono ?_
  rintro e V3 ⟨A3, c3, rfl, _, k7, _, _⟩
  have T8 := Lib.hid (T7.out.old k7)
  clear k7 T7
  go_wp2_with fail
  refine (len_nil _).mono ?_
  rintro e V4 ⟨rfl, rfl⟩
  go_wp2_with fail
  refine (st_list T8.out).mono ?_
  rintro e V5 ⟨A5, c5, rfl, R9, k9, _, g9, _, rfl, _, _⟩
  have R10 := Lib.hid (R9.alloc (.cells #[.int .i64 1, .int .i64 2, .int .i64 3] 30))
  have RO := Lib.hid (Rs.one V5 oneS fo V5.heap.size rfl)
  have K10 := Lib.hid ((T8.out.kept.trans k9).alloc (.cells #[.int .i64 1, .int .i64 2, .int .i64 3] 30))
  clear R9 k9 T8
  go_wp2_with fail
  refine (same_yes _ _ 1 _ _ [oneS] _ R10.out RO.out (by omega)).mono ?_
  rintro e V6 ⟨rfl, k10⟩
  have K11 := Lib.hid (K10.out.trans k10)
  clear k10
  go_wp2_with fail
  refine (awake_any _).mono ?_
  rintro e V7 ⟨rfl, k11⟩
  have K12 := Lib.hid (K11.out.trans k11)
  go_wp2_with fail
  go_ret
  exact ⟨rfl, K12.out⟩

/-- The row's step. -/
theorem lifted (os : Os) (started : os.Started) (H : Type) (enc : TypeId × Value → H) :
    ReturnsInHanded {} Try.checked os 6 .any (Rows.spanNoneSpec.pre6 enc Try.prog Try.f6 Rows.spanNoneRow.domain false) (Rows.spanNoneSpec.post enc Try.prog Try.f6 false true false false) := by
  refine returnsInHanded_of_change (C := Try.checked) own started (by kernel_rfl) Try.func6
    (ChangeSpec.witness6 (enc := enc) (C := Try.checked) false ⟨#[], #[.agg #[.int .i64 0, .int .i64 0, .int .i64 0], .int .i64 0], []⟩ 8 (by kernel_rfl) (by kernel_rfl) (by kernel_rfl) (by kernel_rfl)) ?_
  intro W base args ds gs before hval0 hW hcnd _
  have hval : ∀ (j : Nat) t v, Try.f6.params[j]? = some t → args[j]? = some v → Value.okWide Try.prog W .any base t v := hval0
  have hW' := hW
  obtain ⟨p, q, hA0, hV, rfl, hfz, hnd⟩ := hW
  have hA : DataW.TrodAll enc Try.prog W 0 (fun _ => true) true Try.f6.params.toList args.toList ds p := hA0
  rw [Try.params6] at hA hval
  obtain ⟨v0, vs0, d0, ds0, p0, q0, hargs, rfl, rfl, h0, r0⟩ := trodAll_cons hA
  obtain ⟨v1, vs1, d1, ds1, p1, q1, rfl, rfl, rfl, h1, r1⟩ := trodAll_cons r0
  obtain ⟨rfl, rfl, rfl⟩ := trodAll_nil r1
  obtain rfl : args = #[v0, v1] := by cases args; simp_all
  obtain ⟨rfl, rfl⟩ := trodVars_none hV
  have k0 := h0
  have lt0 : ∀ x ∈ p0, x.block < W.heap.size := by obtain ⟨m, hm⟩ := k0; exact DataW.trod_lt m _ _ _ hm
  obtain ⟨u0_0, u0_1, u0_2, y0_0, y0_1, y0_2, n0, rfl, _, _, t0_0, t0_1, t0_2⟩ := Joins.open_agg3 Try.underlying30 (by kernel_rfl) (by kernel_rfl) (hval 0 30 v0 rfl rfl) h0
  obtain ⟨a0_0, e0_0, _, w0_0⟩ := DataW.trod_int Try.underlying3 t0_0
  obtain rfl := List.head_eq_of_cons_eq e0_0
  obtain ⟨a0_1, e0_1, _, w0_1⟩ := DataW.trod_int Try.underlying3 t0_1
  obtain rfl := List.head_eq_of_cons_eq e0_1
  obtain ⟨a0_2, e0_2, _, w0_2⟩ := DataW.trod_int Try.underlying3 t0_2
  obtain rfl := List.head_eq_of_cons_eq e0_2
  obtain ⟨a1, rfl, rfl, rfl, w1⟩ := open_int Try.underlying3 (hval 1 3 v1 rfl rfl) h1
  clear hA0 hval0
  refine (walk a0_0 a0_1 a0_2 a1 W w0_0 w0_1 w0_2 w1).mono fun e W' ⟨he, kept⟩ => ?_
  subst he
  have bel : Below W.heap.size W W' := kept.toBelow (Nat.le_refl _) (fun _ x => x.elim)
  exact ⟨_, rfl, _, _, _, [], _, [], hW', trodAll_mk1 (shut_bool Try.underlying4 _), (trodAll_cons_mk (Below.trod laidOut (by kernel_rfl) (of_decide_eq_true (by kernel_rfl)) k0 bel lt0) (trodAll_cons_mk (shut_int Try.underlying3 w1) trodAll_mk0)), rfl, bel.frame _, fun h => by cases h⟩

theorem over : Rows.SpanNoneSaid :=
  OpenClaim.holds_of_wide 6 Try.f6 rfl rfl rfl rfl rfl rfl rfl ⟨rfl, rfl, rfl, rfl, rfl⟩ rfl rfl rfl rfl rfl (by kernel_rfl) Try.func6 (by kernel_rfl)
    (of_decide_eq_true (by kernel_rfl)) (by unfold Func.isWrapper; first | (rw [if_pos (by decide +kernel)]; kernel_rfl) | (rw [if_neg (by decide +kernel)]; exact ⟨rfl, rfl⟩))
    (fun os started H enc _ => lifted os started H enc)

/-- The statement. -/
theorem proved : Rows.SpanNoneSaid := over
#print axioms proved
end Go.Proofs.Ytibgggchofpllaa.spanNone
