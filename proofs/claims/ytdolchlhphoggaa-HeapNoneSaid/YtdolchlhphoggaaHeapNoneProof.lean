/-
  For every input the law HeapNone of rickyard/rickyardlaw7 returns true, and its arguments read afterwards as before. The law's own sentence: Of no heap each call says so; what is refused has changed nothing. No further conditions.
-/
import Derived.Test.YtdolchlhphoggaaRows
import Derived.Test.YtdolchlhphoggaaKept
import Derived.Test.YtdolchlhphoggaaShell
import Derived.WalkKit
import Derived.ProofKit
import Derived.OpenShut
import Derived.ChangeOld
import Derived.Below
import Derived.Lib.SmallJoins
import Derived.Test.YtdolchlhphoggaaHeapAwake
namespace Go.Proofs.Ytdolchlhphoggaa.heapNone
open Go.ChangeShapes Go.WideShapes Go.ChangeAt Go.RowKit
set_option linter.unusedVariables false
set_option maxRecDepth 100000

theorem own : ownKnob Try.prog.godebug = none := by kernel_rfl
theorem laidOut : laidOutB Try.prog = true := by kernel_rfl
theorem alloc_bad {w0 W : World} {h : Nat} {P : Int} {rl : List R} {sl : List S} {F : Nat → Prop} (n cl : Int) (H : Hp w0 W h P rl sl F) (b : ¬ (0 ≤ cl ∧ cl < 8 ∧ 1 ≤ n)) :
    Calls Try.prog 18 #[ptr h, .int .i64 n, .int .i64 cl] W fun e W' => e = .returned (.tuple #[.int .i64 0, .int .i64 1]) ∧ Hp w0 W' h P rl sl F ∧ Kept (Fr F) W W' := by
  have := hp_alloc n cl H
  rw [allocA_bad b] at this
  exact this
theorem free_new {w0 W : World} {h : Nat} {P : Int} {rl : List R} {F : Nat → Prop} (p : Int) (H : Hp w0 W h P rl [] F) :
    Calls Try.prog 19 #[ptr h, .int .i64 p] W fun e W' => e = .returned (.tuple #[spn noS, .int .i64 2]) ∧ Hp w0 W' h P rl [] F ∧ Kept (Fr F) W W' := by
  have := hp_free p H
  rw [freeA_no rfl] at this
  exact this

set_option maxHeartbeats 8000000 in
/-- The walk: the Go text returns true, and nothing that was there has turned. -/
theorem walk (a0 : Int) (a1 : Int) (a2 : Int) (w : World) (w0 : (Lit.int .i64 a0).wf = true) (w1 : (Lit.int .i64 a1).wf = true) (w2 : (Lit.int .i64 a2).wf = true) :
    Calls Try.prog 7 #[.int .i64 a0, .int .i64 a1, .int .i64 a2] w fun e w' => e = .returned (.bool true) ∧ Kept Old w w' := by
  have ways : (a0 ≤ 0 ∧ a1 < 8) ∨ (a0 ≤ 0 ∧ ¬ a1 < 8) ∨ (¬ a0 ≤ 0 ∧ a1 < 8) ∨ (¬ a0 ≤ 0 ∧ ¬ a1 < 8) := by omega
  rcases ways with ⟨p1, p2⟩ | ⟨p1, p2⟩ | ⟨p1, p2⟩ | ⟨p1, p2⟩
  all_goals
    go_enter Try.func7, Try.ntmps7
    go_wp2_with fail
    refine (halloc_nil a0 a1 _).mono ?_
    rintro e W0 ⟨rfl, rfl⟩
    go_wp2_with fail
    refine (hfree_nil a2 _).mono ?_
    rintro e W1 ⟨rfl, k1⟩
    have X := Lib.hid (BxS.new W1 noS)
    have K := Lib.hid (k1.alloc (.cells #[.int .i64 0, .int .i64 0, .int .i64 0] 44))
    clear k1
    go_wp2_with fail
    refine (hof_nil a2 _).mono ?_
    rintro e W2 ⟨rfl, k2⟩
    have Y := Lib.hid (BxS.new W2 noS)
    have X := Lib.hid ((X.out.old k2).alloc (.cells #[.int .i64 0, .int .i64 0, .int .i64 0] 44))
    have K := Lib.hid ((K.out.trans k2).alloc (.cells #[.int .i64 0, .int .i64 0, .int .i64 0] 44))
    clear k2
    go_wp2_with fail
    refine (hp_new w 9 (fun b => b = W1.heap.size ∨ b = W2.heap.size) _ (by omega) (by omega) K.out (fun b h => h.elim (fun e => by rw [e]; exact Blk.lt X.out) (fun e => by rw [e]; exact Blk.lt Y.out))).mono ?_
    rintro e W3 ⟨h, rfl, H3, k3⟩
    have X3 := Lib.hid (X.out.old k3)
    have Y3 := Lib.hid (Y.out.old k3)
    have H3 := Lib.hid H3
    clear k3 X Y K
    go_wp2_with fail
    refine (alloc_bad _ _ H3.out (by omega)).mono ?_
    rintro e W4 ⟨rfl, H4, k4⟩
    have X4 := Lib.hid (X3.out.fr k4 (.inl rfl))
    have Y4 := Lib.hid (Y3.out.fr k4 (.inr rfl))
    have H4 := Lib.hid H4
    clear k4 X3 Y3 H3
    go_wp2_with fail
    refine (alloc_bad _ _ H4.out (by omega)).mono ?_
    rintro e W5 ⟨rfl, H5, k5⟩
    have X5 := Lib.hid (X4.out.fr k5 (.inl rfl))
    have Y5 := Lib.hid (Y4.out.fr k5 (.inr rfl))
    have H5 := Lib.hid H5
    clear k5 X4 Y4 H4
    go_wp2_with fail
    refine (free_new a2 H5.out).mono ?_
    rintro e W6 ⟨rfl, H6, k6⟩
    have k7 := (Kept.refl Old W6).alloc (.cells #[.int .i64 0, .int .i64 0, .int .i64 0] 44)
    have X7 := (X5.out.fr k6 (.inl rfl)).old k7
    have Y7 := (Y5.out.fr k6 (.inr rfl)).old k7
    have H7 := Lib.hid (H6.old k7)
    have x0 := X7.c0
    have x1 := X7.c1
    have x2 := X7.c2
    have y0 := Y7.c0
    have y1 := Y7.c1
    have y2 := Y7.c2
    clear k6 k7 X5 Y5 H5 H6 X7 Y7
    go_wp2_with fail
    refine (hruns_nil _).mono ?_
    rintro e V1 ⟨rfl, rfl⟩
    go_wp2_with fail
    refine (hspans_nil _).mono ?_
    rintro e V1 ⟨rfl, rfl⟩
    go_wp2_with fail
    refine (hfits_nil a0 _).mono ?_
    rintro e V1 ⟨rfl, rfl⟩
    go_wp2_with fail
    refine (hpages_nil _).mono ?_
    rintro e V1 ⟨rfl, rfl⟩
    go_wp2_with fail
    refine (hp_runs H7.out).mono ?_
    rintro e V2 ⟨g, rfl, R2, k8, hg, -⟩
    have R3 := Lib.hid (R2.old ((Kept.refl Old V2).alloc (.cells #[.int .i64 0, .int .i64 9] 63)))
    have RO := Lib.hid (Rs.one V2 (0, 9) ⟨by omega, by omega⟩ ⟨by omega, by omega⟩ V2.heap.size rfl)
    have K10 := Lib.hid ((H7.out.kept.trans k8).alloc (.cells #[.int .i64 0, .int .i64 9] 63))
    clear R2 k8 H7 hg x0 x1 x2 y0 y1 y2
    go_wp2_with fail
    refine (same_yes _ _ 1 _ _ [(0, 9)] _ R3.out RO.out (by omega)).mono ?_
    rintro e V6 ⟨rfl, k10⟩
    have K11 := Lib.hid (K10.out.trans k10)
    clear k10
    go_wp2_with fail
    refine (awakeH_any _).mono ?_
    rintro e V7 ⟨rfl, k11⟩
    have K12 := Lib.hid (K11.out.trans k11)
    go_wp2_with fail
    go_ret
    exact ⟨rfl, K12.out⟩

/-- The row's step. -/
theorem lifted (os : Os) (started : os.Started) (H : Type) (enc : TypeId × Value → H) :
    ReturnsInHanded {} Try.checked os 7 .any (Rows.heapNoneSpec.pre6 enc Try.prog Try.f7 Rows.heapNoneRow.domain false) (Rows.heapNoneSpec.post enc Try.prog Try.f7 false true false false) := by
  refine returnsInHanded_of_change (C := Try.checked) own started (by kernel_rfl) Try.func7
    (ChangeSpec.witness6 (enc := enc) (C := Try.checked) false ⟨#[], #[.int .i64 0, .int .i64 0, .int .i64 0], []⟩ 8 (by kernel_rfl) (by kernel_rfl) (by kernel_rfl) (by kernel_rfl)) ?_
  intro W base args ds gs before hval0 hW hcnd _
  have hval : ∀ (j : Nat) t v, Try.f7.params[j]? = some t → args[j]? = some v → Value.okWide Try.prog W .any base t v := hval0
  have hW' := hW
  obtain ⟨p, q, hA0, hV, rfl, hfz, hnd⟩ := hW
  have hA : DataW.TrodAll enc Try.prog W 0 (fun _ => true) true Try.f7.params.toList args.toList ds p := hA0
  rw [Try.params7] at hA hval
  obtain ⟨v0, vs0, d0, ds0, p0, q0, hargs, rfl, rfl, h0, r0⟩ := trodAll_cons hA
  obtain ⟨v1, vs1, d1, ds1, p1, q1, rfl, rfl, rfl, h1, r1⟩ := trodAll_cons r0
  obtain ⟨v2, vs2, d2, ds2, p2, q2, rfl, rfl, rfl, h2, r2⟩ := trodAll_cons r1
  obtain ⟨rfl, rfl, rfl⟩ := trodAll_nil r2
  obtain rfl : args = #[v0, v1, v2] := by cases args; simp_all
  obtain ⟨rfl, rfl⟩ := trodVars_none hV
  obtain ⟨a0, rfl, rfl, rfl, w0⟩ := open_int Try.underlying3 (hval 0 3 v0 rfl rfl) h0
  obtain ⟨a1, rfl, rfl, rfl, w1⟩ := open_int Try.underlying3 (hval 1 3 v1 rfl rfl) h1
  obtain ⟨a2, rfl, rfl, rfl, w2⟩ := open_int Try.underlying3 (hval 2 3 v2 rfl rfl) h2
  clear hA0 hval0
  refine (walk a0 a1 a2 W w0 w1 w2).mono fun e W' ⟨he, kept⟩ => ?_
  subst he
  have bel : Below W.heap.size W W' := kept.toBelow (Nat.le_refl _) (fun _ x => x.elim)
  exact ⟨_, rfl, _, _, _, [], _, [], hW', trodAll_mk1 (shut_bool Try.underlying4 _), (trodAll_cons_mk (shut_int Try.underlying3 w0) (trodAll_cons_mk (shut_int Try.underlying3 w1) (trodAll_cons_mk (shut_int Try.underlying3 w2) trodAll_mk0))), rfl, bel.frame _, fun h => by cases h⟩

theorem over : Rows.HeapNoneSaid :=
  OpenClaim.holds_of_wide 7 Try.f7 rfl rfl rfl rfl rfl rfl rfl ⟨rfl, rfl, rfl, rfl, rfl⟩ rfl rfl rfl rfl rfl (by kernel_rfl) Try.func7 (by kernel_rfl)
    (of_decide_eq_true (by kernel_rfl)) (by unfold Func.isWrapper; first | (rw [if_pos (by decide +kernel)]; kernel_rfl) | (rw [if_neg (by decide +kernel)]; exact ⟨rfl, rfl⟩))
    (fun os started H enc _ => lifted os started H enc)

/-- The statement. -/
theorem proved : Rows.HeapNoneSaid := over
#print axioms proved
end Go.Proofs.Ytdolchlhphoggaa.heapNone
