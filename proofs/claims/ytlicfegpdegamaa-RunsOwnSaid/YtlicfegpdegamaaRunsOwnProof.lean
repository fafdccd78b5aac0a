/-
  For every input the law RunsOwn of rickyard/rickyardlaw5 returns true, and its arguments read afterwards as before. The law's own sentence: What is handed in is as it was; of what is refused there is no list. No further conditions.
-/
import Derived.Test.YtlicfegpdegamaaRows
import Derived.Test.YtlicfegpdegamaaKept
import Derived.Test.YtlicfegpdegamaaShell
import Derived.Test.YtlicfegpdegamaaShellInts
import Derived.WalkKit
import Derived.ProofKit
import Derived.OpenShut
import Derived.ChangeOld
import Derived.Below
import Derived.Lib.SmallJoins
import Derived.Test.YtlicfegpdegamaaRunsMade
import Derived.Test.YtlicfegpdegamaaRunsAwake
import Derived.Test.YtlicfegpdegamaaRunsBoth
namespace Go.Proofs.Ytlicfegpdegamaa.runsOwn
open Go.ChangeShapes Go.WideShapes Go.ChangeAt Go.RowKit
set_option linter.unusedVariables false
set_option maxRecDepth 100000

theorem own : ownKnob Try.prog.godebug = none := by kernel_rfl
theorem laidOut : laidOutB Try.prog = true := by kernel_rfl

set_option maxHeartbeats 8000000 in
/-- The walk: the Go text returns true, and nothing that was there has turned. -/
theorem walk (a0 : Option Addr) (len0 cap0 : Nat) (z0 : Nat → Int) (a1 : Int) (a2 : Int) (w : World) (w0 : len0 ≤ cap0 ∧ cap0 ≤ maxLen ∧ (∀ i, i < len0 → (Lit.int .u8 (z0 i)).wf = true) ∧ Sl w a0 1 len0 fun i _ => .int .u8 (z0 i)) (w1 : (Lit.int .u8 a1).wf = true) (w2 : (Lit.int .i64 a2).wf = true) :
    Calls Try.prog 8 #[.slice a0 len0 cap0, .int .u8 a1, .int .i64 a2] w fun e w' => e = .returned (.bool true) ∧ Kept Old w w' := by
  obtain ⟨v0, v1, v2, v3⟩ := w0
  have bn := bounds_u8 w1
  have bm := bounds_i64 w2
  have hl : len0 ≤ 9223372036854775807 := by unfold maxLen at v1; omega
  have hz := Lib.hid (show ∀ i, i < len0 → 0 ≤ z0 i ∧ z0 i ≤ 255 from fun i hi => bounds_u8 (v2 i hi))
  have HS := Lib.hid v3
  clear v0 v1 v2 v3 w1 w2
  go_enter Try.func8, Try.ntmps8
  go_wp2_with fail
  refine (made_any a0 len0 cap0 z0 w hl hz.out HS.out).mono ?_
  rintro e w1 ⟨v, rfl, ⟨A, n, c, rfl, R1, hc, hA, k1⟩, hr⟩
  have HR := Lib.hid R1
  have HT := Lib.hid hr
  have HA := Lib.hid hA
  have K := Lib.hid k1
  have HS := Lib.hid (HS.out.old k1)
  have hn := right_n R1 hr
  clear R1 hr hA k1
  go_wp2_with fail
  refine (made_any a0 len0 cap0 z0 w1 hl hz.out HS.out).mono ?_
  rintro e w2 ⟨v, rfl, ⟨B, n', d, rfl, R2, _, _, q⟩, _⟩
  obtain rfl : n' = n := by have := HR.out.len; have := R2.len; omega
  have HR := Lib.hid (HR.out.old q)
  have HB := Lib.hid R2
  have K := Lib.hid (K.out.trans q)
  clear q R2 hz HS
  generalize madeL z0 len0 = l at *
  obtain ⟨L1, x1, code1, _, T1, _⟩ := take_both l (1 + a1 % 9) HT.out
  obtain ⟨L2, code2, _, P1, _⟩ := put_both l (a1, 1) HT.out ⟨by show _ ≤ (1 : Int); omega, by show (1 : Int) ≤ _; omega⟩
  have T1 := Lib.hid T1
  have P1 := Lib.hid P1
  go_wp2_with fail
  refine (T1.out _ _ _ _ HR.out hc).mono ?_
  rintro e w3 ⟨v1, rfl, _, _, _, _, _, _, _, q⟩
  have HR := Lib.hid (HR.out.old q)
  have HB := Lib.hid (HB.out.old q)
  have K := Lib.hid (K.out.trans q)
  clear q T1
  go_wp2_with fail
  refine (P1.out _ _ _ _ HR.out hc HA.out).mono ?_
  rintro e w4 ⟨v2, rfl, _, _, _, _, _, _, _, q⟩
  have HR := Lib.hid (HR.out.old q)
  have HB := Lib.hid (HB.out.old q)
  have K := Lib.hid (K.out.trans q)
  clear q P1
  rcases (show a2 < -1 ∨ a2 = -1 ∨ a2 = 0 ∨ 0 < a2 from by omega) with hd | rfl | rfl | hd
  · go_wp2_with fail
    refine (take_bad A n' c (a2) _ (by omega)).mono ?_
    rintro e w5 ⟨rfl, q⟩
    have HR := Lib.hid (HR.out.old q)
    have HB := Lib.hid (HB.out.old q)
    have K := Lib.hid (K.out.trans q)
    clear q
    go_wp2_with fail
    refine (put_bad A n' c (a1, a2) _ (show in64 (a2) from ⟨by omega, by omega⟩) (decide_eq_false (by show ¬ (0 ≤ a1 ∧ 1 ≤ (a2 : Int) ∧ _); omega))).mono ?_
    rintro e w6 ⟨rfl, q⟩
    have HR := Lib.hid (HR.out.old q)
    have HB := Lib.hid (HB.out.old q)
    have K := Lib.hid (K.out.trans q)
    clear q
    go_wp2_with fail
    refine (put_bad A n' c (a2, 1) _ (show in64 1 from ⟨by omega, by omega⟩) (decide_eq_false (by show ¬ (0 ≤ (a2 : Int) ∧ _); omega))).mono ?_
    rintro e w7 ⟨rfl, q⟩
    have HR := Lib.hid (HR.out.old q)
    have HB := Lib.hid (HB.out.old q)
    have K := Lib.hid (K.out.trans q)
    clear q
    go_wp2_with fail
    refine (same_yes A B n' c d l _ HR.out HB.out (by omega)).mono ?_
    rintro e w8 ⟨rfl, q⟩
    have K := Lib.hid (K.out.trans q)
    clear q
    go_wp2_with fail
    refine (awake_any _).mono ?_
    rintro e w9 ⟨rfl, q⟩
    go_wp2_with fail
    go_ret
    exact ⟨rfl, K.out.trans q⟩
  · go_wp2_with fail
    refine (take_bad A n' c (-1) _ (by omega)).mono ?_
    rintro e w5 ⟨rfl, q⟩
    have HR := Lib.hid (HR.out.old q)
    have HB := Lib.hid (HB.out.old q)
    have K := Lib.hid (K.out.trans q)
    clear q
    go_wp2_with fail
    refine (put_bad A n' c (a1, -1) _ (show in64 (-1) from ⟨by omega, by omega⟩) (decide_eq_false (by show ¬ (0 ≤ a1 ∧ 1 ≤ (-1 : Int) ∧ _); omega))).mono ?_
    rintro e w6 ⟨rfl, q⟩
    have HR := Lib.hid (HR.out.old q)
    have HB := Lib.hid (HB.out.old q)
    have K := Lib.hid (K.out.trans q)
    clear q
    go_wp2_with fail
    refine (put_bad A n' c (-1, 1) _ (show in64 1 from ⟨by omega, by omega⟩) (decide_eq_false (by show ¬ (0 ≤ (-1 : Int) ∧ _); omega))).mono ?_
    rintro e w7 ⟨rfl, q⟩
    have HR := Lib.hid (HR.out.old q)
    have HB := Lib.hid (HB.out.old q)
    have K := Lib.hid (K.out.trans q)
    clear q
    go_wp2_with fail
    refine (same_yes A B n' c d l _ HR.out HB.out (by omega)).mono ?_
    rintro e w8 ⟨rfl, q⟩
    have K := Lib.hid (K.out.trans q)
    clear q
    go_wp2_with fail
    refine (awake_any _).mono ?_
    rintro e w9 ⟨rfl, q⟩
    go_wp2_with fail
    go_ret
    exact ⟨rfl, K.out.trans q⟩
  · go_wp2_with fail
    refine (take_bad A n' c (0) _ (by omega)).mono ?_
    rintro e w5 ⟨rfl, q⟩
    have HR := Lib.hid (HR.out.old q)
    have HB := Lib.hid (HB.out.old q)
    have K := Lib.hid (K.out.trans q)
    clear q
    go_wp2_with fail
    refine (put_bad A n' c (a1, 0) _ (show in64 (0) from ⟨by omega, by omega⟩) (decide_eq_false (by show ¬ (0 ≤ a1 ∧ 1 ≤ (0 : Int) ∧ _); omega))).mono ?_
    rintro e w6 ⟨rfl, q⟩
    have HR := Lib.hid (HR.out.old q)
    have HB := Lib.hid (HB.out.old q)
    have K := Lib.hid (K.out.trans q)
    clear q
    go_wp2_with fail
    refine (put_bad A n' c (-1, 1) _ (show in64 1 from ⟨by omega, by omega⟩) (decide_eq_false (by show ¬ (0 ≤ (-1 : Int) ∧ _); omega))).mono ?_
    rintro e w7 ⟨rfl, q⟩
    have HR := Lib.hid (HR.out.old q)
    have HB := Lib.hid (HB.out.old q)
    have K := Lib.hid (K.out.trans q)
    clear q
    go_wp2_with fail
    refine (same_yes A B n' c d l _ HR.out HB.out (by omega)).mono ?_
    rintro e w8 ⟨rfl, q⟩
    have K := Lib.hid (K.out.trans q)
    clear q
    go_wp2_with fail
    refine (awake_any _).mono ?_
    rintro e w9 ⟨rfl, q⟩
    go_wp2_with fail
    go_ret
    exact ⟨rfl, K.out.trans q⟩
  · go_wp2_with fail
    refine (take_bad A n' c (0) _ (by omega)).mono ?_
    rintro e w5 ⟨rfl, q⟩
    have HR := Lib.hid (HR.out.old q)
    have HB := Lib.hid (HB.out.old q)
    have K := Lib.hid (K.out.trans q)
    clear q
    go_wp2_with fail
    refine (put_bad A n' c (a1, 0) _ (show in64 (0) from ⟨by omega, by omega⟩) (decide_eq_false (by show ¬ (0 ≤ a1 ∧ 1 ≤ (0 : Int) ∧ _); omega))).mono ?_
    rintro e w6 ⟨rfl, q⟩
    have HR := Lib.hid (HR.out.old q)
    have HB := Lib.hid (HB.out.old q)
    have K := Lib.hid (K.out.trans q)
    clear q
    go_wp2_with fail
    refine (put_bad A n' c (-1, 1) _ (show in64 1 from ⟨by omega, by omega⟩) (decide_eq_false (by show ¬ (0 ≤ (-1 : Int) ∧ _); omega))).mono ?_
    rintro e w7 ⟨rfl, q⟩
    have HR := Lib.hid (HR.out.old q)
    have HB := Lib.hid (HB.out.old q)
    have K := Lib.hid (K.out.trans q)
    clear q
    go_wp2_with fail
    refine (same_yes A B n' c d l _ HR.out HB.out (by omega)).mono ?_
    rintro e w8 ⟨rfl, q⟩
    have K := Lib.hid (K.out.trans q)
    clear q
    go_wp2_with fail
    refine (awake_any _).mono ?_
    rintro e w9 ⟨rfl, q⟩
    go_wp2_with fail
    go_ret
    exact ⟨rfl, K.out.trans q⟩

/-- The row's step. -/
theorem lifted (os : Os) (started : os.Started) (H : Type) (enc : TypeId × Value → H) :
    ReturnsInHanded {} Try.checked os 8 .any (Rows.runsOwnSpec.pre6 enc Try.prog Try.f8 Rows.runsOwnRow.domain false) (Rows.runsOwnSpec.post enc Try.prog Try.f8 false true false false) := by
  refine returnsInHanded_of_change (C := Try.checked) own started (by kernel_rfl) Try.func8
    (ChangeSpec.witness6 (enc := enc) (C := Try.checked) false ⟨#[], #[.slice none 0 0, .int .u8 0, .int .i64 0], []⟩ 8 (by kernel_rfl) (by kernel_rfl) (by kernel_rfl) (by kernel_rfl)) ?_
  intro W base args ds gs before hval0 hW hcnd _
  have hval : ∀ (j : Nat) t v, Try.f8.params[j]? = some t → args[j]? = some v → Value.okWide Try.prog W .any base t v := hval0
  have hW' := hW
  obtain ⟨p, q, hA0, hV, rfl, hfz, hnd⟩ := hW
  have hA : DataW.TrodAll enc Try.prog W 0 (fun _ => true) true Try.f8.params.toList args.toList ds p := hA0
  rw [Try.params8] at hA hval
  obtain ⟨v0, vs0, d0, ds0, p0, q0, hargs, rfl, rfl, h0, r0⟩ := trodAll_cons hA
  obtain ⟨v1, vs1, d1, ds1, p1, q1, rfl, rfl, rfl, h1, r1⟩ := trodAll_cons r0
  obtain ⟨v2, vs2, d2, ds2, p2, q2, rfl, rfl, rfl, h2, r2⟩ := trodAll_cons r1
  obtain ⟨rfl, rfl, rfl⟩ := trodAll_nil r2
  obtain rfl : args = #[v0, v1, v2] := by cases args; simp_all
  obtain ⟨rfl, rfl⟩ := trodVars_none hV
  have k0 := h0
  have lt0 : ∀ x ∈ p0, x.block < W.heap.size := by obtain ⟨m, hm⟩ := k0; exact DataW.trod_lt m _ _ _ hm
  obtain ⟨a0, len0, cap0, rfl⟩ := okWide_slice Try.underlying29 (hval 0 29 v0 rfl rfl)
  obtain ⟨z0, w0⟩ := ints_in Try.underlying29 Try.underlying5 (by kernel_rfl) h0
  obtain ⟨a1, rfl, rfl, rfl, w1⟩ := open_int Try.underlying5 (hval 1 5 v1 rfl rfl) h1
  obtain ⟨a2, rfl, rfl, rfl, w2⟩ := open_int Try.underlying3 (hval 2 3 v2 rfl rfl) h2
  clear hA0 hval0
  refine (walk a0 len0 cap0 z0 a1 a2 W w0 w1 w2).mono fun e W' ⟨he, kept⟩ => ?_
  subst he
  have bel : Below W.heap.size W W' := kept.toBelow (Nat.le_refl _) (fun _ x => x.elim)
  exact ⟨_, rfl, _, _, _, [], _, [], hW', trodAll_mk1 (shut_bool Try.underlying4 _), (trodAll_cons_mk (Below.trod laidOut (by kernel_rfl) (of_decide_eq_true (by kernel_rfl)) k0 bel lt0) (trodAll_cons_mk (shut_int Try.underlying5 w1) (trodAll_cons_mk (shut_int Try.underlying3 w2) trodAll_mk0))), rfl, bel.frame _, fun h => by cases h⟩

theorem over : Rows.RunsOwnSaid :=
  OpenClaim.holds_of_wide 8 Try.f8 rfl rfl rfl rfl rfl rfl rfl ⟨rfl, rfl, rfl, rfl, rfl⟩ rfl rfl rfl rfl rfl (by kernel_rfl) Try.func8 (by kernel_rfl)
    (of_decide_eq_true (by kernel_rfl)) (by unfold Func.isWrapper; first | (rw [if_pos (by decide +kernel)]; kernel_rfl) | (rw [if_neg (by decide +kernel)]; exact ⟨rfl, rfl⟩))
    (fun os started H enc _ => lifted os started H enc)

/-- The statement. -/
theorem proved : Rows.RunsOwnSaid := over
#print axioms proved
end Go.Proofs.Ytlicfegpdegamaa.runsOwn
