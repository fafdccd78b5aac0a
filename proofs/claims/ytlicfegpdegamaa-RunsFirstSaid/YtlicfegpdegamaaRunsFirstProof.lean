/-
  For every input the law RunsFirst of rickyard/rickyardlaw5 returns true, and its arguments read afterwards as before. The law's own sentence: What is taken is the front of the first run that is long enough: no run below it is; the others stay as they are. No further conditions.
-/
import Derived.Test.YtlicfegpdegamaaRows
import Derived.Test.YtlicfegpdegamaaKept
import Derived.Test.YtlicfegpdegamaaShell
import Derived.Test.YtlicfegpdegamaaShellInts
import Derived.WalkKit
import Derived.ProofKit
import Derived.OpenShut
import Derived.ChangeOld
import Derived.Below
import Derived.Lib.SmallJoins
import Derived.Test.YtlicfegpdegamaaRunsMade
import Derived.Test.YtlicfegpdegamaaRunsAwake
import Derived.Test.YtlicfegpdegamaaRunsBoth
import Derived.Test.YtlicfegpdegamaaRunsFirstEq
import Derived.Test.YtlicfegpdegamaaRunsFirstNe
namespace Go.Proofs.Ytlicfegpdegamaa.runsFirst
open Go.ChangeShapes Go.WideShapes Go.ChangeAt Go.RowKit
set_option linter.unusedVariables false
set_option maxRecDepth 100000

theorem own : ownKnob Try.prog.godebug = none := by kernel_rfl
theorem laidOut : laidOutB Try.prog = true := by kernel_rfl

set_option maxHeartbeats 8000000 in
/-- The walk: the Go text returns true, and nothing that was there has turned. -/
theorem walk (a0 : Option Addr) (len0 cap0 : Nat) (z0 : Nat → Int) (a1 : Int) (w : World) (w0 : len0 ≤ cap0 ∧ cap0 ≤ maxLen ∧ (∀ i, i < len0 → (Lit.int .u8 (z0 i)).wf = true) ∧ Sl w a0 1 len0 fun i _ => .int .u8 (z0 i)) (w1 : (Lit.int .u8 a1).wf = true) :
    Calls Try.prog 7 #[.slice a0 len0 cap0, .int .u8 a1] w fun e w' => e = .returned (.bool true) ∧ Kept Old w w' := by
  cases hf : fitB (madeL z0 len0) (1 + a1 % 24) with
  | true =>
    obtain ⟨i, x, f⟩ := fits_of hf
    by_cases z : x.2 = 1 + a1 % 24
    · exact first_eq a0 len0 cap0 z0 a1 w w0 w1 i x f z
    · exact first_ne a0 len0 cap0 z0 a1 w w0 w1 i x f z
  | false =>
    obtain ⟨v0, v1, v2, v3⟩ := w0
    have bn := bounds_u8 w1
    have hl : len0 ≤ 9223372036854775807 := by unfold maxLen at v1; omega
    have hz := Lib.hid (show ∀ i, i < len0 → 0 ≤ z0 i ∧ z0 i ≤ 255 from fun i hi => bounds_u8 (v2 i hi))
    have HS := Lib.hid v3
    clear v0 v1 v2 v3 w1
    go_enter Try.func7, Try.ntmps7
    go_wp2_with fail
    refine (made_any a0 len0 cap0 z0 w hl hz.out HS.out).mono ?_
    rintro e w1 ⟨v, rfl, ⟨A, n, c, rfl, R1, hc, hA, k1⟩, hr⟩
    generalize madeL z0 len0 = l at *
    have HR := Lib.hid R1
    have HT := Lib.hid hr
    have K := Lib.hid k1
    have hn := right_n R1 hr
    clear R1 hr hA k1 hz HS
    have m1 : 1 ≤ 1 + a1 % 24 := by omega
    have m2 : 1 + a1 % 24 ≤ 24 := by omega
    have HF := Lib.hid hf
    clear hf
    go_wp2_with fail
    refine (fit_no A n c l (1 + a1 % 24) _ HR.out m1 HF.out (by omega)).mono ?_
    rintro e w2 ⟨rfl, q⟩
    have K := Lib.hid (K.out.trans q)
    have HR := Lib.hid (HR.out.old q)
    clear q
    go_wp2_with fail
    refine (take_full A n c l (1 + a1 % 24) _ HR.out m1 HF.out (by omega)).mono ?_
    rintro e w3 ⟨rfl, q⟩
    have K := Lib.hid (K.out.trans q)
    clear q
    go_wp2_with fail
    refine (awake_any _).mono ?_
    rintro e w4 ⟨rfl, q⟩
    go_wp2_with fail
    go_ret
    exact ⟨rfl, K.out.trans q⟩

/-- The row's step. -/
theorem lifted (os : Os) (started : os.Started) (H : Type) (enc : TypeId × Value → H) :
    ReturnsInHanded {} Try.checked os 7 .any (Rows.runsFirstSpec.pre6 enc Try.prog Try.f7 Rows.runsFirstRow.domain false) (Rows.runsFirstSpec.post enc Try.prog Try.f7 false true false false) := by
  refine returnsInHanded_of_change (C := Try.checked) own started (by kernel_rfl) Try.func7
    (ChangeSpec.witness6 (enc := enc) (C := Try.checked) false ⟨#[], #[.slice none 0 0, .int .u8 0], []⟩ 8 (by kernel_rfl) (by kernel_rfl) (by kernel_rfl) (by kernel_rfl)) ?_
  intro W base args ds gs before hval0 hW hcnd _
  have hval : ∀ (j : Nat) t v, Try.f7.params[j]? = some t → args[j]? = some v → Value.okWide Try.prog W .any base t v := hval0
  have hW' := hW
  obtain ⟨p, q, hA0, hV, rfl, hfz, hnd⟩ := hW
  have hA : DataW.TrodAll enc Try.prog W 0 (fun _ => true) true Try.f7.params.toList args.toList ds p := hA0
  rw [Try.params7] at hA hval
  obtain ⟨v0, vs0, d0, ds0, p0, q0, hargs, rfl, rfl, h0, r0⟩ := trodAll_cons hA
  obtain ⟨v1, vs1, d1, ds1, p1, q1, rfl, rfl, rfl, h1, r1⟩ := trodAll_cons r0
  obtain ⟨rfl, rfl, rfl⟩ := trodAll_nil r1
  obtain rfl : args = #[v0, v1] := by cases args; simp_all
  obtain ⟨rfl, rfl⟩ := trodVars_none hV
  have k0 := h0
  have lt0 : ∀ x ∈ p0, x.block < W.heap.size := by obtain ⟨m, hm⟩ := k0; exact DataW.trod_lt m _ _ _ hm
  obtain ⟨a0, len0, cap0, rfl⟩ := okWide_slice Try.underlying29 (hval 0 29 v0 rfl rfl)
  obtain ⟨z0, w0⟩ := ints_in Try.underlying29 Try.underlying5 (by kernel_rfl) h0
  obtain ⟨a1, rfl, rfl, rfl, w1⟩ := open_int Try.underlying5 (hval 1 5 v1 rfl rfl) h1
  clear hA0 hval0
  refine (walk a0 len0 cap0 z0 a1 W w0 w1).mono fun e W' ⟨he, kept⟩ => ?_
  subst he
  have bel : Below W.heap.size W W' := kept.toBelow (Nat.le_refl _) (fun _ x => x.elim)
  exact ⟨_, rfl, _, _, _, [], _, [], hW', trodAll_mk1 (shut_bool Try.underlying4 _), (trodAll_cons_mk (Below.trod laidOut (by kernel_rfl) (of_decide_eq_true (by kernel_rfl)) k0 bel lt0) (trodAll_cons_mk (shut_int Try.underlying5 w1) trodAll_mk0)), rfl, bel.frame _, fun h => by cases h⟩

theorem over : Rows.RunsFirstSaid :=
  OpenClaim.holds_of_wide 7 Try.f7 rfl rfl rfl rfl rfl rfl rfl ⟨rfl, rfl, rfl, rfl, rfl⟩ rfl rfl rfl rfl rfl (by kernel_rfl) Try.func7 (by kernel_rfl)
    (of_decide_eq_true (by kernel_rfl)) (by unfold Func.isWrapper; first | (rw [if_pos (by decide +kernel)]; kernel_rfl) | (rw [if_neg (by decide +kernel)]; exact ⟨rfl, rfl⟩))
    (fun os started H enc _ => lifted os started H enc)

/-- The statement. -/
theorem proved : Rows.RunsFirstSaid := over
#print axioms proved
end Go.Proofs.Ytlicfegpdegamaa.runsFirst
