/-
  For every input the law RunsBack of rickyard/rickyardlaw5 returns true, and its arguments read afterwards as before. The law's own sentence: What is taken, and put back, leaves the runs; what was not there is not put twice. No further conditions.
-/
import Derived.Test.YtlicfegpdegamaaRows
import Derived.Test.YtlicfegpdegamaaKept
import Derived.Test.YtlicfegpdegamaaShell
import Derived.Test.YtlicfegpdegamaaShellInts
import Derived.WalkKit
import Derived.ProofKit
import Derived.OpenShut
import Derived.ChangeOld
import Derived.Below
import Derived.Lib.SmallJoins
import Derived.Test.YtlicfegpdegamaaRunsMade
import Derived.Test.YtlicfegpdegamaaRunsAwake
import Derived.Test.YtlicfegpdegamaaRunsBoth
namespace Go.Proofs.Ytlicfegpdegamaa.runsBack
open Go.ChangeShapes Go.WideShapes Go.ChangeAt Go.RowKit
set_option linter.unusedVariables false
set_option maxRecDepth 100000

theorem own : ownKnob Try.prog.godebug = none := by kernel_rfl
theorem laidOut : laidOutB Try.prog = true := by kernel_rfl

set_option maxHeartbeats 8000000 in
/-- The walk: the Go text returns true, and nothing that was there has turned. -/
theorem walk (a0 : Option Addr) (len0 cap0 : Nat) (z0 : Nat → Int) (a1 : Int) (w : World) (w0 : len0 ≤ cap0 ∧ cap0 ≤ maxLen ∧ (∀ i, i < len0 → (Lit.int .u8 (z0 i)).wf = true) ∧ Sl w a0 1 len0 fun i _ => .int .u8 (z0 i)) (w1 : (Lit.int .u8 a1).wf = true) :
    Calls Try.prog 5 #[.slice a0 len0 cap0, .int .u8 a1] w fun e w' => e = .returned (.bool true) ∧ Kept Old w w' := by
  obtain ⟨v0, v1, v2, v3⟩ := w0
  have bn := bounds_u8 w1
  have hl : len0 ≤ 9223372036854775807 := by unfold maxLen at v1; omega
  have hz := Lib.hid (show ∀ i, i < len0 → 0 ≤ z0 i ∧ z0 i ≤ 255 from fun i hi => bounds_u8 (v2 i hi))
  have HS := Lib.hid v3
  clear v0 v1 v2 v3 w1
  go_enter Try.func5, Try.ntmps5
  go_wp2_with fail
  refine (made_any a0 len0 cap0 z0 w hl hz.out HS.out).mono ?_
  rintro e w1 ⟨v, rfl, ⟨A, n, c, rfl, R1, hc, hA, k1⟩, hr⟩
  generalize madeL z0 len0 = l at *
  have HR := Lib.hid R1
  have HT := Lib.hid hr
  have HA := Lib.hid hA
  have K := Lib.hid k1
  have hn := right_n R1 hr
  clear R1 hr hA k1
  have m1 : 1 ≤ 1 + a1 % 24 := by omega
  have m2 : 1 + a1 % 24 ≤ 24 := by omega
  cases hf : fitB l (1 + a1 % 24) with
  | false =>
    have hm := most_lt (fit_none hf) m1
    have hf := Lib.hid hf
    go_wp2_with fail
    refine (take_full A n c l (1 + a1 % 24) _ HR.out m1 hf.out (by omega)).mono ?_
    rintro e w2 ⟨rfl, q⟩
    have K := Lib.hid (K.out.trans q)
    have R2 := Lib.hid (HR.out.old q)
    clear q
    go_wp2_with fail
    refine (most_any A n c l _ R2.out HT.out).mono ?_
    rintro e w3 ⟨rfl, q⟩
    have K := Lib.hid (K.out.trans q)
    clear q
    go_wp2_with fail
    refine (awake_any _).mono ?_
    rintro e w4 ⟨rfl, q⟩
    go_wp2_with fail
    go_ret
    exact ⟨rfl, K.out.trans q⟩
  | true =>
    obtain ⟨i, x, f⟩ := fits_of hf
    have bx := HT.out.at f.at_
    have big := f.big
    have tt := total_take f
    have tb := total_le HT.out (by omega)
    have rt := Lib.hid (right_take HT.out f m1)
    have ft := Lib.hid (free_take HT.out f)
    have pt := Lib.hid (put_take HT.out f m1)
    have nf := Lib.hid (not_free (a := x.1 + (1 + a1 % 24) - 1) (n := 1) (List.mem_of_getElem? f.at_) (by omega) (by omega))
    have HF := Lib.hid f
    generalize hm : 1 + a1 % 24 = m at *
    clear hf f
    go_wp2_with fail
    refine (take_ok A n c l m i x _ HR.out HT.out hc m1 HF.out (by omega)).mono ?_
    rintro e w2 ⟨v2, rfl, A2, n2, c2, rfl, S2, hc2, hA2, q⟩
    have K := Lib.hid (K.out.trans q)
    have HR := Lib.hid (HR.out.old q)
    have n2b := right_n S2 rt.out
    have S2 := Lib.hid S2
    have hA2 := Lib.hid hA2
    clear q
    have P := put_ok A2 n2 c2 (takeL l m i x) (x.1, m) w2 S2.out rt.out hc2 hA2.out (by omega) (by show 0 ≤ x.1; omega) (by show 1 ≤ m; omega) (by show x.1 + m ≤ 256; omega) ft.out
    rw [pt.out] at P
    have P := Lib.hid P
    go_wp2_with fail
    refine P.out.mono ?_
    rintro e w3 ⟨v3, rfl, A3, n3, c3, rfl, S3, hc3, hA3, q⟩
    have K := Lib.hid (K.out.trans q)
    have HR := Lib.hid (HR.out.old q)
    have S2 := Lib.hid (S2.out.old q)
    have S3 := Lib.hid S3
    obtain rfl : n3 = n := by have := HR.out.len; have := S3.out.len; omega
    clear q P
    go_wp2_with fail
    refine (put_twice A3 n3 c3 l (x.1 + m - 1, 1) _ S3.out HT.out (by omega) (by show 0 ≤ x.1 + m - 1; omega) (by show (1 : Int) ≤ 1; omega) (by show x.1 + m - 1 + 1 ≤ 256; omega) nf.out).mono ?_
    rintro e w4 ⟨rfl, q⟩
    have K := Lib.hid (K.out.trans q)
    have HR := Lib.hid (HR.out.old q)
    have S2 := Lib.hid (S2.out.old q)
    have S3 := Lib.hid (S3.out.old q)
    clear q
    go_wp2_with fail
    refine (same_yes A3 A n3 c3 c l _ S3.out HR.out (by omega)).mono ?_
    rintro e w5 ⟨rfl, q⟩
    have K := Lib.hid (K.out.trans q)
    have HR := Lib.hid (HR.out.old q)
    have S2 := Lib.hid (S2.out.old q)
    clear q
    go_wp2_with fail
    refine (total_any A2 n2 c2 _ _ S2.out rt.out).mono ?_
    rintro e w6 ⟨rfl, q⟩
    have K := Lib.hid (K.out.trans q)
    have HR := Lib.hid (HR.out.old q)
    clear q
    go_wp2_with fail
    refine (total_any A n3 c l _ HR.out HT.out).mono ?_
    rintro e w7 ⟨rfl, q⟩
    have K := Lib.hid (K.out.trans q)
    clear q
    go_wp2_with fail
    refine (awake_any _).mono ?_
    rintro e w8 ⟨rfl, q⟩
    go_wp2_with fail
    go_ret
    exact ⟨rfl, K.out.trans q⟩

/-- The row's step. -/
theorem lifted (os : Os) (started : os.Started) (H : Type) (enc : TypeId × Value → H) :
    ReturnsInHanded {} Try.checked os 5 .any (Rows.runsBackSpec.pre6 enc Try.prog Try.f5 Rows.runsBackRow.domain false) (Rows.runsBackSpec.post enc Try.prog Try.f5 false true false false) := by
  refine returnsInHanded_of_change (C := Try.checked) own started (by kernel_rfl) Try.func5
    (ChangeSpec.witness6 (enc := enc) (C := Try.checked) false ⟨#[], #[.slice none 0 0, .int .u8 0], []⟩ 8 (by kernel_rfl) (by kernel_rfl) (by kernel_rfl) (by kernel_rfl)) ?_
  intro W base args ds gs before hval0 hW hcnd _
  have hval : ∀ (j : Nat) t v, Try.f5.params[j]? = some t → args[j]? = some v → Value.okWide Try.prog W .any base t v := hval0
  have hW' := hW
  obtain ⟨p, q, hA0, hV, rfl, hfz, hnd⟩ := hW
  have hA : DataW.TrodAll enc Try.prog W 0 (fun _ => true) true Try.f5.params.toList args.toList ds p := hA0
  rw [Try.params5] at hA hval
  obtain ⟨v0, vs0, d0, ds0, p0, q0, hargs, rfl, rfl, h0, r0⟩ := trodAll_cons hA
  obtain ⟨v1, vs1, d1, ds1, p1, q1, rfl, rfl, rfl, h1, r1⟩ := trodAll_cons r0
  obtain ⟨rfl, rfl, rfl⟩ := trodAll_nil r1
  obtain rfl : args = #[v0, v1] := by cases args; simp_all
  obtain ⟨rfl, rfl⟩ := trodVars_none hV
  have k0 := h0
  have lt0 : ∀ x ∈ p0, x.block < W.heap.size := by obtain ⟨m, hm⟩ := k0; exact DataW.trod_lt m _ _ _ hm
  obtain ⟨a0, len0, cap0, rfl⟩ := okWide_slice Try.underlying29 (hval 0 29 v0 rfl rfl)
  obtain ⟨z0, w0⟩ := ints_in Try.underlying29 Try.underlying5 (by kernel_rfl) h0
  obtain ⟨a1, rfl, rfl, rfl, w1⟩ := open_int Try.underlying5 (hval 1 5 v1 rfl rfl) h1
  clear hA0 hval0
  refine (walk a0 len0 cap0 z0 a1 W w0 w1).mono fun e W' ⟨he, kept⟩ => ?_
  subst he
  have bel : Below W.heap.size W W' := kept.toBelow (Nat.le_refl _) (fun _ x => x.elim)
  exact ⟨_, rfl, _, _, _, [], _, [], hW', trodAll_mk1 (shut_bool Try.underlying4 _), (trodAll_cons_mk (Below.trod laidOut (by kernel_rfl) (of_decide_eq_true (by kernel_rfl)) k0 bel lt0) (trodAll_cons_mk (shut_int Try.underlying5 w1) trodAll_mk0)), rfl, bel.frame _, fun h => by cases h⟩

theorem over : Rows.RunsBackSaid :=
  OpenClaim.holds_of_wide 5 Try.f5 rfl rfl rfl rfl rfl rfl rfl ⟨rfl, rfl, rfl, rfl, rfl⟩ rfl rfl rfl rfl rfl (by kernel_rfl) Try.func5 (by kernel_rfl)
    (of_decide_eq_true (by kernel_rfl)) (by unfold Func.isWrapper; first | (rw [if_pos (by decide +kernel)]; kernel_rfl) | (rw [if_neg (by decide +kernel)]; exact ⟨rfl, rfl⟩))
    (fun os started H enc _ => lifted os started H enc)

/-- The statement. -/
theorem proved : Rows.RunsBackSaid := over
#print axioms proved
end Go.Proofs.Ytlicfegpdegamaa.runsBack
