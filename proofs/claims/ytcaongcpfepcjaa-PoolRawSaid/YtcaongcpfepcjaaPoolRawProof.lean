/-
  For every input the law PoolRaw of rickyard/rickyardlaw10 returns true, and its arguments read afterwards as before. The law's own sentence: So of any class, page, address. No further conditions.
-/
import Derived.Test.YtcaongcpfepcjaaRows
import Derived.Test.YtcaongcpfepcjaaKept
import Derived.Test.YtcaongcpfepcjaaShell
import Derived.WalkKit
import Derived.ProofKit
import Derived.OpenShut
import Derived.ChangeOld
import Derived.Below
import Derived.Lib.SmallJoins
import Derived.Test.YtcaongcpfepcjaaRefBo
namespace Go.Proofs.Ytcaongcpfepcjaa.poolRaw
open Go.ChangeShapes Go.WideShapes Go.ChangeAt Go.RowKit
set_option linter.unusedVariables false
set_option maxRecDepth 100000

theorem own : ownKnob Try.prog.godebug = none := by kernel_rfl
theorem laidOut : laidOutB Try.prog = true := by kernel_rfl
open Prt

set_option maxHeartbeats 1500000 in
/-- The walk: the Go text returns true, and nothing that was there has turned. -/
theorem walk (a0 : Int) (a1 : Int) (a2 : Int) (a3 : Int) (w : World) (w0 : (Lit.int .i64 a0).wf = true) (w1 : (Lit.int .i64 a1).wf = true) (w2 : (Lit.int .i64 a2).wf = true) (w3 : (Lit.int .u8 a3).wf = true) :
    Calls Try.prog 4 #[.int .i64 a0, .int .i64 a1, .int .i64 a2, .int .u8 a3] w fun e w' => e = .returned (.bool true) ∧ Kept Old w w' := by
  have b3 := bounds_u8 w3
  obtain ⟨u, rfl⟩ : ∃ u : Nat, a3 = (u : Int) := ⟨a3.toNat, by omega⟩
  have wu : IntKind.i64.wrap (u : Int) = (u : Int) := IntWalk.i64_in _ (by omega)
  have wu1 : IntKind.i64.wrap (1 + (u : Int)) = ((1 + u : Nat) : Int) := by rw [IntWalk.i64_in _ (by omega)]; omega
  have hN := Lib.hid (new_yes (1 + u) w (by omega) (by omega))
  clear w0 w1 w2 w3
  by_cases hc : a0 < 0 ∨ 3 < a0
  · have PN := Lib.hid (fun W => pnew_no a0 W hc)
    rcases (show a0 < 0 ∨ (0 ≤ a0 ∧ 3 < a0) by omega) with c0 | ⟨c0, c1⟩
    · have c0' : ¬ 0 ≤ a0 := by omega
      clear hc
      go_enter Try.func4, Try.ntmps4
      go_wp2_with fail
      refine hN.out.mono ?_
      rintro e w1 ⟨a, g, rfl, a1', k1, ha, hg⟩
      have K1 := Lib.hid k1
      clear a1' k1 hN
      go_wp2_with fail
      refine (PN.out _).mono ?_
      rintro e w2 ⟨rfl, rfl⟩
      go_wp2_with fail
      refine (awake_any _).mono ?_
      rintro e w9 ⟨rfl, k9⟩
      go_wp2_with fail
      go_ret
      exact ⟨rfl, K1.out.trans k9⟩
    · have c1' : ¬ a0 ≤ 3 := by omega
      clear hc
      go_enter Try.func4, Try.ntmps4
      go_wp2_with fail
      refine hN.out.mono ?_
      rintro e w1 ⟨a, g, rfl, a1', k1, ha, hg⟩
      have K1 := Lib.hid k1
      clear a1' k1 hN
      go_wp2_with fail
      refine (PN.out _).mono ?_
      rintro e w2 ⟨rfl, rfl⟩
      go_wp2_with fail
      refine (awake_any _).mono ?_
      rintro e w9 ⟨rfl, k9⟩
      go_wp2_with fail
      go_ret
      exact ⟨rfl, K1.out.trans k9⟩
  · obtain ⟨c, rfl⟩ : ∃ c : Nat, a0 = (c : Int) := ⟨a0.toNat, by omega⟩
    have hc4 : c < 4 := by omega
    have c0 : (0 : Int) ≤ (c : Int) := by omega
    have c1 : (c : Int) ≤ 3 := by omega
    clear hc
    go_enter Try.func4, Try.ntmps4
    go_wp2_with fail
    refine hN.out.mono ?_
    rintro e w1 ⟨a, g, rfl, a1', k1, ha, hg⟩
    have A1 := Lib.hid a1'
    have K1 := Lib.hid k1
    clear a1' k1 hN
    go_wp2_with fail
    refine (pnew_yes w.heap.size c w1 hc4 K1.out.size).mono ?_
    rintro e w2 ⟨p, rfl, T2, k2, hp⟩
    have S := Lib.hid (Bo.start (StP.new (F := fun _ => False) A1.out K1.out ha hg T2 k2 hc4 (by omega) (fun b h => h.elim)))
    clear A1 K1 T2 k2
    go_wp2_with fail
    refine (bo_padd a1 S.out).mono ?_
    rintro e w3 ⟨rfl, s3⟩
    have S := Lib.hid s3
    clear s3
    go_wp2_with fail
    refine (bo_radd a1 S.out).mono ?_
    rintro e w4 ⟨rfl, s4⟩
    have S := Lib.hid s4
    clear s4
    generalize addC (1 + u) [] a1 = x1 at *
    generalize addL (1 + u) c [] a1 = L1 at *
    go_wp2_with fail
    refine (bo_padd 0 S.out).mono ?_
    rintro e w5 ⟨rfl, s5⟩
    have S := Lib.hid s5
    clear s5
    go_wp2_with fail
    refine (bo_radd 0 S.out).mono ?_
    rintro e w6 ⟨rfl, s6⟩
    have S := Lib.hid s6
    clear s6
    generalize addC (1 + u) L1 0 = x2 at *
    generalize addL (1 + u) c L1 0 = L2 at *
    go_wp2_with fail
    refine (bo_ptake S.out).mono ?_
    rintro e w7 ⟨rfl, s7⟩
    have S := Lib.hid s7
    clear s7
    go_wp2_with fail
    refine (bo_rtake S.out).mono ?_
    rintro e w8 ⟨rfl, s8⟩
    have S := Lib.hid s8
    clear s8
    generalize takeL L2 = L3 at *
    go_wp2_with fail
    refine (bo_pput a2 S.out).mono ?_
    rintro e w9 ⟨rfl, s9⟩
    have S := Lib.hid s9
    clear s9
    go_wp2_with fail
    refine (bo_rput a2 S.out).mono ?_
    rintro e w10 ⟨rfl, s10⟩
    have S := Lib.hid s10
    clear s10
    generalize putP c L3 a2 = x3 at *
    generalize putG c L3 a2 = x4 at *
    generalize putC c L3 a2 = x5 at *
    generalize putL c L3 a2 = L4 at *
    go_wp2_with fail
    refine (bo_same S.out).mono ?_
    rintro e w11 ⟨rfl, s11⟩
    have K := Lib.hid s11.kept
    clear s11 S
    go_wp2_with fail
    refine (awake_any _).mono ?_
    rintro e w12 ⟨rfl, k12⟩
    go_wp2_with fail
    go_ret
    exact ⟨rfl, K.out.trans k12⟩

/-- The row's step. -/
theorem lifted (os : Os) (started : os.Started) (H : Type) (enc : TypeId × Value → H) :
    ReturnsInHanded {} Try.checked os 4 .any (Rows.poolRawSpec.pre6 enc Try.prog Try.f4 Rows.poolRawRow.domain false) (Rows.poolRawSpec.post enc Try.prog Try.f4 false true false false) := by
  refine returnsInHanded_of_change (C := Try.checked) own started (by kernel_rfl) Try.func4
    (ChangeSpec.witness6 (enc := enc) (C := Try.checked) false ⟨#[], #[.int .i64 0, .int .i64 0, .int .i64 0, .int .u8 0], []⟩ 8 (by kernel_rfl) (by kernel_rfl) (by kernel_rfl) (by kernel_rfl)) ?_
  intro W base args ds gs before hval0 hW hcnd _
  have hval : ∀ (j : Nat) t v, Try.f4.params[j]? = some t → args[j]? = some v → Value.okWide Try.prog W .any base t v := hval0
  have hW' := hW
  obtain ⟨p, q, hA0, hV, rfl, hfz, hnd⟩ := hW
  have hA : DataW.TrodAll enc Try.prog W 0 (fun _ => true) true Try.f4.params.toList args.toList ds p := hA0
  rw [Try.params4] at hA hval
  obtain ⟨v0, vs0, d0, ds0, p0, q0, hargs, rfl, rfl, h0, r0⟩ := trodAll_cons hA
  obtain ⟨v1, vs1, d1, ds1, p1, q1, rfl, rfl, rfl, h1, r1⟩ := trodAll_cons r0
  obtain ⟨v2, vs2, d2, ds2, p2, q2, rfl, rfl, rfl, h2, r2⟩ := trodAll_cons r1
  obtain ⟨v3, vs3, d3, ds3, p3, q3, rfl, rfl, rfl, h3, r3⟩ := trodAll_cons r2
  obtain ⟨rfl, rfl, rfl⟩ := trodAll_nil r3
  obtain rfl : args = #[v0, v1, v2, v3] := by cases args; simp_all
  obtain ⟨rfl, rfl⟩ := trodVars_none hV
  obtain ⟨a0, rfl, rfl, rfl, w0⟩ := open_int Try.underlying3 (hval 0 3 v0 rfl rfl) h0
  obtain ⟨a1, rfl, rfl, rfl, w1⟩ := open_int Try.underlying3 (hval 1 3 v1 rfl rfl) h1
  obtain ⟨a2, rfl, rfl, rfl, w2⟩ := open_int Try.underlying3 (hval 2 3 v2 rfl rfl) h2
  obtain ⟨a3, rfl, rfl, rfl, w3⟩ := open_int Try.underlying5 (hval 3 5 v3 rfl rfl) h3
  clear hA0 hval0
  refine (walk a0 a1 a2 a3 W w0 w1 w2 w3).mono fun e W' ⟨he, kept⟩ => ?_
  subst he
  have bel : Below W.heap.size W W' := kept.toBelow (Nat.le_refl _) (fun _ x => x.elim)
  exact ⟨_, rfl, _, _, _, [], _, [], hW', trodAll_mk1 (shut_bool Try.underlying4 _), (trodAll_cons_mk (shut_int Try.underlying3 w0) (trodAll_cons_mk (shut_int Try.underlying3 w1) (trodAll_cons_mk (shut_int Try.underlying3 w2) (trodAll_cons_mk (shut_int Try.underlying5 w3) trodAll_mk0)))), rfl, bel.frame _, fun h => by cases h⟩

theorem over : Rows.PoolRawSaid :=
  OpenClaim.holds_of_wide 4 Try.f4 rfl rfl rfl rfl rfl rfl rfl ⟨rfl, rfl, rfl, rfl, rfl⟩ rfl rfl rfl rfl rfl (by kernel_rfl) Try.func4 (by kernel_rfl)
    (of_decide_eq_true (by kernel_rfl)) (by unfold Func.isWrapper; first | (rw [if_pos (by decide +kernel)]; kernel_rfl) | (rw [if_neg (by decide +kernel)]; exact ⟨rfl, rfl⟩))
    (fun os started H enc _ => lifted os started H enc)

/-- The statement. -/
theorem proved : Rows.PoolRawSaid := over
#print axioms proved
end Go.Proofs.Ytcaongcpfepcjaa.poolRaw
