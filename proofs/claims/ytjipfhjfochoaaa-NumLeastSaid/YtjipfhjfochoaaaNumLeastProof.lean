/-
  For every input the law NumLeast of rickyard/rickyardlaw1 returns true, and its arguments read afterwards as before. The law's own sentence: Two to the logarithm is not below the number, two to one less is; a power is just what it meets. No further conditions.
-/
import Derived.Test.YtjipfhjfochoaaaRows
import Derived.WalkKit
import Derived.ProofKit
import Derived.OpenShut
import Derived.Test.YtjipfhjfochoaaaNumLoops
import Derived.Deep.QuietTactic
import Derived.BigQuiet
import Derived.IntWalk
namespace Go.Proofs.Ytjipfhjfochoaaa.numLeast
open Go.ChangeShapes Go.WideShapes Go.ChangeAt Go.RowKit
set_option linter.unusedVariables false      -- a walk need not use every 'w<i>' (that an integer argument fits its kind)

theorem own : ownKnob Try.prog.godebug = none := by kernel_rfl

theorem log_pow (n : Int) (k : Nat) (h : 1 ≤ n) (h1 : n ≤ 9223372036854775807) (hk : logN n = k) : n ≤ (2 : Int) ^ k ∧ (k ≠ 0 → (2 : Int) ^ (k - 1) < n) ∧ powB n = decide ((2 : Int) ^ k = n) := by
  obtain ⟨a, b⟩ := logN_up n h h1
  have p := powB_iff n h h1
  rw [hk] at a b p
  have e : ∀ j : Nat, ((2 ^ j : Nat) : Int) = (2 : Int) ^ j := fun j => by simp
  rw [e] at a b p
  exact ⟨a, b, p⟩
theorem grown_drewN (w : World) (n : Nat) : Grown w (w.drewN n) := by
  induction n with
  | zero => exact Grown.refl _
  | succ n ih => exact Grown.drew ih
theorem pow_swap (a b : Int) : decide (a = b) = (a == b) := by
  rw [Bool.eq_iff_iff]; simp
/-! ### STEP 1: THE WALK: the Go text returns true. 'Grown w w'': the world has at most new blocks (Derived/RowKit3.lean). Part the cases AHEAD of 'go_enter' where a test parts the walk; take each callee by a contract of your own. -/
theorem walk (a0 : Int) (w0 : (Lit.int .i64 a0).wf = true) (w : World) :
    Calls Try.prog 5 #[.int .i64 a0] w fun e w' => e = .returned (.bool true) ∧ Grown w w' := by
  have b0 := bounds_i64 w0
  by_cases h : a0 < 1
  · have L : logI a0 = 0 := by unfold logI; rw [logN_low a0 h]; rfl
    have P := powB_low a0 h
    go_enter Try.func5, Try.ntmps5
    go_wp2_with (first
      | (go_at_call 14; refine (log_any _ _ b0.1 b0.2).mono ?_; rintro e w' ⟨rfl, rfl⟩)
      | (go_at_call 12; refine (pow_any _ _ b0.1 b0.2).mono ?_; rintro e w' ⟨rfl, rfl⟩)
      | (go_at_call 20; refine (awake_any _).mono ?_; rintro e w' ⟨rfl, rfl⟩))
    all_goals (go_ret; exact ⟨rfl, Grown.refl _⟩)
  · by_cases k : 4611686018427387904 < a0
    · have L : logI a0 = 63 := by unfold logI; rw [logN_high a0 k b0.2]; rfl
      have P := powB_high a0 k b0.2
      go_enter Try.func5, Try.ntmps5
      go_wp2_with (first
        | (go_at_call 14; refine (log_any _ _ b0.1 b0.2).mono ?_; rintro e w' ⟨rfl, rfl⟩)
        | (go_at_call 12; refine (pow_any _ _ b0.1 b0.2).mono ?_; rintro e w' ⟨rfl, rfl⟩)
        | (go_at_call 20; refine (awake_any _).mono ?_; rintro e w' ⟨rfl, rfl⟩))
      all_goals (go_ret; exact ⟨rfl, Grown.refl _⟩)
    · obtain ⟨K, hK⟩ : ∃ K, logI a0 = K := ⟨_, rfl⟩
      have hj : logN a0 = K.toNat := by unfold logI at hK; omega
      have hK0 : 0 ≤ K := by unfold logI at hK; omega
      obtain ⟨p0, p1, p2⟩ := log_pow a0 K.toNat (by omega) b0.2 hj
      rw [pow_swap] at p2
      have hl := logN_le a0 (by omega)
      rw [hj] at hl
      have t := two_pow_le K.toNat hl
      have hK1 : K ≤ 62 := by omega
      clear hj hl
      have d0 : decide (0 ≤ K) = true := decide_eq_true hK0
      have d1 : decide (K ≤ 62) = true := decide_eq_true hK1
      have d2 : decide (a0 ≤ 2 ^ K.toNat) = true := decide_eq_true p0
      have u0 : IntKind.i64.wrap (2 ^ K.toNat) = 2 ^ K.toNat := IntWalk.i64_in _ (by omega)
      have PB : powB a0 = (2 ^ K.toNat == a0) := p2
      have hE : decide (2 ^ K.toNat = a0) = (2 ^ K.toNat == a0) := pow_swap _ _
      have e0 : ((2 ^ K.toNat == a0) == (2 ^ K.toNat == a0)) = true := by simp
      by_cases z : K = 0
      · have z' : (K == 0) = true := by simpa using z
        clear z p1 p2 hE
        go_enter Try.func5, Try.ntmps5
        go_wp2_with (go_at_call 14; refine (log_any _ _ b0.1 b0.2).mono ?_; rintro e w' ⟨rfl, rfl⟩)
        go_quiet ((first
          | (go_at_call 12; exact Calls.quiet_of_same ((pow_any _ _ b0.1 b0.2).mono fun e w' h => ⟨h.1, h.2.symm⟩))
          | (go_at_call 20; exact Calls.quiet_of_same ((awake_any _).mono fun e w' h => ⟨h.1, h.2.symm⟩))))
        go_wp2
        go_ret
        exact ⟨rfl, grown_drewN _ _⟩
      · have p1 := p1 (by omega)
        have z' : (K == 0) = false := by simpa using z
        have t1 := two_pow_le (K.toNat - 1) (by omega)
        have v0 : 1 ≤ K := by omega
        have v1 : 0 ≤ K - 1 := by omega
        have d3 : decide (2 ^ (K.toNat - 1) < a0) = true := decide_eq_true p1
        have u1 : IntKind.i64.wrap (K - 1) = K - 1 := IntWalk.i64_in _ (by omega)
        have u2 : IntKind.i64.wrap (2 ^ (K.toNat - 1)) = 2 ^ (K.toNat - 1) := IntWalk.i64_in _ (by omega)
        clear z p2 hE
        go_enter Try.func5, Try.ntmps5
        go_wp2_with (go_at_call 14; refine (log_any _ _ b0.1 b0.2).mono ?_; rintro e w' ⟨rfl, rfl⟩)
        go_quiet ((first
          | (go_at_call 12; exact Calls.quiet_of_same ((pow_any _ _ b0.1 b0.2).mono fun e w' h => ⟨h.1, h.2.symm⟩))
          | (go_at_call 20; exact Calls.quiet_of_same ((awake_any _).mono fun e w' h => ⟨h.1, h.2.symm⟩))))
        go_wp2
        go_ret
        exact ⟨rfl, grown_drewN _ _⟩

/-! ### THE ROW's STEP: WRITTEN OUT: LEAVE IT -/
set_option maxRecDepth 100000 in
theorem lifted (os : Os) (started : os.Started) (H : Type) (enc : TypeId × Value → H) :
    ReturnsInHanded {} Try.checked os 5 .any (Rows.numLeastSpec.pre6 enc Try.prog Try.f5 Rows.numLeastRow.domain false) (Rows.numLeastSpec.post enc Try.prog Try.f5 false true false false) := by
  refine returnsInHanded_of_change (C := Try.checked) own started (by kernel_rfl) Try.func5
    (ChangeSpec.witness6 (enc := enc) (C := Try.checked) false ⟨#[], #[.int .i64 0], []⟩ 8 (by kernel_rfl) (by kernel_rfl) (by kernel_rfl) (by kernel_rfl)) ?_
  intro W base args ds gs before hval0 hW hcnd _
  have hval : ∀ (j : Nat) t v, Try.f5.params[j]? = some t → args[j]? = some v → Value.okWide Try.prog W .any base t v := hval0
  have hW' := hW
  obtain ⟨p, q, hA0, hV, rfl, hfz, hnd⟩ := hW
  have hA : DataW.TrodAll enc Try.prog W 0 (fun _ => true) true Try.f5.params.toList args.toList ds p := hA0
  rw [Try.params5] at hA hval
  obtain ⟨v0, vs0, d0, ds0, p0, q0, hargs, rfl, rfl, h0, r0⟩ := trodAll_cons hA
  obtain ⟨rfl, rfl, rfl⟩ := trodAll_nil r0
  obtain rfl : args = #[v0] := by cases args; simp_all
  obtain ⟨rfl, rfl⟩ := trodVars_none hV
  obtain ⟨a0, rfl, rfl, rfl, w0⟩ := open_int Try.underlying3 (hval 0 3 v0 rfl rfl) h0
  clear hA0 hval0
  simp only [List.append_nil] at hW'
  refine (walk a0 w0 W).mono fun e W' ⟨he, hg⟩ => ?_
  subst he
  exact ⟨_, rfl, post_of_same (pa := []) (pv := []) hW' (fun _ _ _ => (trodAll_cons_mk (shut_bool Try.underlying4 _) trodAll_mk0)) (fun sp _ => (trodAll_cons_mk (shut_int Try.underlying3 w0) trodAll_mk0)) (fun _ _ => rfl) rfl
    (hg.frame _) hg.2.1 (ok_one (by kernel_rfl) rfl (okWide_bool_mk Try.underlying4 _))⟩

theorem over : Rows.numLeastRow.holds Try.pinned (OpenSpec.ofChange Rows.numLeastSpec) :=
  OpenClaim.holds_of_wide 5 Try.f5 rfl rfl rfl rfl rfl rfl rfl ⟨rfl, rfl, rfl, rfl, rfl⟩ rfl rfl rfl rfl rfl (by kernel_rfl) Try.func5 (by kernel_rfl)
    (of_decide_eq_true (by kernel_rfl)) (by unfold Func.isWrapper; first | (rw [if_pos (by decide +kernel)]; kernel_rfl) | (rw [if_neg (by decide +kernel)]; exact ⟨rfl, rfl⟩))
    (fun os started H enc _ => lifted os started H enc)

/-- ████ THE STATEMENT ████ -/
theorem proved : Rows.NumLeastSaid :=
  over
#print axioms proved
end Go.Proofs.Ytjipfhjfochoaaa.numLeast
