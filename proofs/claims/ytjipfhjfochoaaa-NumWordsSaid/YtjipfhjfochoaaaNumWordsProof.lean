/-
  For every input the law NumWords of rickyard/rickyardlaw1 returns true, and its arguments read afterwards as before. The law's own sentence: Runs of words have one in common just if a word is in both. No further conditions.
-/
import Derived.Test.YtjipfhjfochoaaaRows
import Derived.WalkKit
import Derived.ProofKit
import Derived.OpenShut
import Derived.Test.YtjipfhjfochoaaaNumRef
namespace Go.Proofs.Ytjipfhjfochoaaa.numWords
open Go.ChangeShapes Go.WideShapes Go.ChangeAt Go.RowKit
set_option linter.unusedVariables false      -- a walk need not use every 'w<i>' (that an integer argument fits its kind)

theorem own : ownKnob Try.prog.godebug = none := by kernel_rfl

/-- A word of the first k from a on is one of the m from b on. -/
def meetB (a b m k : Int) : Bool := decide (0 < k ∧ 0 < m ∧ a < b + m ∧ b < a + k)
theorem meet_zero (a b m : Int) : meetB a b m 0 = false := decide_eq_false (by omega)
theorem meet_old (a b m k : Int) (h : 0 ≤ k) (e : meetB a b m k = true) : meetB a b m (k + 1) = true := by
  have := of_decide_eq_true e
  exact decide_eq_true (by omega)
theorem meet_new (a b m k : Int) (h : 0 ≤ k) (h1 : b ≤ a + k) (h2 : a + k < b + m) : meetB a b m (k + 1) = true := decide_eq_true (by omega)
theorem meet_not (a b m k : Int) (h : 0 ≤ k) (e : meetB a b m k = false) (h1 : ¬ (b ≤ a + k ∧ a + k < b + m)) : meetB a b m (k + 1) = false := by
  have := of_decide_eq_false e
  exact decide_eq_false (by omega)
theorem meet_over (a n b m : Int) (h0 : 0 ≤ a ∧ a ≤ 255) (h1 : 0 ≤ n ∧ n ≤ 255) (h2 : 0 ≤ b ∧ b ≤ 255) (h3 : 0 ≤ m ∧ m ≤ 255) : overB a n b m = meetB a b m n := by
  rw [Bool.eq_iff_iff]
  unfold overB reachB meetB
  simp only [Bool.and_eq_true, decide_eq_true_eq]
  omega
theorem val_bool {a b : Bool} (h : a = b) : Value.bool a = .bool b := by rw [h]
/-! ### STEP 1: THE WALK: the Go text returns true. 'Grown w w'': the world has at most new blocks (Derived/RowKit3.lean). Part the cases AHEAD of 'go_enter' where a test parts the walk; take each callee by a contract of your own. -/
theorem walk (a0 : Int) (a1 : Int) (a2 : Int) (a3 : Int) (w0 : (Lit.int .u8 a0).wf = true) (w1 : (Lit.int .u8 a1).wf = true) (w2 : (Lit.int .u8 a2).wf = true) (w3 : (Lit.int .u8 a3).wf = true) (w : World) :
    Calls Try.prog 7 #[.int .u8 a0, .int .u8 a1, .int .u8 a2, .int .u8 a3] w fun e w' => e = .returned (.bool true) ∧ Grown w w' := by
  have b0 := bounds_u8 w0
  have b1 := bounds_u8 w1
  have b2 := bounds_u8 w2
  have b3 := bounds_u8 w3
  have M := Lib.hid (meet_over a0 a1 a2 a3 b0 b1 b2 b3)
  go_enter Try.func7, Try.ntmps7
  go_wp2
  go_loop [9, 10] (fun is i => ∃ k : Nat, (k : Int) ≤ a1 ∧ i = .int .i64 k ∧ is = .bool (meetB a0 a2 a3 k)) (fun _ i => (a1 - intOf i).toNat)
  case atStart => exact ⟨0, by omega, rfl, val_bool (meet_zero a0 a2 a3).symm⟩
  case round =>
    obtain ⟨k, hk, rfl, rfl⟩ := hrel
    by_cases c : (k : Int) = a1
    · have C := Lib.hid c
      have c' : ¬ (k : Int) < a1 := by omega
      clear c
      go_wp2_with fail
      refine (over_any _ _ _ _ _).mono ?_
      rintro e w' ⟨rfl, rfl⟩
      rw [M.out, C.out]
      clear M C
      go_wp2_with fail
      refine (awake_any _).mono ?_
      rintro e w' ⟨rfl, rfl⟩
      go_wp2_with fail
      go_ret
      exact ⟨rfl, Grown.refl _⟩
    · by_cases e : meetB a0 a2 a3 k = true
      · go_wp2
        go_round
        case rel => exact ⟨k + 1, by omega, by go_num, val_bool (meet_old a0 a2 a3 k (by omega) e).symm⟩
        case measure => simp [intOf]; omega
      · have e' : meetB a0 a2 a3 k = false := by simpa using e
        clear e
        by_cases d : a2 ≤ a0 + k
        · by_cases f : a0 + k < a2 + a3
          · go_wp2
            go_round
            case rel => exact ⟨k + 1, by omega, by go_num, val_bool (meet_new a0 a2 a3 k (by omega) d f).symm⟩
            case measure => simp [intOf]; omega
          · go_wp2
            go_round
            case rel => exact ⟨k + 1, by omega, by go_num, val_bool (meet_not a0 a2 a3 k (by omega) e' (by omega)).symm⟩
            case measure => simp [intOf]; omega
        · go_wp2
          go_round
          case rel => exact ⟨k + 1, by omega, by go_num, val_bool (meet_not a0 a2 a3 k (by omega) e' (by omega)).symm⟩
          case measure => simp [intOf]; omega

/-! ### THE ROW's STEP: WRITTEN OUT: LEAVE IT -/
set_option maxRecDepth 100000 in
theorem lifted (os : Os) (started : os.Started) (H : Type) (enc : TypeId × Value → H) :
    ReturnsInHanded {} Try.checked os 7 .any (Rows.numWordsSpec.pre6 enc Try.prog Try.f7 Rows.numWordsRow.domain false) (Rows.numWordsSpec.post enc Try.prog Try.f7 false true false false) := by
  refine returnsInHanded_of_change (C := Try.checked) own started (by kernel_rfl) Try.func7
    (ChangeSpec.witness6 (enc := enc) (C := Try.checked) false ⟨#[], #[.int .u8 0, .int .u8 0, .int .u8 0, .int .u8 0], []⟩ 8 (by kernel_rfl) (by kernel_rfl) (by kernel_rfl) (by kernel_rfl)) ?_
  intro W base args ds gs before hval0 hW hcnd _
  have hval : ∀ (j : Nat) t v, Try.f7.params[j]? = some t → args[j]? = some v → Value.okWide Try.prog W .any base t v := hval0
  have hW' := hW
  obtain ⟨p, q, hA0, hV, rfl, hfz, hnd⟩ := hW
  have hA : DataW.TrodAll enc Try.prog W 0 (fun _ => true) true Try.f7.params.toList args.toList ds p := hA0
  rw [Try.params7] at hA hval
  obtain ⟨v0, vs0, d0, ds0, p0, q0, hargs, rfl, rfl, h0, r0⟩ := trodAll_cons hA
  obtain ⟨v1, vs1, d1, ds1, p1, q1, rfl, rfl, rfl, h1, r1⟩ := trodAll_cons r0
  obtain ⟨v2, vs2, d2, ds2, p2, q2, rfl, rfl, rfl, h2, r2⟩ := trodAll_cons r1
  obtain ⟨v3, vs3, d3, ds3, p3, q3, rfl, rfl, rfl, h3, r3⟩ := trodAll_cons r2
  obtain ⟨rfl, rfl, rfl⟩ := trodAll_nil r3
  obtain rfl : args = #[v0, v1, v2, v3] := by cases args; simp_all
  obtain ⟨rfl, rfl⟩ := trodVars_none hV
  obtain ⟨a0, rfl, rfl, rfl, w0⟩ := open_int Try.underlying5 (hval 0 5 v0 rfl rfl) h0
  obtain ⟨a1, rfl, rfl, rfl, w1⟩ := open_int Try.underlying5 (hval 1 5 v1 rfl rfl) h1
  obtain ⟨a2, rfl, rfl, rfl, w2⟩ := open_int Try.underlying5 (hval 2 5 v2 rfl rfl) h2
  obtain ⟨a3, rfl, rfl, rfl, w3⟩ := open_int Try.underlying5 (hval 3 5 v3 rfl rfl) h3
  clear hA0 hval0
  simp only [List.append_nil] at hW'
  refine (walk a0 a1 a2 a3 w0 w1 w2 w3 W).mono fun e W' ⟨he, hg⟩ => ?_
  subst he
  exact ⟨_, rfl, post_of_same (pa := []) (pv := []) hW' (fun _ _ _ => (trodAll_cons_mk (shut_bool Try.underlying4 _) trodAll_mk0)) (fun sp _ => (trodAll_cons_mk (shut_int Try.underlying5 w0) (trodAll_cons_mk (shut_int Try.underlying5 w1) (trodAll_cons_mk (shut_int Try.underlying5 w2) (trodAll_cons_mk (shut_int Try.underlying5 w3) trodAll_mk0))))) (fun _ _ => rfl) rfl
    (hg.frame _) hg.2.1 (ok_one (by kernel_rfl) rfl (okWide_bool_mk Try.underlying4 _))⟩

theorem over : Rows.numWordsRow.holds Try.pinned (OpenSpec.ofChange Rows.numWordsSpec) :=
  OpenClaim.holds_of_wide 7 Try.f7 rfl rfl rfl rfl rfl rfl rfl ⟨rfl, rfl, rfl, rfl, rfl⟩ rfl rfl rfl rfl rfl (by kernel_rfl) Try.func7 (by kernel_rfl)
    (of_decide_eq_true (by kernel_rfl)) (by unfold Func.isWrapper; first | (rw [if_pos (by decide +kernel)]; kernel_rfl) | (rw [if_neg (by decide +kernel)]; exact ⟨rfl, rfl⟩))
    (fun os started H enc _ => lifted os started H enc)

/-- ████ THE STATEMENT ████ -/
theorem proved : Rows.NumWordsSaid :=
  over
#print axioms proved
end Go.Proofs.Ytjipfhjfochoaaa.numWords
