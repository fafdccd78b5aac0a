/-
  For every input the law ArenaRaw of rickyard/rickyardlaw3 returns true, and its arguments read afterwards as before. The law's own sentence: So of any numbers; of no other number of pages is there an arena. No further conditions.
-/
import Derived.Test.YtnokfomonclfhaaRows
import Derived.WalkKit
import Derived.ProofKit
import Derived.OpenShut
import Derived.ShutString
import Derived.ChangeOld
import Derived.Below
import Derived.Test.YtnokfomonclfhaaArenaDo
namespace Go.Proofs.Ytnokfomonclfhaa.arenaRaw
open Go.ChangeShapes Go.WideShapes Go.ChangeAt Go.RowKit
open Go.ChangeMaps (open_string shut_string)
set_option linter.unusedVariables false      -- a walk need not use every 'w<i>' (that an integer argument fits its kind)

theorem own : ownKnob Try.prog.godebug = none := by kernel_rfl

/-! ### STEP 1: THE WALK: the Go text returns true. 'Below w.heap.size w w'': the world has at most new blocks (Derived/RowKit3.lean). Part the cases AHEAD of 'go_enter' where a test parts the walk; take each callee by a contract of your own. -/
set_option maxRecDepth 100000 in
theorem walk (a0 : Int) (a1 : Int) (a2 : Int) (a3 : Int) (a4 : Int) (w0 : (Lit.int .i64 a0).wf = true) (w1 : (Lit.int .i64 a1).wf = true) (w2 : (Lit.int .i64 a2).wf = true) (w3 : (Lit.int .i64 a3).wf = true) (w4 : (Lit.int .u64 a4).wf = true) (w : World) :
    Calls Try.prog 4 #[.int .i64 a0, .int .i64 a1, .int .i64 a2, .int .i64 a3, .int .u64 a4] w fun e w' => e = .returned (.bool true) ∧ Below w.heap.size w w' := by
  have b0 := bounds_i64 w0
  have b1 := bounds_i64 w1
  have b2 := bounds_i64 w2
  have b3 := bounds_i64 w3
  have b4 := bounds_u64 w4
  by_cases c : a0 < 1 ∨ 256 < a0
  · have hn := Lib.hid (new_no a0 w c)
    rcases c with c | c
    · go_enter Try.func4, Try.ntmps4
      go_wp2_with fail
      refine hn.out.mono ?_
      rintro e w' ⟨rfl, rfl⟩
      go_wp2_with fail
      refine (awake_any _).mono ?_
      rintro e w' ⟨rfl, k⟩
      go_wp2_with fail
      go_ret
      exact ⟨rfl, old_below k⟩
    · have c' : ¬ a0 < 1 := by omega
      go_enter Try.func4, Try.ntmps4
      go_wp2_with fail
      refine hn.out.mono ?_
      rintro e w' ⟨rfl, rfl⟩
      go_wp2_with fail
      refine (awake_any _).mono ?_
      rintro e w' ⟨rfl, k⟩
      go_wp2_with fail
      go_ret
      exact ⟨rfl, old_below k⟩
  · obtain ⟨n, rfl⟩ : ∃ n : Nat, a0 = n := ⟨a0.toNat, by omega⟩
    have c1 : 1 ≤ n := by omega
    have c2 : n ≤ 256 := by omega
    have c3 : ¬ (n : Int) < 1 := by omega
    have c4 : ¬ (256 : Int) < (n : Int) := by omega
    have hn := Lib.hid (new_yes n w c1 c2)
    have hm := make_words (n * 64) (by omega)
    have e : ((n * 64 : Nat) : Int) = (n : Int) * 64 := by omega
    rw [e] at hm
    have E := Lib.hid e
    have E2 := Lib.hid (show n * 64 / 64 = n by omega)
    clear e c
    go_enter Try.func4, Try.ntmps4
    go_wp2_with fail
    refine hn.out.mono ?_
    rintro e w1 ⟨p, g, rfl, a1', k1, hp, hg⟩
    go_wp2_with fail
    refine (pages_any _ a1').mono ?_
    rintro e w' ⟨rfl, rfl⟩
    rw [List.length_replicate, E2.out]
    go_wp2_with fail
    refine (len_any _ a1').mono ?_
    rintro e w' ⟨rfl, rfl⟩
    rw [List.length_replicate, E.out]
    go_wp2_with fail
    have hbox := a1'.box.lt
    have hrow := a1'.row.lt
    have S : Pair (n * 64) p g w1.heap.size w (w1.alloc (.cells (madeCells #[.int .u64 0] (n * 64)) 29)) :=
      ⟨⟨_, a1'.alloc _, Row.zeros _ _, by simp⟩, k1.alloc _, hp, hg, k1.size, by omega, by omega⟩
    have S' := Lib.hid S
    generalize hh : w1.heap.size = h at S'
    have HH := Lib.hid hh
    clear S hh hbox hrow a1' k1 hm
    go_loopw [13] (fun i wr => ∃ q : Nat, 1 ≤ q ∧ q ≤ 5 ∧ i = .int .i64 (q : Int) ∧ Hid (Pair (n * 64) p g h w wr)) (fun i _ => 5 - (intOf i).toNat)
    case atStart => exact ⟨1, by omega, by omega, rfl, S'⟩
    case round =>
      obtain ⟨q, hq1, hq2, rfl, P⟩ := hrel
      rename World => W
      by_cases d : q ≤ 4
      · have d' : (q : Int) ≤ 4 := by omega
        go_wp2_with fail
        refine (P.out.do _ _ _ _ _ b1.1 b1.2 b3.1 b3.2 b4.1 b4.2).mono ?_
        rintro e W1 ⟨rfl, P1⟩
        have P1' := Lib.hid P1
        clear P1 P
        go_wp2_with fail
        refine (P1'.out.do _ _ _ _ _ b1.1 b1.2 b3.1 b3.2 b4.1 b4.2).mono ?_
        rintro e W2 ⟨rfl, P2⟩
        have P2' := Lib.hid P2
        clear P2 P1'
        go_wp2_with fail
        refine (P2'.out.do _ _ _ _ _ b3.1 b3.2 b3.1 b3.2 b4.1 b4.2).mono ?_
        rintro e W3 ⟨rfl, P3⟩
        have P3' := Lib.hid P3
        clear P3 P2'
        go_wp2_with fail
        refine ⟨⟨q + 1, by omega, by omega, by go_num, P3'⟩, ?_⟩
        simp [intOf]; omega
      · have d' : ¬ (q : Int) ≤ 4 := by omega
        go_wp2_with fail
        refine (P.out.words _).mono ?_
        rintro e W1 ⟨rfl, K1⟩
        go_wp2_with fail
        refine (awake_any _).mono ?_
        rintro e w' ⟨rfl, K2⟩
        go_wp2_with fail
        go_ret
        exact ⟨rfl, old_below (K1.trans K2)⟩

/-! ### THE ROW's STEP: WRITTEN OUT: LEAVE IT -/
set_option maxRecDepth 100000 in
theorem lifted (os : Os) (started : os.Started) (H : Type) (enc : TypeId × Value → H) :
    ReturnsInHanded {} Try.checked os 4 .any (Rows.arenaRawSpec.pre6 enc Try.prog Try.f4 Rows.arenaRawRow.domain false) (Rows.arenaRawSpec.post enc Try.prog Try.f4 false true false false) := by
  refine returnsInHanded_of_change (C := Try.checked) own started (by kernel_rfl) Try.func4
    (ChangeSpec.witness6 (enc := enc) (C := Try.checked) false ⟨#[], #[.int .i64 0, .int .i64 0, .int .i64 0, .int .i64 0, .int .u64 0], []⟩ 8 (by kernel_rfl) (by kernel_rfl) (by kernel_rfl) (by kernel_rfl)) ?_
  intro W base args ds gs before hval0 hW hcnd _
  have hval : ∀ (j : Nat) t v, Try.f4.params[j]? = some t → args[j]? = some v → Value.okWide Try.prog W .any base t v := hval0
  have hW' := hW
  obtain ⟨p, q, hA0, hV, rfl, hfz, hnd⟩ := hW
  have hA : DataW.TrodAll enc Try.prog W 0 (fun _ => true) true Try.f4.params.toList args.toList ds p := hA0
  rw [Try.params4] at hA hval
  obtain ⟨v0, vs0, d0, ds0, p0, q0, hargs, rfl, rfl, h0, r0⟩ := trodAll_cons hA
  obtain ⟨v1, vs1, d1, ds1, p1, q1, rfl, rfl, rfl, h1, r1⟩ := trodAll_cons r0
  obtain ⟨v2, vs2, d2, ds2, p2, q2, rfl, rfl, rfl, h2, r2⟩ := trodAll_cons r1
  obtain ⟨v3, vs3, d3, ds3, p3, q3, rfl, rfl, rfl, h3, r3⟩ := trodAll_cons r2
  obtain ⟨v4, vs4, d4, ds4, p4, q4, rfl, rfl, rfl, h4, r4⟩ := trodAll_cons r3
  obtain ⟨rfl, rfl, rfl⟩ := trodAll_nil r4
  obtain rfl : args = #[v0, v1, v2, v3, v4] := by cases args; simp_all
  obtain ⟨rfl, rfl⟩ := trodVars_none hV
  obtain ⟨a0, rfl, rfl, rfl, w0⟩ := open_int Try.underlying3 (hval 0 3 v0 rfl rfl) h0
  obtain ⟨a1, rfl, rfl, rfl, w1⟩ := open_int Try.underlying3 (hval 1 3 v1 rfl rfl) h1
  obtain ⟨a2, rfl, rfl, rfl, w2⟩ := open_int Try.underlying3 (hval 2 3 v2 rfl rfl) h2
  obtain ⟨a3, rfl, rfl, rfl, w3⟩ := open_int Try.underlying3 (hval 3 3 v3 rfl rfl) h3
  obtain ⟨a4, rfl, rfl, rfl, w4⟩ := open_int Try.underlying29 (hval 4 29 v4 rfl rfl) h4
  clear hA0 hval0
  refine (walk a0 a1 a2 a3 a4 w0 w1 w2 w3 w4 W).mono fun e W' ⟨he, bel⟩ => ?_
  subst he
  exact ⟨_, rfl, _, _, _, [], _, [], hW', trodAll_mk1 (shut_bool Try.underlying4 _), (trodAll_cons_mk (shut_int Try.underlying3 w0) (trodAll_cons_mk (shut_int Try.underlying3 w1) (trodAll_cons_mk (shut_int Try.underlying3 w2) (trodAll_cons_mk (shut_int Try.underlying3 w3) (trodAll_cons_mk (shut_int Try.underlying29 w4) trodAll_mk0))))), rfl, bel.frame _, fun h => by cases h⟩

theorem over : Rows.arenaRawRow.holds Try.pinned (OpenSpec.ofChange Rows.arenaRawSpec) :=
  OpenClaim.holds_of_wide 4 Try.f4 rfl rfl rfl rfl rfl rfl rfl ⟨rfl, rfl, rfl, rfl, rfl⟩ rfl rfl rfl rfl rfl (by kernel_rfl) Try.func4 (by kernel_rfl)
    (of_decide_eq_true (by kernel_rfl)) (by unfold Func.isWrapper; first | (rw [if_pos (by decide +kernel)]; kernel_rfl) | (rw [if_neg (by decide +kernel)]; exact ⟨rfl, rfl⟩))
    (fun os started H enc _ => lifted os started H enc)

/-- ████ THE STATEMENT ████ -/
theorem proved : Rows.ArenaRawSaid :=
  over
#print axioms proved
end Go.Proofs.Ytnokfomonclfhaa.arenaRaw
