/-
  For every input the law FltOrder of rickyard/rickyardlaw2 returns true, and its arguments read afterwards as before, where the listed tables of Go's library hold what the program's text lays in them (the card ties that). The law's own sentence: Ranks rise with numbers, a nought below nought ahead of the other one; the lesser and the greater one are by ranks. No further conditions.
-/
import Derived.Test.YtbkemghabhpdhaaDoorFltFrame
import Derived.Test.YtbkemghabhpdhaaDoorCards
import Derived.Test.YtbkemghabhpdhaaDoorTie
import Derived.Test.YtbkemghabhpdhaaDoorFltRead
namespace Go.Proofs.YtbkemghabhpdhaaDoor.fltOrder
open Go.ChangeShapes Go.WideShapes Go.ChangeAt Go.RowKit
set_option linter.unusedVariables false
set_option maxRecDepth 100000

set_option maxHeartbeats 8000000 in
/-- The walk: the Go text returns true. -/
theorem walk (a0 : Int) (a1 : Int) (w0 : (Lit.int .u64 a0).wf = true) (w1 : (Lit.int .u64 a1).wf = true) (w : World) (hT : Tabs w) :
    Calls Tryd.prog 6 #[.int .u64 a0, .int .u64 a1] w fun e w' => e = .returned (.bool true) ∧ On w w' := by
  have b0 := bounds_u64 w0
  have b1 := bounds_u64 w1
  obtain ⟨a, rfl⟩ : ∃ a : Nat, a0 = a := ⟨a0.toNat, by omega⟩
  obtain ⟨b, rfl⟩ : ∃ b : Nat, a1 = b := ⟨a1.toNat, by omega⟩
  have ha : a < 2 ^ 64 := by omega
  have hb : b < 2 ^ 64 := by omega
  clear b0 b1 w0 w1
  have g := On.refl w
  cases na : nanW a
  rotate_left
  · go_enter Tryd.func6, Tryd.ntmps6
    go_wp2_with fail
    refine (nan_any _ _ ha).mono ?_
    rintro e w' ⟨rfl, rfl⟩
    go_wp2_with fail
    refine (awake_any _ (hT.on g)).mono ?_
    rintro e v ⟨rfl, g'⟩
    have g := On.trans g g'
    clear g'
    go_wp2_with fail
    go_ret
    exact ⟨rfl, g⟩
  cases nb : nanW b
  rotate_left
  · go_enter Tryd.func6, Tryd.ntmps6
    go_wp2_with fail
    refine (nan_any _ _ ha).mono ?_
    rintro e w' ⟨rfl, rfl⟩
    go_wp2_with fail
    refine (nan_any _ _ hb).mono ?_
    rintro e w' ⟨rfl, rfl⟩
    go_wp2_with fail
    refine (awake_any _ (hT.on g)).mono ?_
    rintro e v ⟨rfl, g'⟩
    have g := On.trans g g'
    clear g'
    go_wp2_with fail
    go_ret
    exact ⟨rfl, g⟩
  have he := Lib.hid (rank_same a b ha hb)
  have hm := min_by a b na nb
  have hM := max_by a b na nb
  have hl := less_rank a b ha hb na nb
  by_cases c : rankW a < rankW b
  · rw [if_pos c] at hm hM
    have HM := Lib.hid hm
    have HX := Lib.hid hM
    clear hm hM
    by_cases d : lessW a b = true
    · clear hl
      have he := he.out
      go_enter Tryd.func6, Tryd.ntmps6
      go_wp2_with fail
      refine (nan_any _ _ ha).mono ?_
      rintro e w' ⟨rfl, rfl⟩
      go_wp2_with fail
      refine (nan_any _ _ hb).mono ?_
      rintro e w' ⟨rfl, rfl⟩
      go_wp2_with fail
      refine (less_any _ _ _ ha hb).mono ?_
      rintro e w' ⟨rfl, rfl⟩
      go_wp2_with fail
      refine (rank_any _ _ ha).mono ?_
      rintro e w' ⟨rfl, rfl⟩
      go_wp2_with fail
      refine (rank_any _ _ hb).mono ?_
      rintro e w' ⟨rfl, rfl⟩
      go_wp2_with fail
      refine (rank_any _ _ ha).mono ?_
      rintro e w' ⟨rfl, rfl⟩
      go_wp2_with fail
      refine (rank_any _ _ hb).mono ?_
      rintro e w' ⟨rfl, rfl⟩
      go_wp2_with fail
      refine (rank_any _ _ ha).mono ?_
      rintro e w' ⟨rfl, rfl⟩
      go_wp2_with fail
      refine (rank_any _ _ hb).mono ?_
      rintro e w' ⟨rfl, rfl⟩
      go_wp2_with fail
      refine (min_any _ _ _ ha hb).mono ?_
      rintro e v ⟨rfl, g'⟩
      have g := On.trans g g'
      clear g'
      rw [HM.out]
      go_wp2_with fail
      refine (max_any _ _ _ ha hb).mono ?_
      rintro e v ⟨rfl, g'⟩
      have g := On.trans g g'
      clear g'
      rw [HX.out]
      go_wp2_with fail
      refine (awake_any _ (hT.on g)).mono ?_
      rintro e v ⟨rfl, g'⟩
      have g := On.trans g g'
      clear g'
      go_wp2_with fail
      go_ret
      exact ⟨rfl, g⟩
    · have d' : lessW a b = false := by simpa using d
      have e : a = 9223372036854775808 ∧ b = 0 := by rw [decide_eq_true c] at hl; rw [d'] at hl; simpa using hl
      clear d hl
      obtain ⟨rfl, rfl⟩ := e
      have he := he.out
      go_enter Tryd.func6, Tryd.ntmps6
      go_wp2_with fail
      refine (nan_any _ _ ha).mono ?_
      rintro e w' ⟨rfl, rfl⟩
      go_wp2_with fail
      refine (nan_any _ _ hb).mono ?_
      rintro e w' ⟨rfl, rfl⟩
      go_wp2_with fail
      refine (less_any _ _ _ ha hb).mono ?_
      rintro e w' ⟨rfl, rfl⟩
      go_wp2_with fail
      refine (rank_any _ _ ha).mono ?_
      rintro e w' ⟨rfl, rfl⟩
      go_wp2_with fail
      refine (rank_any _ _ hb).mono ?_
      rintro e w' ⟨rfl, rfl⟩
      go_wp2_with fail
      refine (rank_any _ _ ha).mono ?_
      rintro e w' ⟨rfl, rfl⟩
      go_wp2_with fail
      refine (rank_any _ _ hb).mono ?_
      rintro e w' ⟨rfl, rfl⟩
      go_wp2_with fail
      refine (rank_any _ _ ha).mono ?_
      rintro e w' ⟨rfl, rfl⟩
      go_wp2_with fail
      refine (rank_any _ _ hb).mono ?_
      rintro e w' ⟨rfl, rfl⟩
      go_wp2_with fail
      refine (min_any _ _ _ ha hb).mono ?_
      rintro e v ⟨rfl, g'⟩
      have g := On.trans g g'
      clear g'
      rw [HM.out]
      go_wp2_with fail
      refine (max_any _ _ _ ha hb).mono ?_
      rintro e v ⟨rfl, g'⟩
      have g := On.trans g g'
      clear g'
      rw [HX.out]
      go_wp2_with fail
      refine (awake_any _ (hT.on g)).mono ?_
      rintro e v ⟨rfl, g'⟩
      have g := On.trans g g'
      clear g'
      go_wp2_with fail
      go_ret
      exact ⟨rfl, g⟩
  · have hm := min_by' a b ha hb na nb c
    have hM := max_by' a b na nb c
    have HM := Lib.hid hm
    have HX := Lib.hid hM
    clear hm hM
    rw [decide_eq_false c] at hl
    have d' : lessW a b = false := by cases x : lessW a b; rfl; rw [x] at hl; simp at hl
    rw [d'] at hl
    by_cases z : a = 9223372036854775808
    · have y : b ≠ 0 := by intro y; rw [decide_eq_true z, decide_eq_true y] at hl; cases hl
      have yb : ((b : Int) == 0) = false := by simp; omega
      clear hl y
      subst z
      have he := he.out
      go_enter Tryd.func6, Tryd.ntmps6
      go_wp2_with fail
      refine (nan_any _ _ ha).mono ?_
      rintro e w' ⟨rfl, rfl⟩
      go_wp2_with fail
      refine (nan_any _ _ hb).mono ?_
      rintro e w' ⟨rfl, rfl⟩
      go_wp2_with fail
      refine (less_any _ _ _ ha hb).mono ?_
      rintro e w' ⟨rfl, rfl⟩
      go_wp2_with fail
      refine (rank_any _ _ ha).mono ?_
      rintro e w' ⟨rfl, rfl⟩
      go_wp2_with fail
      refine (rank_any _ _ hb).mono ?_
      rintro e w' ⟨rfl, rfl⟩
      go_wp2_with fail
      refine (rank_any _ _ ha).mono ?_
      rintro e w' ⟨rfl, rfl⟩
      go_wp2_with fail
      refine (rank_any _ _ hb).mono ?_
      rintro e w' ⟨rfl, rfl⟩
      go_wp2_with fail
      refine (rank_any _ _ ha).mono ?_
      rintro e w' ⟨rfl, rfl⟩
      go_wp2_with fail
      refine (rank_any _ _ hb).mono ?_
      rintro e w' ⟨rfl, rfl⟩
      go_wp2_with fail
      refine (min_any _ _ _ ha hb).mono ?_
      rintro e v ⟨rfl, g'⟩
      have g := On.trans g g'
      clear g'
      rw [HM.out]
      go_wp2_with fail
      refine (max_any _ _ _ ha hb).mono ?_
      rintro e v ⟨rfl, g'⟩
      have g := On.trans g g'
      clear g'
      rw [HX.out]
      go_wp2_with fail
      refine (awake_any _ (hT.on g)).mono ?_
      rintro e v ⟨rfl, g'⟩
      have g := On.trans g g'
      clear g'
      go_wp2_with fail
      go_ret
      exact ⟨rfl, g⟩
    · have zb : ((a : Int) == 9223372036854775808) = false := by simp; omega
      clear hl z
      have he := he.out
      go_enter Tryd.func6, Tryd.ntmps6
      go_wp2_with fail
      refine (nan_any _ _ ha).mono ?_
      rintro e w' ⟨rfl, rfl⟩
      go_wp2_with fail
      refine (nan_any _ _ hb).mono ?_
      rintro e w' ⟨rfl, rfl⟩
      go_wp2_with fail
      refine (less_any _ _ _ ha hb).mono ?_
      rintro e w' ⟨rfl, rfl⟩
      go_wp2_with fail
      refine (rank_any _ _ ha).mono ?_
      rintro e w' ⟨rfl, rfl⟩
      go_wp2_with fail
      refine (rank_any _ _ hb).mono ?_
      rintro e w' ⟨rfl, rfl⟩
      go_wp2_with fail
      refine (rank_any _ _ ha).mono ?_
      rintro e w' ⟨rfl, rfl⟩
      go_wp2_with fail
      refine (rank_any _ _ hb).mono ?_
      rintro e w' ⟨rfl, rfl⟩
      go_wp2_with fail
      refine (rank_any _ _ ha).mono ?_
      rintro e w' ⟨rfl, rfl⟩
      go_wp2_with fail
      refine (rank_any _ _ hb).mono ?_
      rintro e w' ⟨rfl, rfl⟩
      go_wp2_with fail
      refine (min_any _ _ _ ha hb).mono ?_
      rintro e v ⟨rfl, g'⟩
      have g := On.trans g g'
      clear g'
      rw [HM.out]
      go_wp2_with fail
      refine (max_any _ _ _ ha hb).mono ?_
      rintro e v ⟨rfl, g'⟩
      have g := On.trans g g'
      clear g'
      rw [HX.out]
      go_wp2_with fail
      refine (awake_any _ (hT.on g)).mono ?_
      rintro e v ⟨rfl, g'⟩
      have g := On.trans g g'
      clear g'
      go_wp2_with fail
      go_ret
      exact ⟨rfl, g⟩

/-- The row's step. -/
theorem lifted (os : Os) (started : os.Started) (H : Type) (enc : TypeId × Value → H) :
    ReturnsInHanded {} Tryd.checked os 6 .any (fun w args => (Rows.fltOrderSpec.pre enc Tryd.prog Tryd.f6 [] false w args ∧ laidMetH Tryd.prog laid3 w) ∧ sizedMet enc Tryd.prog Tryd.f6 (OpenSpec.ofChange Rows.fltOrderSpec) false w args)
      (Rows.fltOrderSpec.post enc Tryd.prog Tryd.f6 false true false false) := by
  refine returnsInHanded_of_change_and (C := Tryd.checked) (X := fun w _ => laidMetH Tryd.prog laid3 w) (fun _ _ _ hh h => h.of_heap hh) own started (by kernel_rfl) Tryd.func6
    (ChangeSpec.witness_shaped (enc := enc) (C := Tryd.checked) (os := os) (X := fun w _ => laidMetH Tryd.prog laid3 w) false (World.doorLaid Tryd.prog 400 os) #[.int .u64 0, .int .u64 0] 8 rfl (World.shaped_of_RefB (by kernel_rfl) (by kernel_rfl)) (by kernel_rfl) (by kernel_rfl) (by kernel_rfl) (door_met os _)) ?_
  intro W base args ds gs before hval0 hW _ _ hL _
  have hval : ∀ (j : Nat) t v, Tryd.f6.params[j]? = some t → args[j]? = some v → Value.okWide Tryd.prog W .any base t v := hval0
  have hW' := hW
  obtain ⟨p, q, hA0, hV, rfl, hfz, hnd⟩ := hW
  have hA : DataW.TrodAll enc Tryd.prog W 0 (fun _ => true) true Tryd.f6.params.toList args.toList ds p := hA0
  rw [Tryd.params6] at hA hval
  obtain ⟨v0, vs0, d0, ds0, p0, q0, hargs, rfl, rfl, h0, r0⟩ := trodAll_cons hA
  obtain ⟨v1, vs1, d1, ds1, p1, q1, rfl, rfl, rfl, h1, r1⟩ := trodAll_cons r0
  obtain ⟨rfl, rfl, rfl⟩ := trodAll_nil r1
  obtain rfl : args = #[v0, v1] := by cases args; simp_all
  obtain ⟨rfl, rfl⟩ := trodVars_none hV
  obtain ⟨a0, rfl, rfl, rfl, w0⟩ := open_int Tryd.underlying22 (hval 0 22 v0 rfl rfl) h0
  obtain ⟨a1, rfl, rfl, rfl, w1⟩ := open_int Tryd.underlying22 (hval 1 22 v1 rfl rfl) h1
  have hT := of_laid hL
  clear hA0 hval0
  simp only [List.append_nil] at hW'
  refine (walk a0 a1 w0 w1 W hT).mono fun e W' ⟨he, hg⟩ => ?_
  subst he
  refine ⟨_, rfl, _, _, _, [], [], [], hW', ?_, ?_, rfl, Below.frame hg _, fun h => by cases h⟩
  · exact trodAll_cons_mk (shut_bool Tryd.underlying4 _) trodAll_mk0
  · exact (trodAll_cons_mk (shut_int Tryd.underlying22 w0) (trodAll_cons_mk (shut_int Tryd.underlying22 w1) trodAll_mk0))

theorem over : Rows.FltOrderSaid :=
  OpenClaim.holds_of_wide 6 Tryd.f6 rfl rfl rfl rfl rfl rfl rfl ⟨rfl, rfl, rfl, rfl, rfl⟩ rfl rfl rfl rfl rfl (by kernel_rfl) Tryd.func6 (by kernel_rfl)
    (of_decide_eq_true (by kernel_rfl)) (by unfold Func.isWrapper; first | (rw [if_pos (by decide +kernel)]; kernel_rfl) | (rw [if_neg (by decide +kernel)]; exact ⟨rfl, rfl⟩))
    (fun os started H enc _ => lifted os started H enc)

/-- The statement: the card. -/
theorem proved : Rows.FltOrderCardSaid :=
  Claim7.holds_tied_plain_at .later [] [.data, .data, .data] true (true, "8b3116b1b0295d110da8f839a6971b2127ffecfa5bcfe83fba259578590803dc") false
    over (fun _ h => by cases h) (by kernel_rfl) (fun _ h => by cases h) fltOrder_row_tie rfl ⟨rfl, rfl⟩ (by kernel_rfl) rfl
    (fun f fn hf hfn => by
      obtain rfl : f = 6 := Option.some.inj ((show Tryd.prog.funcNamed "rickyard/rickyardlaw2.FltOrder" = some 6 by kernel_rfl).symm.trans hf) |>.symm
      obtain rfl : fn = Tryd.f6 := (Option.some.inj (Tryd.func6.symm.trans hfn)).symm
      exact ⟨by kernel_rfl, fun j t ht => by
        rw [Tryd.params6] at ht
        have hm : t ∈ [22, 22] := by simpa using Array.mem_of_getElem? ht
        have hall : ([22, 22].all fun u => !Tryd.prog.wantsStandIn u) = true := by kernel_rfl
        exact (show Tryd.prog.wantsStandIn t = false by simpa using List.all_eq_true.1 hall t hm)⟩)
    (by kernel_rfl)
#print axioms proved
end Go.Proofs.YtbkemghabhpdhaaDoor.fltOrder
