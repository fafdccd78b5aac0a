/-
  For every input the law FltWhole of rickyard/rickyardlaw2 returns true, and its arguments read afterwards as before, where the listed tables of Go's library hold what the program's text lays in them (the card ties that). The law's own sentence: Whole numbers are added, taken away, multiplied, held against each other as they are; their texts are their digits; they are their own floors. No further conditions.
-/
import Derived.Test.YtbkemghabhpdhaaDoorFltFrame
import Derived.Test.YtbkemghabhpdhaaDoorCards
import Derived.Test.YtbkemghabhpdhaaDoorTie
import Derived.Test.YtbkemghabhpdhaaDoorFltInts
namespace Go.Proofs.YtbkemghabhpdhaaDoor.fltWhole
open Go.ChangeShapes Go.WideShapes Go.ChangeAt Go.RowKit
set_option linter.unusedVariables false
set_option maxRecDepth 100000

set_option maxHeartbeats 8000000 in
/-- The walk: the Go text returns true. -/
theorem walk (a0 : Int) (a1 : Int) (a2 : Int) (a3 : Int) (w0 : (Lit.int .i32 a0).wf = true) (w1 : (Lit.int .i32 a1).wf = true) (w2 : (Lit.int .i16 a2).wf = true) (w3 : (Lit.int .i16 a3).wf = true) (w : World) (hT : Tabs w) :
    Calls Tryd.prog 8 #[.int .i32 a0, .int .i32 a1, .int .i16 a2, .int .i16 a3] w fun e w' => e = .returned (.bool true) ∧ On w w' := by
  have b0 := bounds_i32 w0
  have b1 := bounds_i32 w1
  have b2 := bounds_i16 w2
  have b3 := bounds_i16 w3
  have g := On.refl w
  have E1 := Lib.hid (text_int a0 (by omega))
  have E2 := Lib.hid (int_add a0 a1 (by omega) (by omega))
  have E3 := Lib.hid (int_sub a0 a1 (by omega) (by omega))
  have E5 := Lib.hid (int_less a0 a1 (by omega) (by omega))
  have E6 := Lib.hid (int_equal a0 a1 (by omega) (by omega))
  have E7 := Lib.hid (int_true a0 (by omega))
  have E8 := Lib.hid (int_floor a0 (by omega))
  have l0 := (int_lt a0).2
  have l1 := (int_lt a1).2
  have rb : a0.natAbs < 2 ^ 53 := by omega
  have mb := mul_bound a2 a3 (by omega) (by omega)
  cases q : (((optW (floatBits .mul .f64 (intW a2) (intW a3)) : Nat) : Int) == ((intW (a2 * a3) : Nat) : Int))
  · by_cases z2 : a2 = 0
    · have zb : (a2 == 0) = true := by simpa using z2
      clear z2
      go_enter Tryd.func8, Tryd.ntmps8
      go_wp2_with fail
      refine (int_any _ _).mono ?_
      rintro e w' ⟨rfl, rfl⟩
      go_wp2_with fail
      refine (int_any _ _).mono ?_
      rintro e w' ⟨rfl, rfl⟩
      go_wp2_with fail
      refine (text_any _ _ l0 (hT.on g)).mono ?_
      rintro e v ⟨rfl, g'⟩
      have g := On.trans g g'
      clear g'
      rw [E1.out]
      go_wp2_with fail
      refine (read_any _ _ rb).mono ?_
      rintro e w' ⟨rfl, rfl⟩
      go_wp2_with fail
      refine (add_any _ _ _).mono ?_
      rintro e v ⟨rfl, g'⟩
      have g := On.trans g g'
      clear g'
      rw [E2.out]
      go_wp2_with fail
      refine (int_any _ _).mono ?_
      rintro e w' ⟨rfl, rfl⟩
      go_wp2_with fail
      refine (sub_any _ _ _).mono ?_
      rintro e v ⟨rfl, g'⟩
      have g := On.trans g g'
      clear g'
      rw [E3.out]
      go_wp2_with fail
      refine (int_any _ _).mono ?_
      rintro e w' ⟨rfl, rfl⟩
      go_wp2_with fail
      refine (int_any _ _).mono ?_
      rintro e w' ⟨rfl, rfl⟩
      go_wp2_with fail
      refine (int_any _ _).mono ?_
      rintro e w' ⟨rfl, rfl⟩
      go_wp2_with fail
      refine (mul_any _ _ _).mono ?_
      rintro e v ⟨rfl, g'⟩
      have g := On.trans g g'
      clear g'
      go_wp2_with fail
      refine (int_any _ _).mono ?_
      rintro e w' ⟨rfl, rfl⟩
      go_wp2_with fail
      refine (less_any _ _ _ l0 l1).mono ?_
      rintro e w' ⟨rfl, rfl⟩
      rw [E5.out]
      go_wp2_with fail
      refine (equal_any _ _ _ l0 l1).mono ?_
      rintro e w' ⟨rfl, rfl⟩
      rw [E6.out]
      go_wp2_with fail
      refine (true_any _ _ l0).mono ?_
      rintro e w' ⟨rfl, rfl⟩
      rw [E7.out]
      go_wp2_with fail
      refine (floor_any _ _ l0).mono ?_
      rintro e v ⟨rfl, g'⟩
      have g := On.trans g g'
      clear g'
      rw [E8.out]
      go_wp2_with fail
      refine (awake_any _ (hT.on g)).mono ?_
      rintro e v ⟨rfl, g'⟩
      have g := On.trans g g'
      clear g'
      go_wp2_with fail
      go_ret
      exact ⟨rfl, g⟩
    · have zb : (a2 == 0) = false := by simpa using z2
      have z3 : a3 = 0 := by
        by_cases z3 : a3 = 0
        · exact z3
        · rw [int_mul a2 a3 (by omega) (by omega) z2 z3] at q
          simp at q
      have zc : (a3 == 0) = true := by simpa using z3
      clear z2 z3
      go_enter Tryd.func8, Tryd.ntmps8
      go_wp2_with fail
      refine (int_any _ _).mono ?_
      rintro e w' ⟨rfl, rfl⟩
      go_wp2_with fail
      refine (int_any _ _).mono ?_
      rintro e w' ⟨rfl, rfl⟩
      go_wp2_with fail
      refine (text_any _ _ l0 (hT.on g)).mono ?_
      rintro e v ⟨rfl, g'⟩
      have g := On.trans g g'
      clear g'
      rw [E1.out]
      go_wp2_with fail
      refine (read_any _ _ rb).mono ?_
      rintro e w' ⟨rfl, rfl⟩
      go_wp2_with fail
      refine (add_any _ _ _).mono ?_
      rintro e v ⟨rfl, g'⟩
      have g := On.trans g g'
      clear g'
      rw [E2.out]
      go_wp2_with fail
      refine (int_any _ _).mono ?_
      rintro e w' ⟨rfl, rfl⟩
      go_wp2_with fail
      refine (sub_any _ _ _).mono ?_
      rintro e v ⟨rfl, g'⟩
      have g := On.trans g g'
      clear g'
      rw [E3.out]
      go_wp2_with fail
      refine (int_any _ _).mono ?_
      rintro e w' ⟨rfl, rfl⟩
      go_wp2_with fail
      refine (int_any _ _).mono ?_
      rintro e w' ⟨rfl, rfl⟩
      go_wp2_with fail
      refine (int_any _ _).mono ?_
      rintro e w' ⟨rfl, rfl⟩
      go_wp2_with fail
      refine (mul_any _ _ _).mono ?_
      rintro e v ⟨rfl, g'⟩
      have g := On.trans g g'
      clear g'
      go_wp2_with fail
      refine (int_any _ _).mono ?_
      rintro e w' ⟨rfl, rfl⟩
      go_wp2_with fail
      refine (less_any _ _ _ l0 l1).mono ?_
      rintro e w' ⟨rfl, rfl⟩
      rw [E5.out]
      go_wp2_with fail
      refine (equal_any _ _ _ l0 l1).mono ?_
      rintro e w' ⟨rfl, rfl⟩
      rw [E6.out]
      go_wp2_with fail
      refine (true_any _ _ l0).mono ?_
      rintro e w' ⟨rfl, rfl⟩
      rw [E7.out]
      go_wp2_with fail
      refine (floor_any _ _ l0).mono ?_
      rintro e v ⟨rfl, g'⟩
      have g := On.trans g g'
      clear g'
      rw [E8.out]
      go_wp2_with fail
      refine (awake_any _ (hT.on g)).mono ?_
      rintro e v ⟨rfl, g'⟩
      have g := On.trans g g'
      clear g'
      go_wp2_with fail
      go_ret
      exact ⟨rfl, g⟩
  · skip
    go_enter Tryd.func8, Tryd.ntmps8
    go_wp2_with fail
    refine (int_any _ _).mono ?_
    rintro e w' ⟨rfl, rfl⟩
    go_wp2_with fail
    refine (int_any _ _).mono ?_
    rintro e w' ⟨rfl, rfl⟩
    go_wp2_with fail
    refine (text_any _ _ l0 (hT.on g)).mono ?_
    rintro e v ⟨rfl, g'⟩
    have g := On.trans g g'
    clear g'
    rw [E1.out]
    go_wp2_with fail
    refine (read_any _ _ rb).mono ?_
    rintro e w' ⟨rfl, rfl⟩
    go_wp2_with fail
    refine (add_any _ _ _).mono ?_
    rintro e v ⟨rfl, g'⟩
    have g := On.trans g g'
    clear g'
    rw [E2.out]
    go_wp2_with fail
    refine (int_any _ _).mono ?_
    rintro e w' ⟨rfl, rfl⟩
    go_wp2_with fail
    refine (sub_any _ _ _).mono ?_
    rintro e v ⟨rfl, g'⟩
    have g := On.trans g g'
    clear g'
    rw [E3.out]
    go_wp2_with fail
    refine (int_any _ _).mono ?_
    rintro e w' ⟨rfl, rfl⟩
    go_wp2_with fail
    refine (int_any _ _).mono ?_
    rintro e w' ⟨rfl, rfl⟩
    go_wp2_with fail
    refine (int_any _ _).mono ?_
    rintro e w' ⟨rfl, rfl⟩
    go_wp2_with fail
    refine (mul_any _ _ _).mono ?_
    rintro e v ⟨rfl, g'⟩
    have g := On.trans g g'
    clear g'
    go_wp2_with fail
    refine (int_any _ _).mono ?_
    rintro e w' ⟨rfl, rfl⟩
    go_wp2_with fail
    refine (less_any _ _ _ l0 l1).mono ?_
    rintro e w' ⟨rfl, rfl⟩
    rw [E5.out]
    go_wp2_with fail
    refine (equal_any _ _ _ l0 l1).mono ?_
    rintro e w' ⟨rfl, rfl⟩
    rw [E6.out]
    go_wp2_with fail
    refine (true_any _ _ l0).mono ?_
    rintro e w' ⟨rfl, rfl⟩
    rw [E7.out]
    go_wp2_with fail
    refine (floor_any _ _ l0).mono ?_
    rintro e v ⟨rfl, g'⟩
    have g := On.trans g g'
    clear g'
    rw [E8.out]
    go_wp2_with fail
    refine (awake_any _ (hT.on g)).mono ?_
    rintro e v ⟨rfl, g'⟩
    have g := On.trans g g'
    clear g'
    go_wp2_with fail
    go_ret
    exact ⟨rfl, g⟩

/-- The row's step. -/
theorem lifted (os : Os) (started : os.Started) (H : Type) (enc : TypeId × Value → H) :
    ReturnsInHanded {} Tryd.checked os 8 .any (fun w args => (Rows.fltWholeSpec.pre enc Tryd.prog Tryd.f8 [] false w args ∧ laidMetH Tryd.prog laid3 w) ∧ sizedMet enc Tryd.prog Tryd.f8 (OpenSpec.ofChange Rows.fltWholeSpec) false w args)
      (Rows.fltWholeSpec.post enc Tryd.prog Tryd.f8 false true false false) := by
  refine returnsInHanded_of_change_and (C := Tryd.checked) (X := fun w _ => laidMetH Tryd.prog laid3 w) (fun _ _ _ hh h => h.of_heap hh) own started (by kernel_rfl) Tryd.func8
    (ChangeSpec.witness_shaped (enc := enc) (C := Tryd.checked) (os := os) (X := fun w _ => laidMetH Tryd.prog laid3 w) false (World.doorLaid Tryd.prog 400 os) #[.int .i32 0, .int .i32 0, .int .i16 0, .int .i16 0] 8 rfl (World.shaped_of_RefB (by kernel_rfl) (by kernel_rfl)) (by kernel_rfl) (by kernel_rfl) (by kernel_rfl) (door_met os _)) ?_
  intro W base args ds gs before hval0 hW _ _ hL _
  have hval : ∀ (j : Nat) t v, Tryd.f8.params[j]? = some t → args[j]? = some v → Value.okWide Tryd.prog W .any base t v := hval0
  have hW' := hW
  obtain ⟨p, q, hA0, hV, rfl, hfz, hnd⟩ := hW
  have hA : DataW.TrodAll enc Tryd.prog W 0 (fun _ => true) true Tryd.f8.params.toList args.toList ds p := hA0
  rw [Tryd.params8] at hA hval
  obtain ⟨v0, vs0, d0, ds0, p0, q0, hargs, rfl, rfl, h0, r0⟩ := trodAll_cons hA
  obtain ⟨v1, vs1, d1, ds1, p1, q1, rfl, rfl, rfl, h1, r1⟩ := trodAll_cons r0
  obtain ⟨v2, vs2, d2, ds2, p2, q2, rfl, rfl, rfl, h2, r2⟩ := trodAll_cons r1
  obtain ⟨v3, vs3, d3, ds3, p3, q3, rfl, rfl, rfl, h3, r3⟩ := trodAll_cons r2
  obtain ⟨rfl, rfl, rfl⟩ := trodAll_nil r3
  obtain rfl : args = #[v0, v1, v2, v3] := by cases args; simp_all
  obtain ⟨rfl, rfl⟩ := trodVars_none hV
  obtain ⟨a0, rfl, rfl, rfl, w0⟩ := open_int Tryd.underlying21 (hval 0 21 v0 rfl rfl) h0
  obtain ⟨a1, rfl, rfl, rfl, w1⟩ := open_int Tryd.underlying21 (hval 1 21 v1 rfl rfl) h1
  obtain ⟨a2, rfl, rfl, rfl, w2⟩ := open_int Tryd.underlying35 (hval 2 35 v2 rfl rfl) h2
  obtain ⟨a3, rfl, rfl, rfl, w3⟩ := open_int Tryd.underlying35 (hval 3 35 v3 rfl rfl) h3
  have hT := of_laid hL
  clear hA0 hval0
  simp only [List.append_nil] at hW'
  refine (walk a0 a1 a2 a3 w0 w1 w2 w3 W hT).mono fun e W' ⟨he, hg⟩ => ?_
  subst he
  refine ⟨_, rfl, _, _, _, [], [], [], hW', ?_, ?_, rfl, Below.frame hg _, fun h => by cases h⟩
  · exact trodAll_cons_mk (shut_bool Tryd.underlying4 _) trodAll_mk0
  · exact (trodAll_cons_mk (shut_int Tryd.underlying21 w0) (trodAll_cons_mk (shut_int Tryd.underlying21 w1) (trodAll_cons_mk (shut_int Tryd.underlying35 w2) (trodAll_cons_mk (shut_int Tryd.underlying35 w3) trodAll_mk0))))

theorem over : Rows.FltWholeSaid :=
  OpenClaim.holds_of_wide 8 Tryd.f8 rfl rfl rfl rfl rfl rfl rfl ⟨rfl, rfl, rfl, rfl, rfl⟩ rfl rfl rfl rfl rfl (by kernel_rfl) Tryd.func8 (by kernel_rfl)
    (of_decide_eq_true (by kernel_rfl)) (by unfold Func.isWrapper; first | (rw [if_pos (by decide +kernel)]; kernel_rfl) | (rw [if_neg (by decide +kernel)]; exact ⟨rfl, rfl⟩))
    (fun os started H enc _ => lifted os started H enc)

/-- The statement: the card. -/
theorem proved : Rows.FltWholeCardSaid :=
  Claim7.holds_tied_plain_at .later [] [.data, .data, .data] true (true, "8b3116b1b0295d110da8f839a6971b2127ffecfa5bcfe83fba259578590803dc") false
    over (fun _ h => by cases h) (by kernel_rfl) (fun _ h => by cases h) fltWhole_row_tie rfl ⟨rfl, rfl⟩ (by kernel_rfl) rfl
    (fun f fn hf hfn => by
      obtain rfl : f = 8 := Option.some.inj ((show Tryd.prog.funcNamed "rickyard/rickyardlaw2.FltWhole" = some 8 by kernel_rfl).symm.trans hf) |>.symm
      obtain rfl : fn = Tryd.f8 := (Option.some.inj (Tryd.func8.symm.trans hfn)).symm
      exact ⟨by kernel_rfl, fun j t ht => by
        rw [Tryd.params8] at ht
        have hm : t ∈ [21, 21, 35, 35] := by simpa using Array.mem_of_getElem? ht
        have hall : ([21, 21, 35, 35].all fun u => !Tryd.prog.wantsStandIn u) = true := by kernel_rfl
        exact (show Tryd.prog.wantsStandIn t = false by simpa using List.all_eq_true.1 hall t hm)⟩)
    (by kernel_rfl)
#print axioms proved
end Go.Proofs.YtbkemghabhpdhaaDoor.fltWhole
