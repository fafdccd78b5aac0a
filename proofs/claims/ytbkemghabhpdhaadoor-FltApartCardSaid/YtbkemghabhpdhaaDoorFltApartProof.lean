/-
  For every input the law FltApart of rickyard/rickyardlaw2 returns true, and its arguments read afterwards as before, where the listed tables of Go's library hold what the program's text lays in them (the card ties that). The law's own sentence: Texts are alike just of words that are one number, with one sign. No further conditions.
-/
import Derived.Test.YtbkemghabhpdhaaDoorFltFrame
import Derived.Test.YtbkemghabhpdhaaDoorCards
import Derived.Test.YtbkemghabhpdhaaDoorTie
import Derived.Test.YtbkemghabhpdhaaDoorFltInts
namespace Go.Proofs.YtbkemghabhpdhaaDoor.fltApart
open Go.ChangeShapes Go.WideShapes Go.ChangeAt Go.RowKit
set_option linter.unusedVariables false
set_option maxRecDepth 100000

set_option maxHeartbeats 8000000 in
/-- The walk: the Go text returns true. -/
theorem walk (a0 : Int) (a1 : Int) (w0 : (Lit.int .u64 a0).wf = true) (w1 : (Lit.int .u64 a1).wf = true) (w : World) (hT : Tabs w) :
    Calls Tryd.prog 7 #[.int .u64 a0, .int .u64 a1] w fun e w' => e = .returned (.bool true) ∧ On w w' := by
  have b0 := bounds_u64 w0
  have b1 := bounds_u64 w1
  obtain ⟨a, rfl⟩ : ∃ a : Nat, a0 = a := ⟨a0.toNat, by omega⟩
  obtain ⟨b, rfl⟩ : ∃ b : Nat, a1 = b := ⟨a1.toNat, by omega⟩
  have ha : a < 2 ^ 64 := by omega
  have hb : b < 2 ^ 64 := by omega
  clear b0 b1 w0 w1
  have g := On.refl w
  by_cases e : a = b
  · subst e
    go_enter Tryd.func7, Tryd.ntmps7
    go_wp2_with fail
    refine (text_any _ _ ha hT).mono ?_
    rintro e v ⟨rfl, g'⟩
    have g := On.trans g g'
    clear g'
    go_wp2_with fail
    refine (text_any _ _ ha (hT.on g)).mono ?_
    rintro e v ⟨rfl, g'⟩
    have g := On.trans g g'
    clear g'
    go_wp2_with fail
    refine (awake_any _ (hT.on g)).mono ?_
    rintro e v ⟨rfl, g'⟩
    have g := On.trans g g'
    clear g'
    go_wp2_with fail
    go_ret
    exact ⟨rfl, g⟩
  · have ne : ((a : Int) == (b : Int)) = false := by simp; omega
    cases na : nanW a
    · have hne : (textL a == textL b) = false := text_ne a b (fun h => by rcases text_inj a b ha hb h with x | x; exact e x; rw [na] at x; exact absurd x.1 Bool.false_ne_true)
      clear e
      go_enter Tryd.func7, Tryd.ntmps7
      go_wp2_with fail
      refine (text_any _ _ ha hT).mono ?_
      rintro e v ⟨rfl, g'⟩
      have g := On.trans g g'
      clear g'
      go_wp2_with fail
      refine (text_any _ _ hb (hT.on g)).mono ?_
      rintro e v ⟨rfl, g'⟩
      have g := On.trans g g'
      clear g'
      go_wp2_with fail
      refine (nan_any _ _ ha).mono ?_
      rintro e w' ⟨rfl, rfl⟩
      go_wp2_with fail
      refine (awake_any _ (hT.on g)).mono ?_
      rintro e v ⟨rfl, g'⟩
      have g := On.trans g g'
      clear g'
      go_wp2_with fail
      go_ret
      exact ⟨rfl, g⟩
    · cases nb : nanW b
      · have hne : (textL a == textL b) = false := text_ne a b (fun h => by rcases text_inj a b ha hb h with x | x; exact e x; rw [nb] at x; exact absurd x.2 Bool.false_ne_true)
        clear e
        go_enter Tryd.func7, Tryd.ntmps7
        go_wp2_with fail
        refine (text_any _ _ ha hT).mono ?_
        rintro e v ⟨rfl, g'⟩
        have g := On.trans g g'
        clear g'
        go_wp2_with fail
        refine (text_any _ _ hb (hT.on g)).mono ?_
        rintro e v ⟨rfl, g'⟩
        have g := On.trans g g'
        clear g'
        go_wp2_with fail
        refine (nan_any _ _ ha).mono ?_
        rintro e w' ⟨rfl, rfl⟩
        go_wp2_with fail
        refine (nan_any _ _ hb).mono ?_
        rintro e w' ⟨rfl, rfl⟩
        go_wp2_with fail
        refine (awake_any _ (hT.on g)).mono ?_
        rintro e v ⟨rfl, g'⟩
        have g := On.trans g g'
        clear g'
        go_wp2_with fail
        go_ret
        exact ⟨rfl, g⟩
      · have TA := Lib.hid (textL_nan na)
        have TB := Lib.hid (textL_nan nb)
        clear e
        go_enter Tryd.func7, Tryd.ntmps7
        go_wp2_with fail
        refine (text_any _ _ ha hT).mono ?_
        rintro e v ⟨rfl, g'⟩
        have g := On.trans g g'
        clear g'
        rw [TA.out]
        go_wp2_with fail
        refine (text_any _ _ hb (hT.on g)).mono ?_
        rintro e v ⟨rfl, g'⟩
        have g := On.trans g g'
        clear g'
        rw [TB.out]
        go_wp2_with fail
        refine (nan_any _ _ ha).mono ?_
        rintro e w' ⟨rfl, rfl⟩
        go_wp2_with fail
        refine (nan_any _ _ hb).mono ?_
        rintro e w' ⟨rfl, rfl⟩
        go_wp2_with fail
        refine (awake_any _ (hT.on g)).mono ?_
        rintro e v ⟨rfl, g'⟩
        have g := On.trans g g'
        clear g'
        go_wp2_with fail
        go_ret
        exact ⟨rfl, g⟩

/-- The row's step. -/
theorem lifted (os : Os) (started : os.Started) (H : Type) (enc : TypeId × Value → H) :
    ReturnsInHanded {} Tryd.checked os 7 .any (fun w args => (Rows.fltApartSpec.pre enc Tryd.prog Tryd.f7 [] false w args ∧ laidMetH Tryd.prog laid3 w) ∧ sizedMet enc Tryd.prog Tryd.f7 (OpenSpec.ofChange Rows.fltApartSpec) false w args)
      (Rows.fltApartSpec.post enc Tryd.prog Tryd.f7 false true false false) := by
  refine returnsInHanded_of_change_and (C := Tryd.checked) (X := fun w _ => laidMetH Tryd.prog laid3 w) (fun _ _ _ hh h => h.of_heap hh) own started (by kernel_rfl) Tryd.func7
    (ChangeSpec.witness_shaped (enc := enc) (C := Tryd.checked) (os := os) (X := fun w _ => laidMetH Tryd.prog laid3 w) false (World.doorLaid Tryd.prog 400 os) #[.int .u64 0, .int .u64 0] 8 rfl (World.shaped_of_RefB (by kernel_rfl) (by kernel_rfl)) (by kernel_rfl) (by kernel_rfl) (by kernel_rfl) (door_met os _)) ?_
  intro W base args ds gs before hval0 hW _ _ hL _
  have hval : ∀ (j : Nat) t v, Tryd.f7.params[j]? = some t → args[j]? = some v → Value.okWide Tryd.prog W .any base t v := hval0
  have hW' := hW
  obtain ⟨p, q, hA0, hV, rfl, hfz, hnd⟩ := hW
  have hA : DataW.TrodAll enc Tryd.prog W 0 (fun _ => true) true Tryd.f7.params.toList args.toList ds p := hA0
  rw [Tryd.params7] at hA hval
  obtain ⟨v0, vs0, d0, ds0, p0, q0, hargs, rfl, rfl, h0, r0⟩ := trodAll_cons hA
  obtain ⟨v1, vs1, d1, ds1, p1, q1, rfl, rfl, rfl, h1, r1⟩ := trodAll_cons r0
  obtain ⟨rfl, rfl, rfl⟩ := trodAll_nil r1
  obtain rfl : args = #[v0, v1] := by cases args; simp_all
  obtain ⟨rfl, rfl⟩ := trodVars_none hV
  obtain ⟨a0, rfl, rfl, rfl, w0⟩ := open_int Tryd.underlying22 (hval 0 22 v0 rfl rfl) h0
  obtain ⟨a1, rfl, rfl, rfl, w1⟩ := open_int Tryd.underlying22 (hval 1 22 v1 rfl rfl) h1
  have hT := of_laid hL
  clear hA0 hval0
  simp only [List.append_nil] at hW'
  refine (walk a0 a1 w0 w1 W hT).mono fun e W' ⟨he, hg⟩ => ?_
  subst he
  refine ⟨_, rfl, _, _, _, [], [], [], hW', ?_, ?_, rfl, Below.frame hg _, fun h => by cases h⟩
  · exact trodAll_cons_mk (shut_bool Tryd.underlying4 _) trodAll_mk0
  · exact (trodAll_cons_mk (shut_int Tryd.underlying22 w0) (trodAll_cons_mk (shut_int Tryd.underlying22 w1) trodAll_mk0))

theorem over : Rows.FltApartSaid :=
  OpenClaim.holds_of_wide 7 Tryd.f7 rfl rfl rfl rfl rfl rfl rfl ⟨rfl, rfl, rfl, rfl, rfl⟩ rfl rfl rfl rfl rfl (by kernel_rfl) Tryd.func7 (by kernel_rfl)
    (of_decide_eq_true (by kernel_rfl)) (by unfold Func.isWrapper; first | (rw [if_pos (by decide +kernel)]; kernel_rfl) | (rw [if_neg (by decide +kernel)]; exact ⟨rfl, rfl⟩))
    (fun os started H enc _ => lifted os started H enc)

/-- The statement: the card. -/
theorem proved : Rows.FltApartCardSaid :=
  Claim7.holds_tied_plain_at .later [] [.data, .data, .data] true (true, "8b3116b1b0295d110da8f839a6971b2127ffecfa5bcfe83fba259578590803dc") false
    over (fun _ h => by cases h) (by kernel_rfl) (fun _ h => by cases h) fltApart_row_tie rfl ⟨rfl, rfl⟩ (by kernel_rfl) rfl
    (fun f fn hf hfn => by
      obtain rfl : f = 7 := Option.some.inj ((show Tryd.prog.funcNamed "rickyard/rickyardlaw2.FltApart" = some 7 by kernel_rfl).symm.trans hf) |>.symm
      obtain rfl : fn = Tryd.f7 := (Option.some.inj (Tryd.func7.symm.trans hfn)).symm
      exact ⟨by kernel_rfl, fun j t ht => by
        rw [Tryd.params7] at ht
        have hm : t ∈ [22, 22] := by simpa using Array.mem_of_getElem? ht
        have hall : ([22, 22].all fun u => !Tryd.prog.wantsStandIn u) = true := by kernel_rfl
        exact (show Tryd.prog.wantsStandIn t = false by simpa using List.all_eq_true.1 hall t hm)⟩)
    (by kernel_rfl)
#print axioms proved
end Go.Proofs.YtbkemghabhpdhaaDoor.fltApart
