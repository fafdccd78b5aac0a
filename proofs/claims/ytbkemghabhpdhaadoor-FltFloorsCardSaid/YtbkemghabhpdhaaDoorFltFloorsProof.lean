/-
  For every input the law FltFloors of rickyard/rickyardlaw2 returns true, and its arguments read afterwards as before, where the listed tables of Go's library hold what the program's text lays in them (the card ties that). The law's own sentence: A floor is not above its number, and is it, or one more is above; it is its own floor. No further conditions.
-/
import Derived.Test.YtbkemghabhpdhaaDoorFltFrame
import Derived.Test.YtbkemghabhpdhaaDoorCards
import Derived.Test.YtbkemghabhpdhaaDoorTie
import Derived.Test.YtbkemghabhpdhaaDoorFltRead
namespace Go.Proofs.YtbkemghabhpdhaaDoor.fltFloors
open Go.ChangeShapes Go.WideShapes Go.ChangeAt Go.RowKit
set_option linter.unusedVariables false
set_option maxRecDepth 100000

set_option maxHeartbeats 8000000 in
/-- The walk: the Go text returns true. -/
theorem walk (a0 : Int) (w0 : (Lit.int .u64 a0).wf = true) (w : World) (hT : Tabs w) :
    Calls Tryd.prog 10 #[.int .u64 a0] w fun e w' => e = .returned (.bool true) ∧ On w w' := by
  have b0 := bounds_u64 w0
  obtain ⟨a, rfl⟩ : ∃ a : Nat, a0 = a := ⟨a0.toNat, by omega⟩
  have ha : a < 2 ^ 64 := by omega
  clear b0 w0
  have g := On.refl w
  cases c : nanW a
  · obtain ⟨F1, F2, F3⟩ := floor_facts a ha c
    have F := Lib.hid (floorW_num a c)
    have f := floorN_facts a ha c
    have F2' : Hid (floorW (floorN a) = floorN a) := Lib.hid ((floorW_num _ f.1).trans F2)
    have l1 := int_lt 1
    have lA := opt_lt64 .add (floorN a) (intW 1)
    by_cases e : floorN a = a
    · have E := Lib.hid e
      rw [e] at F1
      clear e F3 F2
      have F2'' : Hid (floorW a = a) := Lib.hid (F.out.trans E.out)
      go_enter Tryd.func10, Tryd.ntmps10
      go_wp2_with fail
      refine (floor_any _ _ ha).mono ?_
      rintro e v ⟨rfl, g'⟩
      have g := On.trans g g'
      clear g'
      rw [F2''.out]
      go_wp2_with fail
      refine (nan_any _ _ ha).mono ?_
      rintro e w' ⟨rfl, rfl⟩
      go_wp2_with fail
      refine (less_any _ _ _ ha ha).mono ?_
      rintro e w' ⟨rfl, rfl⟩
      go_wp2_with fail
      refine (floor_any _ _ ha).mono ?_
      rintro e v ⟨rfl, g'⟩
      have g := On.trans g g'
      clear g'
      rw [F2''.out]
      go_wp2_with fail
      refine (awake_any _ (hT.on g)).mono ?_
      rintro e v ⟨rfl, g'⟩
      have g := On.trans g g'
      clear g'
      go_wp2_with fail
      go_ret
      exact ⟨rfl, g⟩
    · have ne : ((floorN a : Int) == (a : Int)) = false := by simp; omega
      have F3' : lessW a (optW (floatBits .add .f64 (floorN a) (intW 1))) = true := by rcases F3 with x | x; exact absurd x e; exact x
      clear e F3 F2
      go_enter Tryd.func10, Tryd.ntmps10
      go_wp2_with fail
      refine (floor_any _ _ ha).mono ?_
      rintro e v ⟨rfl, g'⟩
      have g := On.trans g g'
      clear g'
      rw [F.out]
      go_wp2_with fail
      refine (nan_any _ _ ha).mono ?_
      rintro e w' ⟨rfl, rfl⟩
      go_wp2_with fail
      refine (less_any _ _ _ ha f.2).mono ?_
      rintro e w' ⟨rfl, rfl⟩
      go_wp2_with fail
      refine (int_any _ _).mono ?_
      rintro e w' ⟨rfl, rfl⟩
      go_wp2_with fail
      refine (add_any _ _ _).mono ?_
      rintro e v ⟨rfl, g'⟩
      have g := On.trans g g'
      clear g'
      go_wp2_with fail
      refine (less_any _ _ _ ha lA).mono ?_
      rintro e w' ⟨rfl, rfl⟩
      go_wp2_with fail
      refine (floor_any _ _ f.2).mono ?_
      rintro e v ⟨rfl, g'⟩
      have g := On.trans g g'
      clear g'
      rw [F2'.out]
      go_wp2_with fail
      refine (awake_any _ (hT.on g)).mono ?_
      rintro e v ⟨rfl, g'⟩
      have g := On.trans g g'
      clear g'
      go_wp2_with fail
      go_ret
      exact ⟨rfl, g⟩
  · have fw : Hid (floorW a = noneW) := Lib.hid (by unfold floorW; rw [c]; rfl)
    have nn := nan_noneW
    go_enter Tryd.func10, Tryd.ntmps10
    go_wp2_with fail
    refine (floor_any _ _ ha).mono ?_
    rintro e v ⟨rfl, g'⟩
    have g := On.trans g g'
    clear g'
    rw [fw.out]
    go_wp2_with fail
    refine (nan_any _ _ ha).mono ?_
    rintro e w' ⟨rfl, rfl⟩
    go_wp2_with fail
    refine (nan_any _ _ (by unfold noneW; omega)).mono ?_
    rintro e w' ⟨rfl, rfl⟩
    go_wp2_with fail
    refine (awake_any _ (hT.on g)).mono ?_
    rintro e v ⟨rfl, g'⟩
    have g := On.trans g g'
    clear g'
    go_wp2_with fail
    go_ret
    exact ⟨rfl, g⟩

/-- The row's step. -/
theorem lifted (os : Os) (started : os.Started) (H : Type) (enc : TypeId × Value → H) :
    ReturnsInHanded {} Tryd.checked os 10 .any (fun w args => (Rows.fltFloorsSpec.pre enc Tryd.prog Tryd.f10 [] false w args ∧ laidMetH Tryd.prog laid3 w) ∧ sizedMet enc Tryd.prog Tryd.f10 (OpenSpec.ofChange Rows.fltFloorsSpec) false w args)
      (Rows.fltFloorsSpec.post enc Tryd.prog Tryd.f10 false true false false) := by
  refine returnsInHanded_of_change_and (C := Tryd.checked) (X := fun w _ => laidMetH Tryd.prog laid3 w) (fun _ _ _ hh h => h.of_heap hh) own started (by kernel_rfl) Tryd.func10
    (ChangeSpec.witness_shaped (enc := enc) (C := Tryd.checked) (os := os) (X := fun w _ => laidMetH Tryd.prog laid3 w) false (World.doorLaid Tryd.prog 400 os) #[.int .u64 0] 8 rfl (World.shaped_of_RefB (by kernel_rfl) (by kernel_rfl)) (by kernel_rfl) (by kernel_rfl) (by kernel_rfl) (door_met os _)) ?_
  intro W base args ds gs before hval0 hW _ _ hL _
  have hval : ∀ (j : Nat) t v, Tryd.f10.params[j]? = some t → args[j]? = some v → Value.okWide Tryd.prog W .any base t v := hval0
  have hW' := hW
  obtain ⟨p, q, hA0, hV, rfl, hfz, hnd⟩ := hW
  have hA : DataW.TrodAll enc Tryd.prog W 0 (fun _ => true) true Tryd.f10.params.toList args.toList ds p := hA0
  rw [Tryd.params10] at hA hval
  obtain ⟨v0, vs0, d0, ds0, p0, q0, hargs, rfl, rfl, h0, r0⟩ := trodAll_cons hA
  obtain ⟨rfl, rfl, rfl⟩ := trodAll_nil r0
  obtain rfl : args = #[v0] := by cases args; simp_all
  obtain ⟨rfl, rfl⟩ := trodVars_none hV
  obtain ⟨a0, rfl, rfl, rfl, w0⟩ := open_int Tryd.underlying22 (hval 0 22 v0 rfl rfl) h0
  have hT := of_laid hL
  clear hA0 hval0
  simp only [List.append_nil] at hW'
  refine (walk a0 w0 W hT).mono fun e W' ⟨he, hg⟩ => ?_
  subst he
  refine ⟨_, rfl, _, _, _, [], [], [], hW', ?_, ?_, rfl, Below.frame hg _, fun h => by cases h⟩
  · exact trodAll_cons_mk (shut_bool Tryd.underlying4 _) trodAll_mk0
  · exact (trodAll_cons_mk (shut_int Tryd.underlying22 w0) trodAll_mk0)

theorem over : Rows.FltFloorsSaid :=
  OpenClaim.holds_of_wide 10 Tryd.f10 rfl rfl rfl rfl rfl rfl rfl ⟨rfl, rfl, rfl, rfl, rfl⟩ rfl rfl rfl rfl rfl (by kernel_rfl) Tryd.func10 (by kernel_rfl)
    (of_decide_eq_true (by kernel_rfl)) (by unfold Func.isWrapper; first | (rw [if_pos (by decide +kernel)]; kernel_rfl) | (rw [if_neg (by decide +kernel)]; exact ⟨rfl, rfl⟩))
    (fun os started H enc _ => lifted os started H enc)

/-- The statement: the card. -/
theorem proved : Rows.FltFloorsCardSaid :=
  Claim7.holds_tied_plain_at .later [] [.data, .data, .data] true (true, "8b3116b1b0295d110da8f839a6971b2127ffecfa5bcfe83fba259578590803dc") false
    over (fun _ h => by cases h) (by kernel_rfl) (fun _ h => by cases h) fltFloors_row_tie rfl ⟨rfl, rfl⟩ (by kernel_rfl) rfl
    (fun f fn hf hfn => by
      obtain rfl : f = 10 := Option.some.inj ((show Tryd.prog.funcNamed "rickyard/rickyardlaw2.FltFloors" = some 10 by kernel_rfl).symm.trans hf) |>.symm
      obtain rfl : fn = Tryd.f10 := (Option.some.inj (Tryd.func10.symm.trans hfn)).symm
      exact ⟨by kernel_rfl, fun j t ht => by
        rw [Tryd.params10] at ht
        have hm : t ∈ [22] := by simpa using Array.mem_of_getElem? ht
        have hall : ([22].all fun u => !Tryd.prog.wantsStandIn u) = true := by kernel_rfl
        exact (show Tryd.prog.wantsStandIn t = false by simpa using List.all_eq_true.1 hall t hm)⟩)
    (by kernel_rfl)
#print axioms proved
end Go.Proofs.YtbkemghabhpdhaaDoor.fltFloors
