/-
  For every input the law FltNone of rickyard/rickyardlaw2 returns true, and its arguments read afterwards as before, where the listed tables of Go's library hold what the program's text lays in them (the card ties that). The law's own sentence: What is no number makes no number of all, is held against nothing, and is no nought; whatever its bits, it has one word, and one text. No further conditions.
-/
import Derived.Test.YtbkemghabhpdhaaDoorFltFrame
import Derived.Test.YtbkemghabhpdhaaDoorCards
import Derived.Test.YtbkemghabhpdhaaDoorTie
import Derived.Test.YtbkemghabhpdhaaDoorFltRead
namespace Go.Proofs.YtbkemghabhpdhaaDoor.fltNone
open Go.ChangeShapes Go.WideShapes Go.ChangeAt Go.RowKit
set_option linter.unusedVariables false
set_option maxRecDepth 100000

set_option maxHeartbeats 8000000 in
/-- The walk: the Go text returns true. -/
theorem walk (a0 : Int) (a1 : Int) (w0 : (Lit.int .u64 a0).wf = true) (w1 : (Lit.int .u64 a1).wf = true) (w : World) (hT : Tabs w) :
    Calls Tryd.prog 5 #[.int .u64 a0, .int .u64 a1] w fun e w' => e = .returned (.bool true) ∧ On w w' := by
  have b0 := bounds_u64 w0
  have b1 := bounds_u64 w1
  obtain ⟨a, rfl⟩ : ∃ a : Nat, a0 = a := ⟨a0.toNat, by omega⟩
  obtain ⟨b, rfl⟩ : ∃ b : Nat, a1 = b := ⟨a1.toNat, by omega⟩
  have ha : a < 2 ^ 64 := by omega
  have hb : b < 2 ^ 64 := by omega
  clear b0 b1 w0 w1
  have g := On.refl w
  obtain ⟨x, hx, nx, ho⟩ := or_facts a ha
  have A1 : floatBits .add .f64 x b = none := add_nan x b hx nx
  have A2 : floatBits .add .f64 b x = none := (add_comm' b x).trans (add_nan x b hx nx)
  have A3 : floatBits .sub .f64 x b = none := (sub_nan x b hx nx).1
  have A4 : floatBits .sub .f64 b x = none := (sub_nan x b hx nx).2
  have A5 : floatBits .mul .f64 x b = none := mul_nan x b hx nx
  have A6 : floatBits .mul .f64 b x = none := (mul_comm' b x).trans (mul_nan x b hx nx)
  have A7 : floatBits .quo .f64 x b = none := (div_nan x b hx nx).1
  have A8 : floatBits .quo .f64 b x = none := (div_nan x b hx nx).2
  have E1 : Hid (((optW (floatBits .add .f64 x b) : Nat) : Int) = 9221120237041090560) := Lib.hid (by rw [A1]; rfl)
  have E2 : Hid (((optW (floatBits .add .f64 b x) : Nat) : Int) = 9221120237041090560) := Lib.hid (by rw [A2]; rfl)
  have E3 : Hid (((optW (floatBits .sub .f64 x b) : Nat) : Int) = 9221120237041090560) := Lib.hid (by rw [A3]; rfl)
  have E4 : Hid (((optW (floatBits .sub .f64 b x) : Nat) : Int) = 9221120237041090560) := Lib.hid (by rw [A4]; rfl)
  have E5 : Hid (((optW (floatBits .mul .f64 x b) : Nat) : Int) = 9221120237041090560) := Lib.hid (by rw [A5]; rfl)
  have E6 : Hid (((optW (floatBits .mul .f64 b x) : Nat) : Int) = 9221120237041090560) := Lib.hid (by rw [A6]; rfl)
  have E7 : Hid (((optW (floatBits .quo .f64 x b) : Nat) : Int) = 9221120237041090560) := Lib.hid (by rw [A7]; rfl)
  have E8 : Hid (((optW (floatBits .quo .f64 b x) : Nat) : Int) = 9221120237041090560) := Lib.hid (by rw [A8]; rfl)
  clear A1 A2 A3 A4 A5 A6 A7 A8
  have M1 : minW x b = noneW := by unfold minW; rw [nx]; rfl
  have M2 : minW b x = noneW := by unfold minW; rw [nx, Bool.or_true]; rfl
  have M3 : maxW x b = noneW := by unfold maxW; rw [nx]; rfl
  have M4 : maxW b x = noneW := by unfold maxW; rw [nx, Bool.or_true]; rfl
  have M5 : wordW (negF x) = noneW := wordW_nan ((nan_negF x hx).1.trans nx)
  have M6 : floorW x = noneW := by unfold floorW; rw [nx]; rfl
  have M7 : wordW x = noneW := wordW_nan nx
  have F1 : Hid (((minW x b : Nat) : Int) = 9221120237041090560) := Lib.hid (by rw [M1]; rfl)
  have F2 : Hid (((minW b x : Nat) : Int) = 9221120237041090560) := Lib.hid (by rw [M2]; rfl)
  have F3 : Hid (((maxW x b : Nat) : Int) = 9221120237041090560) := Lib.hid (by rw [M3]; rfl)
  have F4 : Hid (((maxW b x : Nat) : Int) = 9221120237041090560) := Lib.hid (by rw [M4]; rfl)
  have F5 : Hid (((wordW (negF x) : Nat) : Int) = 9221120237041090560) := Lib.hid (by rw [M5]; rfl)
  have F6 : Hid (((floorW x : Nat) : Int) = 9221120237041090560) := Lib.hid (by rw [M6]; rfl)
  have F7 : Hid (((wordW x : Nat) : Int) = 9221120237041090560) := Lib.hid (by rw [M7]; rfl)
  clear M1 M2 M3 M4 M5 M6 M7
  have L1 : lessW x b = false := by unfold lessW; rw [nx]; rfl
  have L2 : lessW b x = false := by unfold lessW; rw [nx, Bool.or_true]; rfl
  have L3 : equalW x b = false := by unfold equalW; rw [nx]; rfl
  have L4 : equalW b x = false := by unfold equalW; rw [nx, Bool.or_true]; rfl
  have L5 : trueW x = true := by have := of_decide_eq_true nx; unfold trueW; exact decide_eq_true (by omega)
  have TX := Lib.hid (textL_nan nx)
  go_enter Tryd.func5, Tryd.ntmps5
  go_wp2_with fail
  refine (add_any _ _ _).mono ?_
  rintro e v ⟨rfl, g'⟩
  have g := On.trans g g'
  clear g'
  rw [E1.out]
  go_wp2_with fail
  refine (add_any _ _ _).mono ?_
  rintro e v ⟨rfl, g'⟩
  have g := On.trans g g'
  clear g'
  rw [E2.out]
  go_wp2_with fail
  refine (sub_any _ _ _).mono ?_
  rintro e v ⟨rfl, g'⟩
  have g := On.trans g g'
  clear g'
  rw [E3.out]
  go_wp2_with fail
  refine (sub_any _ _ _).mono ?_
  rintro e v ⟨rfl, g'⟩
  have g := On.trans g g'
  clear g'
  rw [E4.out]
  go_wp2_with fail
  refine (mul_any _ _ _).mono ?_
  rintro e v ⟨rfl, g'⟩
  have g := On.trans g g'
  clear g'
  rw [E5.out]
  go_wp2_with fail
  refine (mul_any _ _ _).mono ?_
  rintro e v ⟨rfl, g'⟩
  have g := On.trans g g'
  clear g'
  rw [E6.out]
  go_wp2_with fail
  refine (div_any _ _ _).mono ?_
  rintro e v ⟨rfl, g'⟩
  have g := On.trans g g'
  clear g'
  rw [E7.out]
  go_wp2_with fail
  refine (div_any _ _ _).mono ?_
  rintro e v ⟨rfl, g'⟩
  have g := On.trans g g'
  clear g'
  rw [E8.out]
  go_wp2_with fail
  refine (min_any _ _ _ hx hb).mono ?_
  rintro e v ⟨rfl, g'⟩
  have g := On.trans g g'
  clear g'
  rw [F1.out]
  go_wp2_with fail
  refine (min_any _ _ _ hb hx).mono ?_
  rintro e v ⟨rfl, g'⟩
  have g := On.trans g g'
  clear g'
  rw [F2.out]
  go_wp2_with fail
  refine (max_any _ _ _ hx hb).mono ?_
  rintro e v ⟨rfl, g'⟩
  have g := On.trans g g'
  clear g'
  rw [F3.out]
  go_wp2_with fail
  refine (max_any _ _ _ hb hx).mono ?_
  rintro e v ⟨rfl, g'⟩
  have g := On.trans g g'
  clear g'
  rw [F4.out]
  go_wp2_with fail
  refine (neg_any _ _ hx).mono ?_
  rintro e w' ⟨rfl, rfl⟩
  rw [F5.out]
  go_wp2_with fail
  refine (floor_any _ _ hx).mono ?_
  rintro e v ⟨rfl, g'⟩
  have g := On.trans g g'
  clear g'
  rw [F6.out]
  go_wp2_with fail
  refine (num_any _ _).mono ?_
  rintro e w' ⟨rfl, rfl⟩
  go_wp2_with fail
  refine (word_any _ _ hx).mono ?_
  rintro e w' ⟨rfl, rfl⟩
  rw [F7.out]
  clear E1 E2 E3 E4 E5 E6 E7 E8 F1 F2 F3 F4 F5 F6 F7
  go_wp2_with fail
  go_name_world V hV
  have gV : On v V := by rw [← hV]; exact on_alloc _ _
  have hcell : ∀ k, k < 15 → V.cell? ⟨v.heap.size, k, none⟩ = some (.int .u64 9221120237041090560) := by
    intro k hk
    rw [← hV, World.cell?_alloc_new]
    show (Array.replicate 15 (Value.int .u64 9221120237041090560))[k]? = _
    rw [Array.getElem?_replicate, if_pos hk]
  clear hV
  have HC := Lib.hid hcell
  clear hcell
  have g := On.trans g gV
  clear gV
  go_loop [56] (fun i => ∃ k : Nat, k ≤ 15 ∧ i = .int .i64 k) (fun i => 15 - (intOf i).toNat)
  case atStart => exact ⟨0, by omega, rfl⟩
  case round =>
    obtain ⟨k, hk, rfl⟩ := hrel
    by_cases hlt : k < 15
    · have hc := HC.out k hlt
      go_wp2_with fail
      go_round
      case rel => exact ⟨k + 1, by omega, by go_num⟩
      case measure => simp [intOf]; omega
    · clear HC
      go_wp2_with fail
      refine (less_any _ _ _ hx hb).mono ?_
      rintro e w' ⟨rfl, rfl⟩
      go_wp2_with fail
      refine (less_any _ _ _ hb hx).mono ?_
      rintro e w' ⟨rfl, rfl⟩
      go_wp2_with fail
      refine (equal_any _ _ _ hx hb).mono ?_
      rintro e w' ⟨rfl, rfl⟩
      go_wp2_with fail
      refine (equal_any _ _ _ hb hx).mono ?_
      rintro e w' ⟨rfl, rfl⟩
      go_wp2_with fail
      refine (true_any _ _ hx).mono ?_
      rintro e w' ⟨rfl, rfl⟩
      go_wp2_with fail
      refine (text_any _ _ hx (hT.on g)).mono ?_
      rintro e v ⟨rfl, g'⟩
      have g := On.trans g g'
      clear g'
      rw [TX.out]
      go_wp2_with fail
      refine (awake_any _ (hT.on g)).mono ?_
      rintro e v ⟨rfl, g'⟩
      have g := On.trans g g'
      clear g'
      go_wp2_with fail
      go_ret
      exact ⟨rfl, g⟩

/-- The row's step. -/
theorem lifted (os : Os) (started : os.Started) (H : Type) (enc : TypeId × Value → H) :
    ReturnsInHanded {} Tryd.checked os 5 .any (fun w args => (Rows.fltNoneSpec.pre enc Tryd.prog Tryd.f5 [] false w args ∧ laidMetH Tryd.prog laid3 w) ∧ sizedMet enc Tryd.prog Tryd.f5 (OpenSpec.ofChange Rows.fltNoneSpec) false w args)
      (Rows.fltNoneSpec.post enc Tryd.prog Tryd.f5 false true false false) := by
  refine returnsInHanded_of_change_and (C := Tryd.checked) (X := fun w _ => laidMetH Tryd.prog laid3 w) (fun _ _ _ hh h => h.of_heap hh) own started (by kernel_rfl) Tryd.func5
    (ChangeSpec.witness_shaped (enc := enc) (C := Tryd.checked) (os := os) (X := fun w _ => laidMetH Tryd.prog laid3 w) false (World.doorLaid Tryd.prog 400 os) #[.int .u64 0, .int .u64 0] 8 rfl (World.shaped_of_RefB (by kernel_rfl) (by kernel_rfl)) (by kernel_rfl) (by kernel_rfl) (by kernel_rfl) (door_met os _)) ?_
  intro W base args ds gs before hval0 hW _ _ hL _
  have hval : ∀ (j : Nat) t v, Tryd.f5.params[j]? = some t → args[j]? = some v → Value.okWide Tryd.prog W .any base t v := hval0
  have hW' := hW
  obtain ⟨p, q, hA0, hV, rfl, hfz, hnd⟩ := hW
  have hA : DataW.TrodAll enc Tryd.prog W 0 (fun _ => true) true Tryd.f5.params.toList args.toList ds p := hA0
  rw [Tryd.params5] at hA hval
  obtain ⟨v0, vs0, d0, ds0, p0, q0, hargs, rfl, rfl, h0, r0⟩ := trodAll_cons hA
  obtain ⟨v1, vs1, d1, ds1, p1, q1, rfl, rfl, rfl, h1, r1⟩ := trodAll_cons r0
  obtain ⟨rfl, rfl, rfl⟩ := trodAll_nil r1
  obtain rfl : args = #[v0, v1] := by cases args; simp_all
  obtain ⟨rfl, rfl⟩ := trodVars_none hV
  obtain ⟨a0, rfl, rfl, rfl, w0⟩ := open_int Tryd.underlying22 (hval 0 22 v0 rfl rfl) h0
  obtain ⟨a1, rfl, rfl, rfl, w1⟩ := open_int Tryd.underlying22 (hval 1 22 v1 rfl rfl) h1
  have hT := of_laid hL
  clear hA0 hval0
  simp only [List.append_nil] at hW'
  refine (walk a0 a1 w0 w1 W hT).mono fun e W' ⟨he, hg⟩ => ?_
  subst he
  refine ⟨_, rfl, _, _, _, [], [], [], hW', ?_, ?_, rfl, Below.frame hg _, fun h => by cases h⟩
  · exact trodAll_cons_mk (shut_bool Tryd.underlying4 _) trodAll_mk0
  · exact (trodAll_cons_mk (shut_int Tryd.underlying22 w0) (trodAll_cons_mk (shut_int Tryd.underlying22 w1) trodAll_mk0))

theorem over : Rows.FltNoneSaid :=
  OpenClaim.holds_of_wide 5 Tryd.f5 rfl rfl rfl rfl rfl rfl rfl ⟨rfl, rfl, rfl, rfl, rfl⟩ rfl rfl rfl rfl rfl (by kernel_rfl) Tryd.func5 (by kernel_rfl)
    (of_decide_eq_true (by kernel_rfl)) (by unfold Func.isWrapper; first | (rw [if_pos (by decide +kernel)]; kernel_rfl) | (rw [if_neg (by decide +kernel)]; exact ⟨rfl, rfl⟩))
    (fun os started H enc _ => lifted os started H enc)

/-- The statement: the card. -/
theorem proved : Rows.FltNoneCardSaid :=
  Claim7.holds_tied_plain_at .later [] [.data, .data, .data] true (true, "8b3116b1b0295d110da8f839a6971b2127ffecfa5bcfe83fba259578590803dc") false
    over (fun _ h => by cases h) (by kernel_rfl) (fun _ h => by cases h) fltNone_row_tie rfl ⟨rfl, rfl⟩ (by kernel_rfl) rfl
    (fun f fn hf hfn => by
      obtain rfl : f = 5 := Option.some.inj ((show Tryd.prog.funcNamed "rickyard/rickyardlaw2.FltNone" = some 5 by kernel_rfl).symm.trans hf) |>.symm
      obtain rfl : fn = Tryd.f5 := (Option.some.inj (Tryd.func5.symm.trans hfn)).symm
      exact ⟨by kernel_rfl, fun j t ht => by
        rw [Tryd.params5] at ht
        have hm : t ∈ [22, 22] := by simpa using Array.mem_of_getElem? ht
        have hall : ([22, 22].all fun u => !Tryd.prog.wantsStandIn u) = true := by kernel_rfl
        exact (show Tryd.prog.wantsStandIn t = false by simpa using List.all_eq_true.1 hall t hm)⟩)
    (by kernel_rfl)
#print axioms proved
end Go.Proofs.YtbkemghabhpdhaaDoor.fltNone
