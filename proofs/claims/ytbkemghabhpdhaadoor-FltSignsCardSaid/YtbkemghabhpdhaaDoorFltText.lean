/-
  What flt.Text, and the callees of the library that it comes to, answer; and that the examples of the document stand (awake). Own work, by walks through the landed text and the library. Conditions: the words are below 2 ^ 64, and the laid tables read as the program lays them (Tabs).
-/
import Derived.Test.YtbkemghabhpdhaaDoorRows
import Derived.Test.YtbkemghabhpdhaaDoorFltCalls
import Derived.Test.YtbkemghabhpdhaaDoorFltShelf
import Derived.WalkKit
import Derived.ProofKit
import Derived.OpenShut
import Derived.Outline
import Derived.Deep.Light
import Derived.Lib.Hide
import Derived.WalkLawsBesides
import Derived.Lib.SmallJoins
namespace Go.Proofs.YtbkemghabhpdhaaDoor
open Go.ChangeShapes Go.WideShapes Go.ChangeAt Go.RowKit
set_option maxRecDepth 100000
/-- What the walks lean on: the laid tables, as the program's text lays them. -/
structure Tabs (w : World) : Prop where
  pow : Lib.TabIs Tryd.prog w "internal/strconv.uint64pow10" .u64 Lib.pow10Tab
  deb : w.cell? ⟨3, 15, none⟩ = some (.int .u8 4)
theorem cell_lt {w : World} {b o : Nat} {v : Value} (h : w.cell? ⟨b, o, none⟩ = some v) : b < w.heap.size := by
  rcases Nat.lt_or_ge b w.heap.size with c | c
  · exact c
  · simp only [World.cell?] at h
    rw [Array.getElem?_eq_none c] at h
    cases h
theorem gPow : Tryd.prog.globalNamed "internal/strconv.uint64pow10" = some 1 := by kernel_rfl
theorem Tabs.on {w w' : World} (h : Tabs w) (g : On w w') : Tabs w' :=
  ⟨Joins.tab_stays gPow h.pow g (Nat.le_refl _), (Below.cell g (cell_lt h.deb)).trans h.deb⟩
theorem on_alloc (w : World) (o : Obj) : On w (w.alloc o) := Below.alloc (Below.refl _ _) (Nat.le_refl _) o
theorem tz_any (w : World) (h : w.cell? ⟨3, 15, none⟩ = some (.int .u8 4)) :
    Calls Tryd.prog 80 #[.int .u64 16] w fun e w' => e = .returned (.int .i64 4) ∧ w = w' := by
  have hi : IntKind.u64.wrap (bits .and .u64 16 (IntKind.u64.wrap (-16)) * 285870213051353865) / 288230376151711744 = 15 := by kernel_rfl
  go_enter Tryd.func80, Tryd.ntmps80
  go_wp2
  go_ret
  exact ⟨rfl, rfl⟩
theorem p2_any (w : World) :
    Calls Tryd.prog 79 #[.int .i64 16] w fun e w' => e = .returned (.bool true) ∧ w = w' := by
  have hi : bits .and .i64 16 15 = 0 := by kernel_rfl
  go_enter Tryd.func79, Tryd.ntmps79
  go_wp2
  go_ret
  exact ⟨rfl, rfl⟩
/-- What lies in the block that formatBits makes: the digits behind place j. -/
structure HexRow (a : Nat) (w : World) (j : Nat) (W : World) : Prop where
  on : On w W
  done : ∀ t, j < t → t < 65 → W.cell? ⟨w.heap.size, t, none⟩ = some (.int .u8 ((hexDig a (64 - t)).toNat : Int))
  all : ∀ t, t < 65 → ∃ c, W.cell? ⟨w.heap.size, t, none⟩ = some (.int .u8 c)
  free : ∀ t, t < 65 → W.frozen? ⟨w.heap.size, t, none⟩ = false
theorem zeros_at (t : Nat) (h : t < 65) : Tryd.zeroCells73[t]? = some (.int .u8 0) := by
  have e : Tryd.zeroCells73 = Array.replicate 65 (.int .u8 0) := by kernel_rfl
  rw [e, Array.getElem?_replicate, if_pos h]
theorem HexRow.start (a : Nat) (w : World) : HexRow a w 64 (w.alloc (.cells Tryd.zeroCells73 73)) :=
  ⟨on_alloc _ _, fun t h1 h2 => by omega, fun t h => ⟨0, by rw [World.cell?_alloc_new]; exact zeros_at t h⟩, fun t _ => World.frozen?_alloc_new _ _ _ _⟩
theorem HexRow.put {a : Nat} {w W : World} {j : Nat} (h : HexRow a w (j + 1) W) (hj : j + 1 < 65) : HexRow a w j (W.setCell ⟨w.heap.size, j + 1, none⟩ (.int .u8 ((hexDig a (64 - (j + 1))).toNat : Int))) := by
  obtain ⟨c, hc⟩ := h.all (j + 1) hj
  refine ⟨Below.setCell h.on (Nat.le_refl _) _, fun t h1 h2 => ?_, fun t ht => ?_, fun t ht => ?_⟩
  · by_cases e : t = j + 1
    · subst e; exact World.cell?_setCell_same _ _ _ hc
    · rw [World.cell?_setCell_other _ _ _ _ (by simp; try omega)]
      exact h.done t (by omega) h2
  · by_cases e : t = j + 1
    · subst e; exact ⟨_, World.cell?_setCell_same _ _ _ hc⟩
    · rw [World.cell?_setCell_other _ _ _ _ (by simp; try omega)]
      exact h.all t ht
  · rw [World.frozen?_setCell]; exact h.free t ht
abbrev digits36 : ByteArray := ⟨#[48, 49, 50, 51, 52, 53, 54, 55, 56, 57, 97, 98, 99, 100, 101, 102, 103, 104, 105, 106, 107, 108, 109, 110, 111, 112, 113, 114, 115, 116, 117, 118, 119, 120, 121, 122]⟩
theorem digit_fin : ∀ x : Fin 16, digits36.data.toList[x.val]? = some (hexd x.val) := by decide
theorem digit_at (x : Nat) (h : x < 16) (k : IntKind) (w : World) : (Instr.index 9 (.string digits36) (.int k (x : Int))).run Tryd.prog w = .ok (.int .u8 ((hexd x).toNat : Int)) w := by
  rw [run_index_string w 9 digits36 k _ Tryd.underlying9, dif_pos ⟨by omega, by show (x : Int) < ((36 : Nat) : Int); omega⟩]
  have e := digit_fin ⟨x, h⟩
  have : digits36[((x : Int)).toNat]'(by show (x : Int).toNat < 36; omega) = hexd x := by
    have e2 : ((x : Int)).toNat = x := by omega
    simp only [e2]
    rw [Array.getElem?_toList, Array.getElem?_eq_some_iff] at e
    exact e.2
  rw [this]
/-- What formatBits tells: the digits, as many as the number needs. -/
def HexPost (a : Nat) (w : World) (e : Ending) (w' : World) : Prop := ∃ n, 1 ≤ n ∧ n ≤ 16 ∧ a < 16 ^ n ∧ e = .returned (.tuple #[.slice none 0 0, .string ⟨(hexL a n).toArray⟩]) ∧ On w w'
theorem hex_step (a j : Nat) (h : j + 1 ≤ 64) : a / 16 ^ (64 - (j + 1)) / 16 = a / 16 ^ (64 - j) := by
  rw [Nat.div_div_eq_div_mul, ← Nat.pow_succ, show (64 - (j + 1)).succ = 64 - j by omega]
theorem hex_bound (a k : Nat) (ha : a < 2 ^ 64) (h : 16 ≤ a / 16 ^ k) : k < 15 := by
  by_cases c : k < 15
  · exact c
  · exfalso
    have p : 16 ^ 15 ≤ 16 ^ k := Nat.pow_le_pow_right (by decide) (by omega)
    have q : a / 16 ^ k ≤ a / 16 ^ 15 := Nat.div_le_div_left p (by decide)
    have r : a / 16 ^ 15 < 16 := Nat.div_lt_of_lt_mul (by omega)
    omega
theorem hex_all (a k : Nat) (h : a / 16 ^ k < 16) : a < 16 ^ (k + 1) := by
  rw [Nat.pow_succ]
  have p : 0 < 16 ^ k := Nat.pos_of_ne_zero (by simp)
  have := Nat.lt_mul_of_div_lt h p
  rwa [Nat.mul_comm] at this
theorem fb_any (a : Nat) (w : World) (ha : a < 2 ^ 64) (h : Tabs w) :
    Calls Tryd.prog 66 #[.slice none 0 0, .int .u64 (a : Int), .int .i64 16, .bool false, .bool false] w (HexPost a w) := by
  have h3 := (h.on (on_alloc w (.cells Tryd.zeroCells73 73))).deb
  have H3 := Lib.hid h3
  clear h3
  go_enter Tryd.func66, Tryd.ntmps66
  go_wp2_with (first
    | (go_at_call 79; refine (p2_any _).mono ?_; rintro e w' ⟨rfl, rfl⟩)
    | (go_at_call 80; refine (tz_any _ H3.out).mono ?_; rintro e w' ⟨rfl, rfl⟩))
  go_loopw [1, 13] (fun vu vi wr => ∃ (j u : Nat), 49 ≤ j ∧ j ≤ 64 ∧ u < 2 ^ 64 ∧ vu = .int .u64 (u : Int) ∧ vi = .int .i64 ((j : Int) + 1) ∧ Hid (u = a / 16 ^ (64 - j)) ∧ Hid (HexRow a w j wr)) (fun vu _ _ => (intOf vu).toNat)
  case atStart => exact ⟨64, a, by omega, by omega, ha, rfl, rfl, Lib.hid (by simp), Lib.hid (HexRow.start a w)⟩
  case round =>
    obtain ⟨j, u, hj0, hj1, hu, rfl, rfl, HU, HR⟩ := hrel
    rename World => W
    obtain ⟨m, rfl⟩ : ∃ m, j = m + 1 := ⟨j - 1, by omega⟩
    obtain ⟨c, hc⟩ := HR.out.all (m + 1) (by omega)
    have hf := HR.out.free (m + 1) (by omega)
    by_cases hlt : 16 ≤ u
    · obtain ⟨X, hX, hix⟩ : ∃ X : Int, bits .and .u64 (u : Int) 15 = X ∧ ∀ w, (Instr.index 9 (.string digits36) (.int .u64 X)).run Tryd.prog w = .ok (.int .u8 ((hexDig a (64 - (m + 1))).toNat : Int)) w := by
        refine ⟨((u % 16 : Nat) : Int), ?_, fun w => ?_⟩
        · have e := and64 u (2 ^ 4 - 1) hu (by omega)
          rw [Nat.and_two_pow_sub_one_eq_mod] at e
          exact e
        · rw [digit_at _ (Nat.mod_lt _ (by decide))]
          unfold hexDig
          rw [HU.out]
      have HR2 := HR.out.put (by omega)
      rw [show 64 - (m + 1) = 63 - m by omega] at HR2
      have HR3 := Lib.hid HR2
      have hb := hex_bound a (64 - (m + 1)) ha (by rw [← HU.out]; exact hlt)
      clear HR HR2
      go_wp2
      refine ⟨⟨m, u / 16, by omega, by omega, by omega, by go_num, rfl, Lib.hid ?_, HR3⟩, ?_⟩
      · rw [HU.out]; exact hex_step a m (by omega)
      · simp [intOf]; omega
    · have hix : ∀ w, (Instr.index 9 (.string digits36) (.int .u64 (u : Int))).run Tryd.prog w = .ok (.int .u8 ((hexDig a (64 - (m + 1))).toNat : Int)) w := by
        intro w
        rw [digit_at _ (by omega)]
        unfold hexDig
        rw [← HU.out, Nat.mod_eq_of_lt (by omega)]
      have HR2 := HR.out.put (by omega)
      have HN := Lib.hid (hex_all a (64 - (m + 1)) (by rw [← HU.out]; omega))
      have hsl : ∀ W, (Instr.sliceAt 73 (.pointer (some ⟨w.heap.size, 0, none⟩)) (some (.int .i64 ((m : Int) + 1))) none none).run Tryd.prog W = .ok (.slice (some ⟨w.heap.size, m + 1, none⟩) (64 - m) (64 - m)) W := by
        intro W
        have hal : Tryd.prog.arrayLen 73 = 65 := by simp [Program.arrayLen, Tryd.underlying73]
        rw [run_sliceAt_array_l W 73 ⟨w.heap.size, 0, none⟩ (by simp [Program.arrayLen, Program.elem, Tryd.underlying73]) .i64 ((m : Int) + 1) (by omega) (by rw [hal]; omega)]
        go_simp
        omega
      have hcv : (convert 45 9 (.slice (some ⟨w.heap.size, m + 1, none⟩) (64 - m) (64 - m))).run Tryd.prog (W.setCell ⟨w.heap.size, m + 1, none⟩ (.int .u8 ((hexDig a (64 - (m + 1))).toNat : Int))) = .ok (.string ⟨(hexL a (64 - m)).toArray⟩) (W.setCell ⟨w.heap.size, m + 1, none⟩ (.int .u8 ((hexDig a (64 - (m + 1))).toNat : Int))) := by
        have hh := run_convert_bytes_back (P := Tryd.prog) (W.setCell ⟨w.heap.size, m + 1, none⟩ (.int .u8 ((hexDig a (64 - (m + 1))).toNat : Int))) 45 9 5 ⟨w.heap.size, m + 1, none⟩ (64 - m) (hexL a (64 - m)) Tryd.underlying45 Tryd.underlying5 Tryd.underlying9 (fun i hi => by
          rw [Lib.add_plain, hexL_get]
          rw [hexL_length] at hi
          rw [HR2.done (m + 1 + i) (by omega) (by omega), show 64 - (m + 1 + i) = 64 - m - 1 - i by omega])
        rw [hexL_length] at hh
        exact hh
      have hon := HR2.on
      rw [show 64 - (m + 1) = 63 - m by omega] at hcv hon
      have P : HexPost a w (.returned (.tuple #[.slice none 0 0, .string ⟨(hexL a (64 - m)).toArray⟩])) (W.setCell ⟨w.heap.size, m + 1, none⟩ (.int .u8 ((hexDig a (63 - m)).toNat : Int))) :=
        ⟨64 - m, by omega, by omega, by have := HN.out; rwa [show 64 - (m + 1) + 1 = 64 - m by omega] at this, rfl, hon⟩
      clear HR HR2 hon
      go_wp2
      go_ret2
      exact P

/-- The same, of the callers. -/
def HexTold (a : Nat) (w : World) (e : Ending) (w' : World) : Prop := ∃ n, 1 ≤ n ∧ n ≤ 16 ∧ a < 16 ^ n ∧ e = .returned (.string ⟨(hexL a n).toArray⟩) ∧ On w w'
theorem iu_any (a : Nat) (w : World) (ha : a < 2 ^ 64) (h : Tabs w) : Calls Tryd.prog 67 #[.int .u64 (a : Int), .int .i64 16] w (HexTold a w) := by
  go_enter Tryd.func67, Tryd.ntmps67
  go_wp2_with fail
  refine (fb_any a _ ha h).mono ?_
  rintro e w' ⟨n, h1, h2, h3, rfl, g⟩
  have P : HexTold a w (.returned (.string ⟨(hexL a n).toArray⟩)) w' := ⟨n, h1, h2, h3, rfl, g⟩
  go_wp2_with fail
  go_ret
  exact P
theorem fu_any (a : Nat) (w : World) (ha : a < 2 ^ 64) (h : Tabs w) : Calls Tryd.prog 60 #[.int .u64 (a : Int), .int .i64 16] w (HexTold a w) := by
  go_enter Tryd.func60, Tryd.ntmps60
  go_wp2_with fail
  refine (iu_any a _ ha h).mono ?_
  rintro e w' ⟨n, h1, h2, h3, rfl, g⟩
  have P : HexTold a w (.returned (.string ⟨(hexL a n).toArray⟩)) w' := ⟨n, h1, h2, h3, rfl, g⟩
  go_wp2_with fail
  go_ret
  exact P
theorem repeat_eq (c : Nat) : Lib.repeatL [48] c = List.replicate c 48 := by
  induction c with
  | zero => rfl
  | succ c ih => rw [Lib.repeatL, ih]; rfl
theorem hext_any (a : Nat) (w : World) (ha : a < 2 ^ 64) (h : Tabs w) :
    Calls Tryd.prog 54 #[.int .u64 (a : Int)] w fun e w' => e = .returned (.string ⟨(48 :: 120 :: hexL a 16).toArray⟩) ∧ On w w' := by
  go_enter Tryd.func54, Tryd.ntmps54
  go_wp2_with fail
  refine (fu_any a _ ha h).mono ?_
  rintro e w1 ⟨n, h1, h2, h3, rfl, g⟩
  have hl := hexL_length a n
  have HE := Lib.hid (show wrap64 (16 - ((hexL a n).length : Int)) = ((16 - n : Nat) : Int) by rw [hl]; unfold wrap64; omega)
  clear hl
  go_wp2_with fail
  rw [HE.out]
  refine (Tryd.strings_Repeat ⟨#[48]⟩ (16 - n) w1 (by omega) (by show 1 * (16 - n) ≤ _; omega)).mono ?_
  rintro e w2 ⟨rfl, g2⟩
  have HP := Lib.hid (hexL_pad a n (16 - n) h3)
  clear HE
  have l1 : (Lib.repeatL [48] (16 - n)).length ≤ 16 := by rw [repeat_eq, List.length_replicate]; omega
  have l2 : (hexL a n).length ≤ 16 := by rw [hexL_length]; exact h2
  go_wp2_with fail
  go_ret
  refine ⟨congrArg Ending.returned (congrArg Value.string ?_), g.trans g2⟩
  rw [repeat_eq]
  have := HP.out
  rw [show n + (16 - n) = 16 by omega] at this
  rw [← this]
  exact ByteArray.ext (by simp)

/-! ### Text -/
def textL (a : Nat) : List UInt8 :=
  if nanW a then [110, 97, 110] else if a = 9218868437227405312 then [105, 110, 102] else if a = 18442240474082181120 then [45, 105, 110, 102]
  else if a = 9223372036854775808 then [45, 48] else if exactB a then Lib.itoa (wholeOf a) else 48 :: 120 :: hexL a 16
theorem isinf_pos (a : Nat) (w : World) (ha : a < 2 ^ 64) :
    Calls Tryd.prog 51 #[.float .f64 a, .int .i64 1] w fun e w' => e = .returned (.bool (decide (a = 9218868437227405312))) ∧ w = w' := by
  have ho : (FloatKind.f64.format.order a 9218868437227405311 == some Ordering.gt) = lessW 9218868437227405311 a := order_gt a _ ha (by omega)
  rw [inf_test a ha] at ho
  go_enter Tryd.func51, Tryd.ntmps51
  go_wp2_with fail
  go_ret
  exact ⟨rfl, rfl⟩
theorem isinf_neg (a : Nat) (w : World) (ha : a < 2 ^ 64) :
    Calls Tryd.prog 51 #[.float .f64 a, .int .i64 (-1)] w fun e w' => e = .returned (.bool (decide (a = 18442240474082181120))) ∧ w = w' := by
  have hn := neg_run a ha
  have ho : (FloatKind.f64.format.order (negF a) 9218868437227405311 == some Ordering.gt) = lessW 9218868437227405311 (negF a) := order_gt (negF a) _ (nan_negF a ha).2 (by omega)
  rw [inf_test' a ha] at ho
  go_enter Tryd.func51, Tryd.ntmps51
  go_wp2_with fail
  go_ret
  exact ⟨rfl, rfl⟩
theorem exact_any (a : Nat) (w : World) (ha : a < 2 ^ 64) :
    Calls Tryd.prog 52 #[.float .f64 a] w fun e w' => e = .returned (.bool (exactB a)) ∧ w = w' := by
  have o1 : (FloatKind.f64.format.order a 14069245235905429504 == some Ordering.gt) = lessW 14069245235905429504 a := order_gt a _ ha (by omega)
  have o2 : (FloatKind.f64.format.order a 4845873199050653696 == some Ordering.lt) = lessW a 4845873199050653696 := order_lt a _ ha (by omega)
  unfold exactB
  cases c1 : lessW 14069245235905429504 a
  · go_enter Tryd.func52, Tryd.ntmps52
    go_wp2_with fail
    go_ret
    exact ⟨rfl, rfl⟩
  · cases c2 : lessW a 4845873199050653696
    · go_enter Tryd.func52, Tryd.ntmps52
      go_wp2_with fail
      go_ret
      exact ⟨rfl, rfl⟩
    · have n : nanW a = false := by
        cases c : nanW a
        · rfl
        · unfold lessW at c2; rw [c] at c2; simp at c2
      have f := floorN_facts a ha n
      have o3 : (FloatKind.f64.format.order (floorN a) a == some Ordering.eq) = equalW (floorN a) a := order_beq _ _ f.2 ha
      go_enter Tryd.func52, Tryd.ntmps52
      go_wp2_with (go_at_call 47; refine (mfloor_num _ _ ha n).mono ?_; rintro e w' ⟨rfl, rfl⟩)
      go_ret
      exact ⟨rfl, rfl⟩
theorem conv_val (a : Nat) (ha : a < 2 ^ 64) (he : exactB a = true) : floatToIntVal .f64 a .i64 = some (wholeOf a) := by
  obtain ⟨n, hr, v, l⟩ := exact_whole a ha he
  unfold floatToIntVal
  have e : (FloatKind.f64.decode a).toInt .zero = some (wholeOf a) := to_int a ha hr
  rw [e]
  have b : IntKind.i64.min ≤ wholeOf a ∧ wholeOf a ≤ IntKind.i64.max := by
    show (-9223372036854775808 : Int) ≤ wholeOf a ∧ wholeOf a ≤ 9223372036854775807
    omega
  simp only [b, and_self, if_true]
theorem textL_nan {a : Nat} (c : nanW a = true) : textL a = [110, 97, 110] := by unfold textL; rw [c]; rfl
theorem textL_inf {a : Nat} (c : nanW a = false) (d : a = 9218868437227405312) : textL a = [105, 110, 102] := by unfold textL; rw [c, if_neg Bool.false_ne_true, if_pos d]
theorem textL_ninf {a : Nat} (c : nanW a = false) (d : a = 18442240474082181120) : textL a = [45, 105, 110, 102] := by unfold textL; rw [c, if_neg Bool.false_ne_true, if_neg (by omega), if_pos d]
theorem textL_nz {a : Nat} (c : nanW a = false) (d : a = 9223372036854775808) : textL a = [45, 48] := by unfold textL; rw [c, if_neg Bool.false_ne_true, if_neg (by omega), if_neg (by omega), if_pos d]
theorem textL_dec {a : Nat} (c : nanW a = false) (d : a ≠ 9218868437227405312) (e : a ≠ 18442240474082181120) (f : a ≠ 9223372036854775808) (g : exactB a = true) : textL a = Lib.itoa (wholeOf a) := by unfold textL; rw [c, if_neg Bool.false_ne_true, if_neg d, if_neg e, if_neg f, if_pos g]
theorem textL_hex {a : Nat} (c : nanW a = false) (d : a ≠ 9218868437227405312) (e : a ≠ 18442240474082181120) (f : a ≠ 9223372036854775808) (g : exactB a = false) : textL a = 48 :: 120 :: hexL a 16 := by unfold textL; rw [c, if_neg Bool.false_ne_true, if_neg d, if_neg e, if_neg f, if_neg (by rw [g]; exact Bool.false_ne_true)]
/-- A nought below nought alone. -/
theorem eq_cast (a : Nat) (k : Nat) (c : a ≠ k) : ((a : Int) == (k : Int)) = false := by simp; omega
theorem on_grow {w w' : World} (h : ∃ k os, w' = Sort.grow (w.drewN k) os) : On w w' := by
  obtain ⟨k, os, rfl⟩ := h
  refine ⟨rfl, rfl, rfl, ?_, fun i hi => ?_⟩
  · show w.heap.size ≤ (w.heap ++ os).size
    simp
  · show (w.heap ++ os)[i]? = w.heap[i]?
    rw [Array.getElem?_append_left hi]
theorem text_any (a : Nat) (w : World) (ha : a < 2 ^ 64) (h : Tabs w) :
    Calls Tryd.prog 42 #[.int .u64 (a : Int)] w fun e w' => e = .returned (.string ⟨(textL a).toArray⟩) ∧ On w w' := by
  cases c0 : nanW a
  rotate_left
  · rw [textL_nan c0]
    go_enter Tryd.func42, Tryd.ntmps42
    go_wp2_with fail
    refine (num_any _ _).mono ?_
    rintro e w' ⟨rfl, rfl⟩
    go_wp2_with fail
    refine (isnan_any _ _ ha).mono ?_
    rintro e w' ⟨rfl, rfl⟩
    go_wp2_with fail
    go_ret
    exact ⟨rfl, On.refl _⟩
  by_cases c1 : a = 9218868437227405312
  · rw [textL_inf c0 c1]
    subst c1
    go_enter Tryd.func42, Tryd.ntmps42
    go_wp2_with fail
    refine (num_any _ _).mono ?_
    rintro e w' ⟨rfl, rfl⟩
    go_wp2_with fail
    refine (isnan_any _ _ ha).mono ?_
    rintro e w' ⟨rfl, rfl⟩
    go_wp2_with fail
    refine (isinf_pos _ _ ha).mono ?_
    rintro e w' ⟨rfl, rfl⟩
    go_wp2_with fail
    go_ret
    exact ⟨rfl, On.refl _⟩
  by_cases c2 : a = 18442240474082181120
  · rw [textL_ninf c0 c2]
    subst c2
    go_enter Tryd.func42, Tryd.ntmps42
    go_wp2_with fail
    refine (num_any _ _).mono ?_
    rintro e w' ⟨rfl, rfl⟩
    go_wp2_with fail
    refine (isnan_any _ _ ha).mono ?_
    rintro e w' ⟨rfl, rfl⟩
    go_wp2_with fail
    refine (isinf_pos _ _ ha).mono ?_
    rintro e w' ⟨rfl, rfl⟩
    go_wp2_with fail
    refine (isinf_neg _ _ ha).mono ?_
    rintro e w' ⟨rfl, rfl⟩
    go_wp2_with fail
    go_ret
    exact ⟨rfl, On.refl _⟩
  by_cases c3 : a = 9223372036854775808
  · rw [textL_nz c0 c3]
    subst c3
    go_enter Tryd.func42, Tryd.ntmps42
    go_wp2_with fail
    refine (num_any _ _).mono ?_
    rintro e w' ⟨rfl, rfl⟩
    go_wp2_with fail
    refine (isnan_any _ _ ha).mono ?_
    rintro e w' ⟨rfl, rfl⟩
    go_wp2_with fail
    refine (isinf_pos _ _ ha).mono ?_
    rintro e w' ⟨rfl, rfl⟩
    go_wp2_with fail
    refine (isinf_neg _ _ ha).mono ?_
    rintro e w' ⟨rfl, rfl⟩
    go_wp2_with fail
    go_ret
    exact ⟨rfl, On.refl _⟩
  have e3 := eq_cast a 9223372036854775808 c3
  cases c4 : exactB a
  · rw [textL_hex c0 c1 c2 c3 c4]
    go_enter Tryd.func42, Tryd.ntmps42
    go_wp2_with fail
    refine (num_any _ _).mono ?_
    rintro e w' ⟨rfl, rfl⟩
    go_wp2_with fail
    refine (isnan_any _ _ ha).mono ?_
    rintro e w' ⟨rfl, rfl⟩
    go_wp2_with fail
    refine (isinf_pos _ _ ha).mono ?_
    rintro e w' ⟨rfl, rfl⟩
    go_wp2_with fail
    refine (isinf_neg _ _ ha).mono ?_
    rintro e w' ⟨rfl, rfl⟩
    go_wp2_with fail
    refine (exact_any _ _ ha).mono ?_
    rintro e w' ⟨rfl, rfl⟩
    go_wp2_with fail
    refine (hext_any a _ ha h).mono ?_
    rintro e w' ⟨rfl, g⟩
    go_wp2_with fail
    go_ret
    exact ⟨rfl, g⟩
  · rw [textL_dec c0 c1 c2 c3 c4]
    have hcv : ∀ w, (convert 29 2 (.float .f64 a)).run Tryd.prog w = .ok (.int .i64 (wholeOf a)) w := fun w => run_convert_float_int w 29 2 .f64 .i64 a _ (by rw [Tryd.underlying29]; rfl) Tryd.underlying2 (conv_val a ha c4)
    have hb := (exact_whole a ha c4).2.2.2
    go_enter Tryd.func42, Tryd.ntmps42
    go_wp2_with fail
    refine (num_any _ _).mono ?_
    rintro e w' ⟨rfl, rfl⟩
    go_wp2_with fail
    refine (isnan_any _ _ ha).mono ?_
    rintro e w' ⟨rfl, rfl⟩
    go_wp2_with fail
    refine (isinf_pos _ _ ha).mono ?_
    rintro e w' ⟨rfl, rfl⟩
    go_wp2_with fail
    refine (isinf_neg _ _ ha).mono ?_
    rintro e w' ⟨rfl, rfl⟩
    go_wp2_with fail
    refine (exact_any _ _ ha).mono ?_
    rintro e w' ⟨rfl, rfl⟩
    go_wp2_with fail
    refine (Tryd.strconv_FormatInt_10 (wholeOf a) (by omega) (by omega) _ h.pow).mono ?_
    rintro e w' ⟨rfl, g⟩
    have g' := on_grow g
    clear g
    go_wp2_with fail
    go_ret
    exact ⟨rfl, g'⟩

/-! ### The document's examples -/
theorem text_is (a : Nat) (l : List UInt8) (w : World) (ha : a < 2 ^ 64) (h : Tabs w) (e : textL a = l) :
    Calls Tryd.prog 42 #[.int .u64 (a : Int)] w fun e w' => e = .returned (.string ⟨l.toArray⟩) ∧ On w w' := by
  rw [← e]; exact text_any a w ha h
theorem t7 : textL (intW (-7)) = [45, 55] := by kernel_rfl
theorem tn : textL (optW (floatBits .quo .f64 (intW 0) (intW 0))) = [110, 97, 110] := by kernel_rfl
theorem tz : textL (wordW (negF (intW 0))) = [45, 48] := by kernel_rfl
theorem th : textL (optW (floatBits .quo .f64 (intW 1) (intW 2))) = [48, 120, 51, 102, 101, 48, 48, 48, 48, 48, 48, 48, 48, 48, 48, 48, 48, 48] := by kernel_rfl
theorem ln : optW (floatBits .quo .f64 (intW 0) (intW 0)) < 2 ^ 64 := by decide +kernel
theorem lz : wordW (negF (intW 0)) < 2 ^ 64 := by decide +kernel
theorem lh : optW (floatBits .quo .f64 (intW 1) (intW 2)) < 2 ^ 64 := by decide +kernel
theorem awake_any (w : World) (h : Tabs w) : Calls Tryd.prog 35 #[] w fun e w' => e = .returned (.bool true) ∧ On w w' := by
  go_enter Tryd.func35, Tryd.ntmps35
  go_wp2_with fail
  refine (int_any _ _).mono ?_
  rintro e w' ⟨rfl, rfl⟩
  go_wp2_with fail
  refine (text_is _ _ _ (int_lt _).2 h t7).mono ?_
  rintro e w1 ⟨rfl, g1⟩
  go_wp2_with fail
  refine (int_any _ _).mono ?_
  rintro e w' ⟨rfl, rfl⟩
  go_wp2_with fail
  refine (int_any _ _).mono ?_
  rintro e w' ⟨rfl, rfl⟩
  go_wp2_with fail
  refine (div_any _ _ _).mono ?_
  rintro e w2 ⟨rfl, g2⟩
  have g2 := On.trans g1 g2
  clear g1
  go_wp2_with fail
  refine (text_is _ _ _ ln (h.on g2) tn).mono ?_
  rintro e w3 ⟨rfl, g3⟩
  have g3 := On.trans g2 g3
  clear g2
  go_wp2_with fail
  refine (int_any _ _).mono ?_
  rintro e w' ⟨rfl, rfl⟩
  go_wp2_with fail
  refine (neg_any _ _ (int_lt _).2).mono ?_
  rintro e w' ⟨rfl, rfl⟩
  go_wp2_with fail
  refine (text_is _ _ _ lz (h.on g3) tz).mono ?_
  rintro e w4 ⟨rfl, g4⟩
  have g4 := On.trans g3 g4
  clear g3
  go_wp2_with fail
  refine (int_any _ _).mono ?_
  rintro e w' ⟨rfl, rfl⟩
  go_wp2_with fail
  refine (int_any _ _).mono ?_
  rintro e w' ⟨rfl, rfl⟩
  go_wp2_with fail
  refine (div_any _ _ _).mono ?_
  rintro e w5 ⟨rfl, g5⟩
  have g5 := On.trans g4 g5
  clear g4
  go_wp2_with fail
  refine (text_is _ _ _ lh (h.on g5) th).mono ?_
  rintro e w6 ⟨rfl, g6⟩
  have g6 := On.trans g5 g6
  clear g5
  go_wp2_with fail
  go_ret
  exact ⟨rfl, g6⟩
end Go.Proofs.YtbkemghabhpdhaaDoor
