/-
  What the texts of the document own answers are (digits, Text). Own work, by walks through their text. Conditions: the words are below 2 ^ 64.
-/
import Derived.Test.YtbkemghabhpdhaaDoorRows
import Derived.Test.YtbkemghabhpdhaaDoorFltInts
import Derived.WalkKit
import Derived.ProofKit
import Derived.OpenShut
import Derived.Outline
import Derived.Deep.Light
import Derived.Lib.Hide
import Derived.WalkLawsBesides
import Derived.Lib.SmallJoins
namespace Go.Proofs.YtbkemghabhpdhaaDoor
open Go.ChangeShapes Go.WideShapes Go.ChangeAt Go.RowKit
set_option maxRecDepth 100000
/-! ### The document's own texts -/
theorem one_conv (W : World) (z : Int) (c : UInt8) (hz : z = (c.toNat : Int)) : (convert 45 9 (.slice (some ⟨W.heap.size, 0, none⟩) 1 1)).run Tryd.prog (W.alloc (.cells #[.int .u8 z] 5)) = .ok (.string ⟨#[c]⟩) (W.alloc (.cells #[.int .u8 z] 5)) := by
  have h := run_convert_bytes_back (P := Tryd.prog) (W.alloc (.cells #[.int .u8 z] 5)) 45 9 5 ⟨W.heap.size, 0, none⟩ 1 [c] Tryd.underlying45 Tryd.underlying5 Tryd.underlying9 (fun j hj => by
    have : j = 0 := by simp at hj; omega
    subst this
    rw [Lib.add_plain, World.cell?_alloc_new, hz]
    rfl)
  exact h
theorem cons_bytes (c : UInt8) (l : List UInt8) : (⟨#[c]⟩ ++ ⟨l.toArray⟩ : ByteArray) = ⟨(c :: l).toArray⟩ := ByteArray.ext (by simp)
theorem str_val {s t : ByteArray} (h : s = t) : Value.string s = .string t := by rw [h]
theorem digits_low (m : Nat) (h : ¬ 9 < m) : Lib.decDigits m = [UInt8.ofNat (48 + m)] := by rw [digits_eq, if_pos (by omega)]
theorem digits_high (m : Nat) (h : 9 < m) : Lib.decDigits m = Lib.decDigits (m / 10) ++ [UInt8.ofNat (48 + m % 10)] := by rw [digits_eq, if_neg (by omega)]
theorem dig_any (n : Nat) (w : World) (hn : n < 2 ^ 53) :
    Calls Tryd.prog 55 #[.int .i64 (n : Int)] w fun e w' => e = .returned (.string ⟨(Lib.decDigits n).toArray⟩) ∧ On w w' := by
  have l16 : (Lib.decDigits n).length ≤ 16 := digits_len 15 n (by omega)
  go_enter Tryd.func55, Tryd.ntmps55
  go_wp2_with fail
  go_loopw [0, 3] (fun vn vs wr => ∃ (m : Nat) (l : List UInt8), m ≤ n ∧ vn = .int .i64 (m : Int) ∧ vs = .string ⟨l.toArray⟩ ∧ Hid (Lib.decDigits m ++ l = Lib.decDigits n) ∧ Hid (On w wr)) (fun vn _ _ => (intOf vn).toNat)
  case atStart => exact ⟨n, [], by omega, rfl, rfl, Lib.hid (by simp), Lib.hid (On.refl w)⟩
  case round =>
    obtain ⟨m, l, hm, rfl, rfl, HL, HO⟩ := hrel
    rename World => W
    have ll : l.length ≤ 16 := by have := congrArg List.length HL.out; rw [List.length_append] at this; omega
    by_cases hlt : 9 < m
    · obtain ⟨c, hcv, HL2⟩ : ∃ c : UInt8, ((convert 45 9 (.slice (some ⟨W.heap.size, 0, none⟩) 1 1)).run Tryd.prog (W.alloc (.cells #[.int .u8 (48 + (m : Int) % 10)] 5)) = .ok (.string ⟨#[c]⟩) (W.alloc (.cells #[.int .u8 (48 + (m : Int) % 10)] 5))) ∧ Hid (Lib.decDigits (m / 10) ++ (c :: l) = Lib.decDigits n) :=
        ⟨UInt8.ofNat (48 + m % 10), one_conv W _ _ (by rw [byte_digit _ (Nat.mod_lt _ (by decide))]; omega), Lib.hid (by rw [← HL.out, digits_high m hlt]; simp)⟩
      have HO2 := Lib.hid (On.trans HO.out (on_alloc W (.cells #[.int .u8 (48 + (m : Int) % 10)] 5)))
      have HC := Lib.hid (cons_bytes c l)
      go_wp2_with fail
      refine ⟨⟨m / 10, c :: l, by omega, by go_num, str_val HC.out, HL2, HO2⟩, ?_⟩
      simp [intOf]; omega
    · obtain ⟨c, hcv, HL2⟩ : ∃ c : UInt8, ((convert 45 9 (.slice (some ⟨W.heap.size, 0, none⟩) 1 1)).run Tryd.prog (W.alloc (.cells #[.int .u8 (48 + (m : Int))] 5)) = .ok (.string ⟨#[c]⟩) (W.alloc (.cells #[.int .u8 (48 + (m : Int))] 5))) ∧ Hid (c :: l = Lib.decDigits n) :=
        ⟨UInt8.ofNat (48 + m), one_conv W _ _ (by rw [byte_digit _ (by omega)]; omega), Lib.hid (by rw [← HL.out, digits_low m hlt]; rfl)⟩
      have HO2 := Lib.hid (On.trans HO.out (on_alloc W (.cells #[.int .u8 (48 + (m : Int))] 5)))
      have HC := Lib.hid (cons_bytes c l)
      go_wp2_with fail
      go_ret
      exact ⟨congrArg Ending.returned (str_val (by rw [HC.out, HL2.out])), HO2.out⟩
abbrev digits16 : ByteArray := ⟨#[48, 49, 50, 51, 52, 53, 54, 55, 56, 57, 97, 98, 99, 100, 101, 102]⟩
theorem digit16_fin : ∀ x : Fin 16, digits16.data.toList[x.val]? = some (hexd x.val) := by decide
theorem digit16_at (x : Nat) (h : x < 16) (k : IntKind) (w : World) : (Instr.index 9 (.string digits16) (.int k (x : Int))).run Tryd.prog w = .ok (.int .u8 ((hexd x).toNat : Int)) w := by
  rw [run_index_string w 9 digits16 k _ Tryd.underlying9, dif_pos ⟨by omega, by show (x : Int) < ((16 : Nat) : Int); omega⟩]
  have e := digit16_fin ⟨x, h⟩
  have : digits16[((x : Int)).toNat]'(by show (x : Int).toNat < 16; omega) = hexd x := by
    have e2 : ((x : Int)).toNat = x := by omega
    simp only [e2]
    rw [Array.getElem?_toList, Array.getElem?_eq_some_iff] at e
    exact e.2
  rw [this]
def hexFrom (a k : Nat) : List UInt8 := (List.range k).map fun t => hexDig a (15 - t)
theorem hexFrom_succ (a k : Nat) : hexFrom a (k + 1) = hexFrom a k ++ [hexDig a (15 - k)] := by
  unfold hexFrom; rw [List.range_succ, List.map_append]; rfl
theorem hexFrom_all (a : Nat) : hexFrom a 16 = hexL a 16 := rfl
theorem hexFrom_len (a k : Nat) : (hexFrom a k).length = k := by unfold hexFrom; simp
theorem snoc_bytes (l : List UInt8) (c : UInt8) : (⟨l.toArray⟩ ++ ⟨#[c]⟩ : ByteArray) = ⟨(l ++ [c]).toArray⟩ := ByteArray.ext (by simp)
theorem hex_step16 (a k : Nat) (ha : a < 2 ^ 64) (hk : k < 16) : ∃ (X : Int) (c : UInt8), bits .and .u64 ((a : Int) / 2 ^ (60 - 4 * k)) 15 = X ∧ (∀ w, (Instr.index 9 (.string digits16) (.int .u64 X)).run Tryd.prog w = .ok (.int .u8 (c.toNat : Int)) w) ∧ Hid (c = hexDig a (15 - k)) := by
  have p : (16 : Nat) ^ (15 - k) = 2 ^ (60 - 4 * k) := by
    rw [show (16 : Nat) = 2 ^ 4 from rfl, ← Nat.pow_mul]
    congr 1
    omega
  refine ⟨((a / 2 ^ (60 - 4 * k) % 16 : Nat) : Int), hexDig a (15 - k), ?_, fun w => ?_, Lib.hid rfl⟩
  · have l : a / 2 ^ (60 - 4 * k) < 2 ^ 64 := Nat.lt_of_le_of_lt (Nat.div_le_self _ _) ha
    have e := and64 (a / 2 ^ (60 - 4 * k)) (2 ^ 4 - 1) l (by omega)
    rw [Nat.and_two_pow_sub_one_eq_mod] at e
    have c : ((a / 2 ^ (60 - 4 * k) : Nat) : Int) = (a : Int) / 2 ^ (60 - 4 * k) := by simp
    rw [← c]
    exact e
  · rw [digit16_at _ (Nat.mod_lt _ (by decide))]
    unfold hexDig
    rw [p]
theorem hex_bytes (a : Nat) : (⟨#[48, 120]⟩ ++ ⟨(hexFrom a 16).toArray⟩ : ByteArray) = ⟨(48 :: 120 :: hexL a 16).toArray⟩ := by
  rw [hexFrom_all]
  exact ByteArray.ext (by simp)
theorem rtext_any (a : Nat) (w : World) (ha : a < 2 ^ 64) :
    Calls Tryd.prog 43 #[.int .u64 (a : Int)] w fun e w' => e = .returned (.string ⟨(textL a).toArray⟩) ∧ On w w' := by
  cases c0 : nanW a
  rotate_left
  · rw [textL_nan c0]
    go_enter Tryd.func43, Tryd.ntmps43
    go_wp2_with (first | (go_at_call 38; refine (rnum_any _ _).mono ?_; rintro e w' ⟨rfl, rfl⟩) | (go_at_call 46; refine (rnan_any _ _ ha).mono ?_; rintro e w' ⟨rfl, rfl⟩))
    go_ret
    exact ⟨rfl, On.refl _⟩
  by_cases c1 : a = 9218868437227405312
  · rw [textL_inf c0 c1]
    subst c1
    go_enter Tryd.func43, Tryd.ntmps43
    go_wp2_with (first | (go_at_call 38; refine (rnum_any _ _).mono ?_; rintro e w' ⟨rfl, rfl⟩) | (go_at_call 46; refine (rnan_any _ _ ha).mono ?_; rintro e w' ⟨rfl, rfl⟩))
    go_ret
    exact ⟨rfl, On.refl _⟩
  by_cases c2 : a = 18442240474082181120
  · rw [textL_ninf c0 c2]
    subst c2
    go_enter Tryd.func43, Tryd.ntmps43
    go_wp2_with (first | (go_at_call 38; refine (rnum_any _ _).mono ?_; rintro e w' ⟨rfl, rfl⟩) | (go_at_call 46; refine (rnan_any _ _ ha).mono ?_; rintro e w' ⟨rfl, rfl⟩))
    go_ret
    exact ⟨rfl, On.refl _⟩
  by_cases c3 : a = 9223372036854775808
  · rw [textL_nz c0 c3]
    subst c3
    go_enter Tryd.func43, Tryd.ntmps43
    go_wp2_with (first | (go_at_call 38; refine (rnum_any _ _).mono ?_; rintro e w' ⟨rfl, rfl⟩) | (go_at_call 46; refine (rnan_any _ _ ha).mono ?_; rintro e w' ⟨rfl, rfl⟩))
    go_ret
    exact ⟨rfl, On.refl _⟩
  have e1 := eq_cast a 9218868437227405312 c1
  have e2 := eq_cast a 18442240474082181120 c2
  have e3 := eq_cast a 9223372036854775808 c3
  have f := floorN_facts a ha c0
  have o1 : (FloatKind.f64.format.order a 14069245235905429504 == some Ordering.gt) = lessW 14069245235905429504 a := order_gt a _ ha (by omega)
  have o2 : (FloatKind.f64.format.order a 4845873199050653696 == some Ordering.lt) = lessW a 4845873199050653696 := order_lt a _ ha (by omega)
  have o3 : (FloatKind.f64.format.order (floorN a) a == some Ordering.eq) = equalW (floorN a) a := order_beq _ _ f.2 ha
  cases c4 : exactB a
  · rw [textL_hex c0 c1 c2 c3 c4]
    have HEX : ∀ (l1 l2 l3 : Bool), lessW 14069245235905429504 a = l1 → lessW a 4845873199050653696 = l2 → equalW (floorN a) a = l3 → (l1 && l2 && l3) = false →
        Calls Tryd.prog 43 #[.int .u64 (a : Int)] w fun e w' => e = .returned (.string ⟨(48 :: 120 :: hexL a 16).toArray⟩) ∧ On w w' := by
      intro l1 l2 l3 q1 q2 q3 qa
      cases l1
      · go_enter Tryd.func43, Tryd.ntmps43
        go_wp2_with (first | (go_at_call 38; refine (rnum_any _ _).mono ?_; rintro e w' ⟨rfl, rfl⟩) | (go_at_call 46; refine (rnan_any _ _ ha).mono ?_; rintro e w' ⟨rfl, rfl⟩) | (go_at_call 47; refine (mfloor_num _ _ ha c0).mono ?_; rintro e w' ⟨rfl, rfl⟩))
        go_loopw [5, 6] (fun vs vi wr => ∃ k : Nat, k ≤ 16 ∧ vi = .int .i64 (k : Int) ∧ vs = .string ⟨(hexFrom a k).toArray⟩ ∧ Hid (On w wr)) (fun _ vi _ => 16 - (intOf vi).toNat)
        case atStart => exact ⟨0, by omega, rfl, rfl, Lib.hid (On.refl w)⟩
        case round =>
          obtain ⟨k, hk, rfl, rfl, HO⟩ := hrel
          rename World => W
          have ll : (hexFrom a k).length ≤ 16 := by rw [hexFrom_len]; exact hk
          by_cases hlt : k < 16
          · obtain ⟨X, c, hX, hix, HD⟩ := hex_step16 a k ha hlt
            have hcv := one_conv W _ c rfl
            have HS := Lib.hid (snoc_bytes (hexFrom a k) c)
            have HO2 := Lib.hid (On.trans HO.out (on_alloc W (.cells #[.int .u8 (c.toNat : Int)] 5)))
            have HF := Lib.hid (show hexFrom a k ++ [c] = hexFrom a (k + 1) by rw [hexFrom_succ, HD.out])
            go_wp2_with fail
            refine ⟨⟨k + 1, by omega, by go_num, str_val (by rw [HS.out, HF.out]), HO2⟩, ?_⟩
            simp [intOf]; omega
          · obtain rfl : k = 16 := by omega
            have HP := Lib.hid (hex_bytes a)
            go_wp2_with fail
            go_ret
            exact ⟨congrArg Ending.returned (str_val HP.out), HO.out⟩
      · cases l2
        · go_enter Tryd.func43, Tryd.ntmps43
          go_wp2_with (first | (go_at_call 38; refine (rnum_any _ _).mono ?_; rintro e w' ⟨rfl, rfl⟩) | (go_at_call 46; refine (rnan_any _ _ ha).mono ?_; rintro e w' ⟨rfl, rfl⟩) | (go_at_call 47; refine (mfloor_num _ _ ha c0).mono ?_; rintro e w' ⟨rfl, rfl⟩))
          go_loopw [5, 6] (fun vs vi wr => ∃ k : Nat, k ≤ 16 ∧ vi = .int .i64 (k : Int) ∧ vs = .string ⟨(hexFrom a k).toArray⟩ ∧ Hid (On w wr)) (fun _ vi _ => 16 - (intOf vi).toNat)
          case atStart => exact ⟨0, by omega, rfl, rfl, Lib.hid (On.refl w)⟩
          case round =>
            obtain ⟨k, hk, rfl, rfl, HO⟩ := hrel
            rename World => W
            have ll : (hexFrom a k).length ≤ 16 := by rw [hexFrom_len]; exact hk
            by_cases hlt : k < 16
            · obtain ⟨X, c, hX, hix, HD⟩ := hex_step16 a k ha hlt
              have hcv := one_conv W _ c rfl
              have HS := Lib.hid (snoc_bytes (hexFrom a k) c)
              have HO2 := Lib.hid (On.trans HO.out (on_alloc W (.cells #[.int .u8 (c.toNat : Int)] 5)))
              have HF := Lib.hid (show hexFrom a k ++ [c] = hexFrom a (k + 1) by rw [hexFrom_succ, HD.out])
              go_wp2_with fail
              refine ⟨⟨k + 1, by omega, by go_num, str_val (by rw [HS.out, HF.out]), HO2⟩, ?_⟩
              simp [intOf]; omega
            · obtain rfl : k = 16 := by omega
              have HP := Lib.hid (hex_bytes a)
              go_wp2_with fail
              go_ret
              exact ⟨congrArg Ending.returned (str_val HP.out), HO.out⟩
        · cases l3
          · go_enter Tryd.func43, Tryd.ntmps43
            go_wp2_with (first | (go_at_call 38; refine (rnum_any _ _).mono ?_; rintro e w' ⟨rfl, rfl⟩) | (go_at_call 46; refine (rnan_any _ _ ha).mono ?_; rintro e w' ⟨rfl, rfl⟩) | (go_at_call 47; refine (mfloor_num _ _ ha c0).mono ?_; rintro e w' ⟨rfl, rfl⟩))
            go_loopw [5, 6] (fun vs vi wr => ∃ k : Nat, k ≤ 16 ∧ vi = .int .i64 (k : Int) ∧ vs = .string ⟨(hexFrom a k).toArray⟩ ∧ Hid (On w wr)) (fun _ vi _ => 16 - (intOf vi).toNat)
            case atStart => exact ⟨0, by omega, rfl, rfl, Lib.hid (On.refl w)⟩
            case round =>
              obtain ⟨k, hk, rfl, rfl, HO⟩ := hrel
              rename World => W
              have ll : (hexFrom a k).length ≤ 16 := by rw [hexFrom_len]; exact hk
              by_cases hlt : k < 16
              · obtain ⟨X, c, hX, hix, HD⟩ := hex_step16 a k ha hlt
                have hcv := one_conv W _ c rfl
                have HS := Lib.hid (snoc_bytes (hexFrom a k) c)
                have HO2 := Lib.hid (On.trans HO.out (on_alloc W (.cells #[.int .u8 (c.toNat : Int)] 5)))
                have HF := Lib.hid (show hexFrom a k ++ [c] = hexFrom a (k + 1) by rw [hexFrom_succ, HD.out])
                go_wp2_with fail
                refine ⟨⟨k + 1, by omega, by go_num, str_val (by rw [HS.out, HF.out]), HO2⟩, ?_⟩
                simp [intOf]; omega
              · obtain rfl : k = 16 := by omega
                have HP := Lib.hid (hex_bytes a)
                go_wp2_with fail
                go_ret
                exact ⟨congrArg Ending.returned (str_val HP.out), HO.out⟩
          · cases qa
    exact HEX _ _ _ rfl rfl rfl (by unfold exactB at c4; exact c4)
  · rw [textL_dec c0 c1 c2 c3 c4]
    have hcv : ∀ w, (convert 29 3 (.float .f64 a)).run Tryd.prog w = .ok (.int .i64 (wholeOf a)) w := fun w => run_convert_float_int w 29 3 .f64 .i64 a _ (by rw [Tryd.underlying29]; rfl) Tryd.underlying3 (conv_val a ha c4)
    have hb := (exact_whole a ha c4).2.2.2
    unfold exactB at c4
    simp only [Bool.and_eq_true] at c4
    obtain ⟨⟨q1, q2⟩, q3⟩ := c4
    have hp := itoa_parts (wholeOf a)
    by_cases n0 : wholeOf a < 0
    · rw [if_pos n0] at hp
      rw [hp]
      clear hp
      obtain ⟨u, hu, hu2⟩ : ∃ u : Nat, -wholeOf a = (u : Int) ∧ (wholeOf a).natAbs = u := ⟨(wholeOf a).natAbs, by omega, rfl⟩
      have hu3 : u < 2 ^ 53 := by omega
      have ll : (Lib.decDigits u).length ≤ 16 := digits_len 15 u (by omega)
      rw [hu2]
      clear hu2
      have HC := Lib.hid (cons_bytes 45 (Lib.decDigits u))
      generalize wholeOf a = W at *
      go_enter Tryd.func43, Tryd.ntmps43
      go_wp2_with (first | (go_at_call 38; refine (rnum_any _ _).mono ?_; rintro e w' ⟨rfl, rfl⟩) | (go_at_call 46; refine (rnan_any _ _ ha).mono ?_; rintro e w' ⟨rfl, rfl⟩) | (go_at_call 47; refine (mfloor_num _ _ ha c0).mono ?_; rintro e w' ⟨rfl, rfl⟩))
      refine (dig_any u _ hu3).mono ?_
      rintro e v ⟨rfl, g⟩
      go_wp2_with fail
      go_ret
      exact ⟨congrArg Ending.returned (str_val HC.out), g⟩
    · rw [if_neg n0] at hp
      rw [hp]
      clear hp
      obtain ⟨u, hu, hu2⟩ : ∃ u : Nat, wholeOf a = (u : Int) ∧ (wholeOf a).natAbs = u := ⟨(wholeOf a).natAbs, by omega, rfl⟩
      have hu3 : u < 2 ^ 53 := by omega
      rw [hu2]
      clear hu2
      generalize wholeOf a = W at *
      subst hu
      go_enter Tryd.func43, Tryd.ntmps43
      go_wp2_with (first | (go_at_call 38; refine (rnum_any _ _).mono ?_; rintro e w' ⟨rfl, rfl⟩) | (go_at_call 46; refine (rnan_any _ _ ha).mono ?_; rintro e w' ⟨rfl, rfl⟩) | (go_at_call 47; refine (mfloor_num _ _ ha c0).mono ?_; rintro e w' ⟨rfl, rfl⟩))
      refine (dig_any u _ hu3).mono ?_
      rintro e v ⟨rfl, g⟩
      go_wp2_with fail
      go_ret
      exact ⟨rfl, g⟩
end Go.Proofs.YtbkemghabhpdhaaDoor
