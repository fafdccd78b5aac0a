/-
  What each function of package flt, and of the document's own answers, gives at any words, as a function of the words' bits; the world keeps what it had. Own work; each is proved by a walk through the landed text. Conditions: the words are below 2 ^ 64.
-/
import Derived.Test.YtbkemghabhpdhaaDoorRows
import Derived.Test.YtbkemghabhpdhaaDoorFltMath
import Derived.WalkKit
import Derived.ProofKit
import Derived.OpenShut
import Derived.Outline
import Derived.Deep.Light
import Derived.Lib.Hide
import Derived.WalkLawsBesides
import Derived.Lib.SmallJoins
namespace Go.Proofs.YtbkemghabhpdhaaDoor
open Go.ChangeShapes Go.WideShapes Go.ChangeAt Go.RowKit
set_option maxRecDepth 100000
/-- The world has at most new blocks, and draws. -/
def On (w w' : World) : Prop := Below w.heap.size w w'
theorem On.refl (w : World) : On w w := Below.refl _ _
theorem On.trans {a b c : World} (h : On a b) (k : On b c) : On a c := Below.trans h (Below.mono k (Below.size h))
theorem On.drew {a b : World} (h : On a b) : On a b.drew := Below.drew h
theorem on_of {w w' : World} (h : w' = w ∨ w' = w.drew) : On w w' := by
  rcases h with rfl | rfl
  · exact On.refl _
  · exact On.drew (On.refl _)
theorem ret_u64 {a b : Nat} (h : a = b) : Ending.returned (.int .u64 (a : Int)) = .returned (.int .u64 (b : Int)) := by rw [h]
theorem ret_bool {a b : Bool} (h : a = b) : Ending.returned (.bool a) = .returned (.bool b) := by rw [h]

/-! ### Bits of 64 -/
theorem bits64 (op : BinOp) (f : Nat → Nat → Nat) (a b : Nat) (ha : a < 2 ^ 64) (hb : b < 2 ^ 64) (hf : f a b < 2 ^ 64)
    (h : bits op .u64 (a : Int) (b : Int) = IntKind.u64.wrap ((f ((BitVec.ofInt 64 (a : Int)).toNat) ((BitVec.ofInt 64 (b : Int)).toNat) : Nat) : Int)) :
    bits op .u64 (a : Int) (b : Int) = ((f a b : Nat) : Int) := by
  rw [h, BitVec.ofInt_natCast, BitVec.ofInt_natCast, BitVec.toNat_ofNat, BitVec.toNat_ofNat, Nat.mod_eq_of_lt ha, Nat.mod_eq_of_lt hb]
  simp only [IntKind.wrap, IntKind.bits, IntKind.signed]
  simp
  omega
theorem and64 (a b : Nat) (ha : a < 2 ^ 64) (hb : b < 2 ^ 64) : bits .and .u64 (a : Int) (b : Int) = ((a &&& b : Nat) : Int) :=
  bits64 .and (· &&& ·) a b ha hb (Nat.lt_of_le_of_lt Nat.and_le_left ha) (by rw [← BitVec.toNat_and]; rfl)
theorem or64 (a b : Nat) (ha : a < 2 ^ 64) (hb : b < 2 ^ 64) : bits .or .u64 (a : Int) (b : Int) = ((a ||| b : Nat) : Int) :=
  bits64 .or (· ||| ·) a b ha hb (Nat.or_lt_two_pow ha hb) (by rw [← BitVec.toNat_or]; rfl)
theorem xor64 (a b : Nat) (ha : a < 2 ^ 64) (hb : b < 2 ^ 64) : bits .xor .u64 (a : Int) (b : Int) = ((a ^^^ b : Nat) : Int) :=
  bits64 .xor (· ^^^ ·) a b ha hb (Nat.xor_lt_two_pow ha hb) (by rw [← BitVec.toNat_xor]; rfl)
theorem top_and (a : Nat) (h : a < 2 ^ 64) : bits .and .u64 (a : Int) 9223372036854775808 = if a < 2 ^ 63 then 0 else 9223372036854775808 := by
  have := and64 a (2 ^ 63) h (by omega)
  rw [and63 a h] at this
  refine this.trans ?_
  split <;> rfl
theorem top_or (a : Nat) (h : a < 2 ^ 64) (c : a < 2 ^ 63) : bits .or .u64 (a : Int) 9223372036854775808 = ((rankW a : Nat) : Int) := by
  have := or64 a (2 ^ 63) h (by omega)
  rw [or63 a h, if_pos c] at this
  unfold rankW
  rw [if_pos c]
  exact this
theorem top_xor (a : Nat) (h : a < 2 ^ 64) : bits .xor .u64 (a : Int) 9223372036854775808 = ((negF a : Nat) : Int) := by
  have := xor64 a (2 ^ 63) h (by omega)
  rw [xor63 a h] at this
  exact this
theorem low_and (a : Nat) (h : a < 2 ^ 64) : bits .and .u64 (a : Int) 9223372036854775807 = ((a % 2 ^ 63 : Nat) : Int) := by
  have := and64 a (2 ^ 63 - 1) h (by omega)
  rw [Nat.and_two_pow_sub_one_eq_mod] at this
  exact this
theorem all_xor (a : Nat) (h : a < 2 ^ 64) (c : ¬ a < 2 ^ 63) : bits .xor .u64 IntKind.u64.max (a : Int) = ((rankW a : Nat) : Int) := by
  have := xor64 (2 ^ 64 - 1) a (by omega) h
  rw [not_gen 64 a h] at this
  unfold rankW
  rw [if_neg c]
  exact this
theorem nan_test (a : Nat) (h : a < 2 ^ 64) : decide ((9218868437227405312 : Int) < bits .and .u64 (a : Int) 9223372036854775807) = nanW a := by
  rw [low_and a h]
  unfold nanW
  rw [Bool.eq_iff_iff]
  simp only [decide_eq_true_eq]
  omega

/-! ### Numbers and words -/
theorem from_run (n : Nat) (w : World) : (callFunc 49 #[.int .u64 (n : Int)]).run Tryd.prog w = .ok (.value (.float .f64 n)) w := by kernel_rfl
theorem bits_run (b : Nat) (w : World) : (callFunc 48 #[.float .f64 b]).run Tryd.prog w = .ok (.value (.int .u64 b)) w := by kernel_rfl
theorem self_order (a : Nat) (h : a < 2 ^ 64) : (FloatKind.f64.format.order a a != some Ordering.eq) = nanW a := by
  show (Ieee.double.order a a != some Ordering.eq) = nanW a
  rw [order_eq a a h h, cmp_eq rfl]
  cases nanW a <;> rfl
theorem num_any (a : Nat) (w : World) :
    Calls Tryd.prog 37 #[.int .u64 (a : Int)] w fun e w' => e = .returned (.float .f64 a) ∧ w = w' := by
  have h := from_run
  go_enter Tryd.func37, Tryd.ntmps37
  go_wp2
  go_ret
  exact ⟨rfl, rfl⟩
theorem rnum_any (a : Nat) (w : World) :
    Calls Tryd.prog 38 #[.int .u64 (a : Int)] w fun e w' => e = .returned (.float .f64 a) ∧ w = w' := by
  have h := from_run
  go_enter Tryd.func38, Tryd.ntmps38
  go_wp2
  go_ret
  exact ⟨rfl, rfl⟩
theorem isnan_any (a : Nat) (w : World) (h : a < 2 ^ 64) :
    Calls Tryd.prog 50 #[.float .f64 a] w fun e w' => e = .returned (.bool (nanW a)) ∧ w = w' := by
  have h := self_order a h
  go_enter Tryd.func50, Tryd.ntmps50
  go_wp2
  go_ret
  exact ⟨rfl, rfl⟩
theorem word_any (a : Nat) (w : World) (h : a < 2 ^ 64) :
    Calls Tryd.prog 39 #[.float .f64 a] w fun e w' => e = .returned (.int .u64 (wordW a)) ∧ w = w' := by
  have hb := bits_run
  cases c : nanW a
  · rw [wordW_num c]
    go_enter Tryd.func39, Tryd.ntmps39
    go_wp2_with (go_at_call 50; refine (isnan_any _ _ h).mono ?_; rintro e w' ⟨rfl, rfl⟩)
    go_ret
    exact ⟨rfl, rfl⟩
  · rw [wordW_nan c]
    go_enter Tryd.func39, Tryd.ntmps39
    go_wp2_with (go_at_call 50; refine (isnan_any _ _ h).mono ?_; rintro e w' ⟨rfl, rfl⟩)
    go_ret
    exact ⟨rfl, rfl⟩
theorem rword_any (a : Nat) (w : World) (h : a < 2 ^ 64) :
    Calls Tryd.prog 36 #[.float .f64 a] w fun e w' => e = .returned (.int .u64 (wordW a)) ∧ w = w' := by
  have hb := bits_run
  have hs := self_order a h
  cases c : nanW a
  · rw [wordW_num c]
    go_enter Tryd.func36, Tryd.ntmps36
    go_wp2_with fail
    go_ret
    exact ⟨rfl, rfl⟩
  · rw [wordW_nan c]
    go_enter Tryd.func36, Tryd.ntmps36
    go_wp2_with fail
    go_ret
    exact ⟨rfl, rfl⟩
/-- What a draw of bits gives is no number. -/
theorem nan_cut (n : Nat) : nanW ((n % 2) * 2 ^ 63 + 0x7ff0000000000000 + 1 + (n / 2) % (2 ^ 52 - 1)) = true ∧ (n % 2) * 2 ^ 63 + 0x7ff0000000000000 + 1 + (n / 2) % (2 ^ 52 - 1) < 2 ^ 64 := by
  unfold nanW
  simp only [decide_eq_true_eq]
  rcases Nat.mod_two_eq_zero_or_one n with c | c <;> rw [c] <;> omega
theorem nan_draw (x y : Nat) (n : Nat) : nanW ((Question.nanBits .f64 x y).cut n) = true ∧ (Question.nanBits .f64 x y).cut n < 2 ^ 64 := nan_cut n
theorem nan_draw' (x y : Nat) (b : Bool) (n : Nat) : nanW ((Question.nanMinMax .f64 b x y).cut n) = true ∧ (Question.nanMinMax .f64 b x y).cut n < 2 ^ 64 := nan_cut n
theorem arith_run (op : BinOp) (t : TypeId) (x y : Nat) (hop : op = .add ∨ op = .sub ∨ op = .mul ∨ op = .quo) (w : World) :
    ∃ r w', (binOp op t (.float .f64 x) (.float .f64 y)).run Tryd.prog w = .ok (.float .f64 r) w' ∧ r < 2 ^ 64 ∧ wordW r = optW (floatBits op .f64 x y) ∧ (w' = w ∨ w' = w.drew) := by
  cases h : floatBits op .f64 x y with
  | some r =>
    refine ⟨r, w, run_float_arith w op t .f64 x y r h, ?_, rfl, Or.inl rfl⟩
    have := floatBits_wf h
    simpa [Lit.wf] using this
  | none =>
    refine ⟨_, w.drew, ?_, (nan_draw x y (w.tape w.drawn (.nanBits .f64 x y))).2, wordW_nan (nan_draw x y (w.tape w.drawn (.nanBits .f64 x y))).1, Or.inr rfl⟩
    rcases hop with rfl | rfl | rfl | rfl <;> (unfold floatBits at h; simp only at h; simp [binOp, Op.floatArith, h, Question.forced])
theorem add_any (a b : Nat) (w : World) :
    Calls Tryd.prog 11 #[.int .u64 (a : Int), .int .u64 (b : Int)] w fun e w' => e = .returned (.int .u64 (optW (floatBits .add .f64 a b))) ∧ On w w' := by
  obtain ⟨r, v, hr, hlt, hw, hv⟩ := arith_run .add 29 a b (by simp) w
  rw [← hw]
  have g := on_of hv
  clear hw hv
  go_enter Tryd.func11, Tryd.ntmps11
  go_wp2_with (first
    | (go_at_call 37; refine (num_any _ _).mono ?_; rintro e w' ⟨rfl, rfl⟩)
    | (go_at_call 39; refine (word_any _ _ hlt).mono ?_; rintro e w' ⟨rfl, rfl⟩))
  go_ret
  exact ⟨rfl, g⟩
theorem radd_any (a b : Nat) (w : World) :
    Calls Tryd.prog 12 #[.int .u64 (a : Int), .int .u64 (b : Int)] w fun e w' => e = .returned (.int .u64 (optW (floatBits .add .f64 a b))) ∧ On w w' := by
  obtain ⟨r, v, hr, hlt, hw, hv⟩ := arith_run .add 29 a b (by simp) w
  rw [← hw]
  have g := on_of hv
  clear hw hv
  go_enter Tryd.func12, Tryd.ntmps12
  go_wp2_with (first
    | (go_at_call 38; refine (rnum_any _ _).mono ?_; rintro e w' ⟨rfl, rfl⟩)
    | (go_at_call 36; refine (rword_any _ _ hlt).mono ?_; rintro e w' ⟨rfl, rfl⟩))
  go_ret
  exact ⟨rfl, g⟩
theorem sub_any (a b : Nat) (w : World) :
    Calls Tryd.prog 13 #[.int .u64 (a : Int), .int .u64 (b : Int)] w fun e w' => e = .returned (.int .u64 (optW (floatBits .sub .f64 a b))) ∧ On w w' := by
  obtain ⟨r, v, hr, hlt, hw, hv⟩ := arith_run .sub 29 a b (by simp) w
  rw [← hw]
  have g := on_of hv
  clear hw hv
  go_enter Tryd.func13, Tryd.ntmps13
  go_wp2_with (first
    | (go_at_call 37; refine (num_any _ _).mono ?_; rintro e w' ⟨rfl, rfl⟩)
    | (go_at_call 39; refine (word_any _ _ hlt).mono ?_; rintro e w' ⟨rfl, rfl⟩))
  go_ret
  exact ⟨rfl, g⟩
theorem rsub_any (a b : Nat) (w : World) :
    Calls Tryd.prog 14 #[.int .u64 (a : Int), .int .u64 (b : Int)] w fun e w' => e = .returned (.int .u64 (optW (floatBits .sub .f64 a b))) ∧ On w w' := by
  obtain ⟨r, v, hr, hlt, hw, hv⟩ := arith_run .sub 29 a b (by simp) w
  rw [← hw]
  have g := on_of hv
  clear hw hv
  go_enter Tryd.func14, Tryd.ntmps14
  go_wp2_with (first
    | (go_at_call 38; refine (rnum_any _ _).mono ?_; rintro e w' ⟨rfl, rfl⟩)
    | (go_at_call 36; refine (rword_any _ _ hlt).mono ?_; rintro e w' ⟨rfl, rfl⟩))
  go_ret
  exact ⟨rfl, g⟩
theorem mul_any (a b : Nat) (w : World) :
    Calls Tryd.prog 15 #[.int .u64 (a : Int), .int .u64 (b : Int)] w fun e w' => e = .returned (.int .u64 (optW (floatBits .mul .f64 a b))) ∧ On w w' := by
  obtain ⟨r, v, hr, hlt, hw, hv⟩ := arith_run .mul 29 a b (by simp) w
  rw [← hw]
  have g := on_of hv
  clear hw hv
  go_enter Tryd.func15, Tryd.ntmps15
  go_wp2_with (first
    | (go_at_call 37; refine (num_any _ _).mono ?_; rintro e w' ⟨rfl, rfl⟩)
    | (go_at_call 39; refine (word_any _ _ hlt).mono ?_; rintro e w' ⟨rfl, rfl⟩))
  go_ret
  exact ⟨rfl, g⟩
theorem rmul_any (a b : Nat) (w : World) :
    Calls Tryd.prog 16 #[.int .u64 (a : Int), .int .u64 (b : Int)] w fun e w' => e = .returned (.int .u64 (optW (floatBits .mul .f64 a b))) ∧ On w w' := by
  obtain ⟨r, v, hr, hlt, hw, hv⟩ := arith_run .mul 29 a b (by simp) w
  rw [← hw]
  have g := on_of hv
  clear hw hv
  go_enter Tryd.func16, Tryd.ntmps16
  go_wp2_with (first
    | (go_at_call 38; refine (rnum_any _ _).mono ?_; rintro e w' ⟨rfl, rfl⟩)
    | (go_at_call 36; refine (rword_any _ _ hlt).mono ?_; rintro e w' ⟨rfl, rfl⟩))
  go_ret
  exact ⟨rfl, g⟩
theorem div_any (a b : Nat) (w : World) :
    Calls Tryd.prog 17 #[.int .u64 (a : Int), .int .u64 (b : Int)] w fun e w' => e = .returned (.int .u64 (optW (floatBits .quo .f64 a b))) ∧ On w w' := by
  obtain ⟨r, v, hr, hlt, hw, hv⟩ := arith_run .quo 29 a b (by simp) w
  rw [← hw]
  have g := on_of hv
  clear hw hv
  go_enter Tryd.func17, Tryd.ntmps17
  go_wp2_with (first
    | (go_at_call 37; refine (num_any _ _).mono ?_; rintro e w' ⟨rfl, rfl⟩)
    | (go_at_call 39; refine (word_any _ _ hlt).mono ?_; rintro e w' ⟨rfl, rfl⟩))
  go_ret
  exact ⟨rfl, g⟩
theorem rdiv_any (a b : Nat) (w : World) :
    Calls Tryd.prog 18 #[.int .u64 (a : Int), .int .u64 (b : Int)] w fun e w' => e = .returned (.int .u64 (optW (floatBits .quo .f64 a b))) ∧ On w w' := by
  obtain ⟨r, v, hr, hlt, hw, hv⟩ := arith_run .quo 29 a b (by simp) w
  rw [← hw]
  have g := on_of hv
  clear hw hv
  go_enter Tryd.func18, Tryd.ntmps18
  go_wp2_with (first
    | (go_at_call 38; refine (rnum_any _ _).mono ?_; rintro e w' ⟨rfl, rfl⟩)
    | (go_at_call 36; refine (rword_any _ _ hlt).mono ?_; rintro e w' ⟨rfl, rfl⟩))
  go_ret
  exact ⟨rfl, g⟩
theorem nan_any (a : Nat) (w : World) (h : a < 2 ^ 64) :
    Calls Tryd.prog 44 #[.int .u64 (a : Int)] w fun e w' => e = .returned (.bool (nanW a)) ∧ w = w' := by
  have ht := nan_test a h
  go_enter Tryd.func44, Tryd.ntmps44
  go_wp2
  go_ret
  exact ⟨rfl, rfl⟩
theorem rnan_any (a : Nat) (w : World) (h : a < 2 ^ 64) :
    Calls Tryd.prog 46 #[.int .u64 (a : Int)] w fun e w' => e = .returned (.bool (nanW a)) ∧ w = w' := by
  have ht := nan_test a h
  go_enter Tryd.func46, Tryd.ntmps46
  go_wp2
  go_ret
  exact ⟨rfl, rfl⟩
theorem neg_run (a : Nat) (h : a < 2 ^ 64) (w : World) : (Op.unary .neg (.float .f64 a)).run Tryd.prog w = .ok (.float .f64 (negF a)) w := by
  have : Op.negFloat .f64 a = negF a := by
    show a ^^^ 2 ^ 63 = negF a
    rw [xor63 a h]; rfl
  simp [Op.unary, this]
theorem neg_any (a : Nat) (w : World) (h : a < 2 ^ 64) :
    Calls Tryd.prog 19 #[.int .u64 (a : Int)] w fun e w' => e = .returned (.int .u64 (wordW (negF a))) ∧ w = w' := by
  have hn := neg_run a h
  have hlt := (nan_negF a h).2
  go_enter Tryd.func19, Tryd.ntmps19
  go_wp2_with (first
    | (go_at_call 37; refine (num_any _ _).mono ?_; rintro e w' ⟨rfl, rfl⟩)
    | (go_at_call 39; refine (word_any _ _ hlt).mono ?_; rintro e w' ⟨rfl, rfl⟩))
  go_ret
  exact ⟨rfl, rfl⟩
theorem rneg_any (a : Nat) (w : World) (h : a < 2 ^ 64) :
    Calls Tryd.prog 20 #[.int .u64 (a : Int)] w fun e w' => e = .returned (.int .u64 (wordW (negF a))) ∧ w = w' := by
  have hn := (nan_negF a h).1
  have hx := top_xor a h
  cases c : nanW a
  · rw [wordW_num (hn.trans c)]
    clear hn
    go_enter Tryd.func20, Tryd.ntmps20
    go_wp2_with (go_at_call 46; refine (rnan_any _ _ h).mono ?_; rintro e w' ⟨rfl, rfl⟩)
    go_ret
    exact ⟨rfl, rfl⟩
  · rw [wordW_nan (hn.trans c)]
    clear hn
    go_enter Tryd.func20, Tryd.ntmps20
    go_wp2_with (go_at_call 46; refine (rnan_any _ _ h).mono ?_; rintro e w' ⟨rfl, rfl⟩)
    go_ret
    exact ⟨rfl, rfl⟩
theorem less_any (a b : Nat) (w : World) (ha : a < 2 ^ 64) (hb : b < 2 ^ 64) :
    Calls Tryd.prog 27 #[.int .u64 (a : Int), .int .u64 (b : Int)] w fun e w' => e = .returned (.bool (lessW a b)) ∧ w = w' := by
  have ho : (FloatKind.f64.format.order a b == some Ordering.lt) = lessW a b := order_lt a b ha hb
  go_enter Tryd.func27, Tryd.ntmps27
  go_wp2_with (go_at_call 37; refine (num_any _ _).mono ?_; rintro e w' ⟨rfl, rfl⟩)
  go_ret
  exact ⟨rfl, rfl⟩
theorem rless_any (a b : Nat) (w : World) (ha : a < 2 ^ 64) (hb : b < 2 ^ 64) :
    Calls Tryd.prog 28 #[.int .u64 (a : Int), .int .u64 (b : Int)] w fun e w' => e = .returned (.bool (lessW a b)) ∧ w = w' := by
  have ho : (FloatKind.f64.format.order a b == some Ordering.lt) = lessW a b := order_lt a b ha hb
  go_enter Tryd.func28, Tryd.ntmps28
  go_wp2_with (go_at_call 38; refine (rnum_any _ _).mono ?_; rintro e w' ⟨rfl, rfl⟩)
  go_ret
  exact ⟨rfl, rfl⟩
theorem equal_any (a b : Nat) (w : World) (ha : a < 2 ^ 64) (hb : b < 2 ^ 64) :
    Calls Tryd.prog 29 #[.int .u64 (a : Int), .int .u64 (b : Int)] w fun e w' => e = .returned (.bool (equalW a b)) ∧ w = w' := by
  have ho : (FloatKind.f64.format.order a b == some Ordering.eq) = equalW a b := order_beq a b ha hb
  go_enter Tryd.func29, Tryd.ntmps29
  go_wp2_with (go_at_call 37; refine (num_any _ _).mono ?_; rintro e w' ⟨rfl, rfl⟩)
  go_ret
  exact ⟨rfl, rfl⟩
theorem requal_any (a b : Nat) (w : World) (ha : a < 2 ^ 64) (hb : b < 2 ^ 64) :
    Calls Tryd.prog 30 #[.int .u64 (a : Int), .int .u64 (b : Int)] w fun e w' => e = .returned (.bool (equalW a b)) ∧ w = w' := by
  have ho : (FloatKind.f64.format.order a b == some Ordering.eq) = equalW a b := order_beq a b ha hb
  go_enter Tryd.func30, Tryd.ntmps30
  go_wp2_with (go_at_call 38; refine (rnum_any _ _).mono ?_; rintro e w' ⟨rfl, rfl⟩)
  go_ret
  exact ⟨rfl, rfl⟩
theorem true_any (a : Nat) (w : World) (ha : a < 2 ^ 64) :
    Calls Tryd.prog 31 #[.int .u64 (a : Int)] w fun e w' => e = .returned (.bool (trueW a)) ∧ w = w' := by
  have ho : (FloatKind.f64.format.order a 0 != some Ordering.eq) = trueW a := order_true a ha
  go_enter Tryd.func31, Tryd.ntmps31
  go_wp2_with (go_at_call 37; refine (num_any _ _).mono ?_; rintro e w' ⟨rfl, rfl⟩)
  go_ret
  exact ⟨rfl, rfl⟩
theorem twice_test (a : Nat) : (IntKind.u64.wrap ((a : Int) * 2) != 0) = trueW a := by
  have e : IntKind.u64.wrap ((a : Int) * 2) = ((a : Int) * 2) % 18446744073709551616 := by simp [IntKind.wrap, IntKind.bits, IntKind.signed]
  rw [e]
  unfold trueW
  rw [Bool.eq_iff_iff]
  simp only [bne_iff_ne, ne_eq, decide_eq_true_eq]
  omega
theorem rtrue_any (a : Nat) (w : World) :
    Calls Tryd.prog 32 #[.int .u64 (a : Int)] w fun e w' => e = .returned (.bool (trueW a)) ∧ w = w' := by
  have ht := twice_test a
  go_enter Tryd.func32, Tryd.ntmps32
  go_wp2
  go_ret
  exact ⟨rfl, rfl⟩
theorem rank_any (a : Nat) (w : World) (h : a < 2 ^ 64) :
    Calls Tryd.prog 33 #[.int .u64 (a : Int)] w fun e w' => e = .returned (.int .u64 (rankW a)) ∧ w = w' := by
  by_cases c : a < 2 ^ 63
  · have ho := top_or a h c
    have hz : (bits .and .u64 (a : Int) 9223372036854775808 != 0) = false := by rw [top_and a h, if_pos c]; rfl
    go_enter Tryd.func33, Tryd.ntmps33
    go_wp2
    go_ret
    exact ⟨rfl, rfl⟩
  · have ho := all_xor a h c
    have hz : (bits .and .u64 (a : Int) 9223372036854775808 != 0) = true := by rw [top_and a h, if_neg c]; rfl
    go_enter Tryd.func33, Tryd.ntmps33
    go_wp2
    go_ret
    exact ⟨rfl, rfl⟩
theorem rrank_any (a : Nat) (w : World) (h : a < 2 ^ 64) :
    Calls Tryd.prog 34 #[.int .u64 (a : Int)] w fun e w' => e = .returned (.int .u64 (rankW a)) ∧ w = w' := by
  by_cases c : a < 2 ^ 63
  · have ho := top_or a h c
    have hz : ((a : Int) / 9223372036854775808 == 1) = false := by rw [show (a : Int) / 9223372036854775808 = 0 by omega]; rfl
    go_enter Tryd.func34, Tryd.ntmps34
    go_wp2
    go_ret
    exact ⟨rfl, rfl⟩
  · have ho := all_xor a h c
    have hz : ((a : Int) / 9223372036854775808 == 1) = true := by rw [show (a : Int) / 9223372036854775808 = 1 by omega]; rfl
    go_enter Tryd.func34, Tryd.ntmps34
    go_wp2
    go_ret
    exact ⟨rfl, rfl⟩

/-! ### min, max -/
theorem min_run (ts : Array TypeId) (t : TypeId) (a b : Nat) (ha : a < 2 ^ 64) (hb : b < 2 ^ 64) (w : World) :
    ∃ r w', (Builtin.min_ ts t #[.float .f64 a, .float .f64 b]).run Tryd.prog w = .ok (.float .f64 r) w' ∧ r < 2 ^ 64 ∧ wordW r = minW a b ∧ (w' = w ∨ w' = w.drew) := by
  have ho : FloatKind.f64.format.order a b = _ := order_eq a b ha hb
  cases c : nanW a || nanW b
  · rw [c, if_neg Bool.false_ne_true] at ho
    rw [Bool.or_eq_false_iff] at c
    have hp := min_pick a b ha hb c.1 c.2
    have hn : (FloatKind.f64.decode a).neg = negW a := neg_neg_read a ha
    refine ⟨minW a b, w, ?_, ?_, ?_, Or.inl rfl⟩
    · rw [← hp]
      cases d : compare (svalW a) (svalW b) <;> (rw [d] at ho; simp [Builtin.min_, Builtin.min2, ho, hn])
    · unfold minW; rw [c.1, c.2]; simp only [Bool.or_self, Bool.false_eq_true, if_false]; split <;> assumption
    · unfold minW; rw [c.1, c.2]; simp only [Bool.or_self, Bool.false_eq_true, if_false]
      split
      · exact wordW_num c.2
      · exact wordW_num c.1
  · rw [c, if_pos rfl] at ho
    have hm : minW a b = noneW := by unfold minW; rw [c]; rfl
    refine ⟨_, w.drew, ?_, (nan_draw' a b false (w.tape w.drawn (.nanMinMax .f64 false a b))).2, (wordW_nan (nan_draw' a b false (w.tape w.drawn (.nanMinMax .f64 false a b))).1).trans hm.symm, Or.inr rfl⟩
    simp [Builtin.min_, Builtin.min2, ho, Question.forced]
theorem max_run (ts : Array TypeId) (t : TypeId) (a b : Nat) (ha : a < 2 ^ 64) (hb : b < 2 ^ 64) (w : World) :
    ∃ r w', (Builtin.max_ ts t #[.float .f64 a, .float .f64 b]).run Tryd.prog w = .ok (.float .f64 r) w' ∧ r < 2 ^ 64 ∧ wordW r = maxW a b ∧ (w' = w ∨ w' = w.drew) := by
  have ho : FloatKind.f64.format.order a b = _ := order_eq a b ha hb
  cases c : nanW a || nanW b
  · rw [c, if_neg Bool.false_ne_true] at ho
    rw [Bool.or_eq_false_iff] at c
    have hp := max_pick a b ha hb c.1 c.2
    have hn : (FloatKind.f64.decode a).neg = negW a := neg_neg_read a ha
    refine ⟨maxW a b, w, ?_, ?_, ?_, Or.inl rfl⟩
    · rw [← hp]
      cases d : compare (svalW a) (svalW b) <;> (rw [d] at ho; simp [Builtin.max_, Builtin.max2, ho, hn])
    · unfold maxW; rw [c.1, c.2]; simp only [Bool.or_self, Bool.false_eq_true, if_false]; split <;> assumption
    · unfold maxW; rw [c.1, c.2]; simp only [Bool.or_self, Bool.false_eq_true, if_false]
      split
      · exact wordW_num c.2
      · exact wordW_num c.1
  · rw [c, if_pos rfl] at ho
    have hm : maxW a b = noneW := by unfold maxW; rw [c]; rfl
    refine ⟨_, w.drew, ?_, (nan_draw' a b true (w.tape w.drawn (.nanMinMax .f64 true a b))).2, (wordW_nan (nan_draw' a b true (w.tape w.drawn (.nanMinMax .f64 true a b))).1).trans hm.symm, Or.inr rfl⟩
    simp [Builtin.max_, Builtin.max2, ho, Question.forced]
theorem min_any (a b : Nat) (w : World) (ha : a < 2 ^ 64) (hb : b < 2 ^ 64) :
    Calls Tryd.prog 23 #[.int .u64 (a : Int), .int .u64 (b : Int)] w fun e w' => e = .returned (.int .u64 (minW a b)) ∧ On w w' := by
  obtain ⟨r, v, hr, hlt, hw, hv⟩ := min_run #[29, 29] 29 a b ha hb w
  rw [← hw]
  have g := on_of hv
  clear hw hv
  go_enter Tryd.func23, Tryd.ntmps23
  go_wp2_with (first
    | (go_at_call 37; refine (num_any _ _).mono ?_; rintro e w' ⟨rfl, rfl⟩)
    | (go_at_call 39; refine (word_any _ _ hlt).mono ?_; rintro e w' ⟨rfl, rfl⟩))
  go_ret
  exact ⟨rfl, g⟩
theorem max_any (a b : Nat) (w : World) (ha : a < 2 ^ 64) (hb : b < 2 ^ 64) :
    Calls Tryd.prog 25 #[.int .u64 (a : Int), .int .u64 (b : Int)] w fun e w' => e = .returned (.int .u64 (maxW a b)) ∧ On w w' := by
  obtain ⟨r, v, hr, hlt, hw, hv⟩ := max_run #[29, 29] 29 a b ha hb w
  rw [← hw]
  have g := on_of hv
  clear hw hv
  go_enter Tryd.func25, Tryd.ntmps25
  go_wp2_with (first
    | (go_at_call 37; refine (num_any _ _).mono ?_; rintro e w' ⟨rfl, rfl⟩)
    | (go_at_call 39; refine (word_any _ _ hlt).mono ?_; rintro e w' ⟨rfl, rfl⟩))
  go_ret
  exact ⟨rfl, g⟩
theorem rmin_any (a b : Nat) (w : World) (ha : a < 2 ^ 64) (hb : b < 2 ^ 64) :
    Calls Tryd.prog 24 #[.int .u64 (a : Int), .int .u64 (b : Int)] w fun e w' => e = .returned (.int .u64 (minW a b)) ∧ w = w' := by
  cases ca : nanW a
  · cases cb : nanW b
    · by_cases d : rankW b < rankW a
      · have hm : minW a b = b := by unfold minW; rw [ca, cb, if_neg (show ¬ ((false || false) = true) by simp), if_pos d]
        rw [hm]; clear hm
        go_enter Tryd.func24, Tryd.ntmps24
        go_wp2_with (first
    | (go_at_call 46; refine (rnan_any _ _ (by assumption)).mono ?_; rintro e w' ⟨rfl, rfl⟩)
    | (go_at_call 34; refine (rrank_any _ _ (by assumption)).mono ?_; rintro e w' ⟨rfl, rfl⟩))
        go_ret
        exact ⟨rfl, rfl⟩
      · have hm : minW a b = a := by unfold minW; rw [ca, cb, if_neg (show ¬ ((false || false) = true) by simp), if_neg d]
        rw [hm]; clear hm
        go_enter Tryd.func24, Tryd.ntmps24
        go_wp2_with (first
    | (go_at_call 46; refine (rnan_any _ _ (by assumption)).mono ?_; rintro e w' ⟨rfl, rfl⟩)
    | (go_at_call 34; refine (rrank_any _ _ (by assumption)).mono ?_; rintro e w' ⟨rfl, rfl⟩))
        go_ret
        exact ⟨rfl, rfl⟩
    · have hm : minW a b = noneW := by unfold minW; rw [ca, cb]; rfl
      rw [hm]; clear hm
      go_enter Tryd.func24, Tryd.ntmps24
      go_wp2_with (first
    | (go_at_call 46; refine (rnan_any _ _ (by assumption)).mono ?_; rintro e w' ⟨rfl, rfl⟩)
    | (go_at_call 34; refine (rrank_any _ _ (by assumption)).mono ?_; rintro e w' ⟨rfl, rfl⟩))
      go_ret
      exact ⟨rfl, rfl⟩
  · have hm : minW a b = noneW := by unfold minW; rw [ca]; rfl
    rw [hm]; clear hm
    go_enter Tryd.func24, Tryd.ntmps24
    go_wp2_with (first
    | (go_at_call 46; refine (rnan_any _ _ (by assumption)).mono ?_; rintro e w' ⟨rfl, rfl⟩)
    | (go_at_call 34; refine (rrank_any _ _ (by assumption)).mono ?_; rintro e w' ⟨rfl, rfl⟩))
    go_ret
    exact ⟨rfl, rfl⟩
theorem rmax_any (a b : Nat) (w : World) (ha : a < 2 ^ 64) (hb : b < 2 ^ 64) :
    Calls Tryd.prog 26 #[.int .u64 (a : Int), .int .u64 (b : Int)] w fun e w' => e = .returned (.int .u64 (maxW a b)) ∧ w = w' := by
  cases ca : nanW a
  · cases cb : nanW b
    · by_cases d : rankW a < rankW b
      · have hm : maxW a b = b := by unfold maxW; rw [ca, cb, if_neg (show ¬ ((false || false) = true) by simp), if_pos d]
        rw [hm]; clear hm
        go_enter Tryd.func26, Tryd.ntmps26
        go_wp2_with (first
    | (go_at_call 46; refine (rnan_any _ _ (by assumption)).mono ?_; rintro e w' ⟨rfl, rfl⟩)
    | (go_at_call 34; refine (rrank_any _ _ (by assumption)).mono ?_; rintro e w' ⟨rfl, rfl⟩))
        go_ret
        exact ⟨rfl, rfl⟩
      · have hm : maxW a b = a := by unfold maxW; rw [ca, cb, if_neg (show ¬ ((false || false) = true) by simp), if_neg d]
        rw [hm]; clear hm
        go_enter Tryd.func26, Tryd.ntmps26
        go_wp2_with (first
    | (go_at_call 46; refine (rnan_any _ _ (by assumption)).mono ?_; rintro e w' ⟨rfl, rfl⟩)
    | (go_at_call 34; refine (rrank_any _ _ (by assumption)).mono ?_; rintro e w' ⟨rfl, rfl⟩))
        go_ret
        exact ⟨rfl, rfl⟩
    · have hm : maxW a b = noneW := by unfold maxW; rw [ca, cb]; rfl
      rw [hm]; clear hm
      go_enter Tryd.func26, Tryd.ntmps26
      go_wp2_with (first
    | (go_at_call 46; refine (rnan_any _ _ (by assumption)).mono ?_; rintro e w' ⟨rfl, rfl⟩)
    | (go_at_call 34; refine (rrank_any _ _ (by assumption)).mono ?_; rintro e w' ⟨rfl, rfl⟩))
      go_ret
      exact ⟨rfl, rfl⟩
  · have hm : maxW a b = noneW := by unfold maxW; rw [ca]; rfl
    rw [hm]; clear hm
    go_enter Tryd.func26, Tryd.ntmps26
    go_wp2_with (first
    | (go_at_call 46; refine (rnan_any _ _ (by assumption)).mono ?_; rintro e w' ⟨rfl, rfl⟩)
    | (go_at_call 34; refine (rrank_any _ _ (by assumption)).mono ?_; rintro e w' ⟨rfl, rfl⟩))
    go_ret
    exact ⟨rfl, rfl⟩

/-! ### Floors, whole numbers -/
theorem quiet_nan (a t : Nat) (h : nanW a = true) (ht : t = rungW a - 2047 * 2 ^ 52) : nanW (FloatKind.f64.encode (.nan (negW a) (FloatKind.f64.format.quiet t))) = true ∧ FloatKind.f64.encode (.nan (negW a) (FloatKind.f64.format.quiet t)) < 2 ^ 64 := by
  have h1 : 2047 * 2 ^ 52 < rungW a := of_decide_eq_true h
  have h2 : rungW a < 2 ^ 63 := Nat.mod_lt _ (by omega)
  have q : FloatKind.f64.format.quiet t = t ||| 2 ^ 51 := rfl
  have lt : t ||| 2 ^ 51 < 2 ^ 52 := Nat.or_lt_two_pow (by omega) (by omega)
  have ge : 2 ^ 51 ≤ t ||| 2 ^ 51 := Nat.right_le_or
  rw [q]
  generalize t ||| 2 ^ 51 = z at lt ge
  show nanW (Ieee.double.word (negW a) (Ieee.double.infRung + z % Ieee.double.binade)) = true ∧ Ieee.double.word (negW a) (Ieee.double.infRung + z % Ieee.double.binade) < 2 ^ 64
  rw [inf_double, binade_double]
  unfold nanW Ieee.Format.word
  rw [sw_double]
  cases negW a
  · simp only [Bool.false_eq_true, if_false, decide_eq_true_eq]; omega
  · simp only [if_true, decide_eq_true_eq]; omega
theorem arch_eq (a : Nat) (w : World) : (callFunc 56 #[.float .f64 a]).run Tryd.prog w = ((Extern.MathFloor.toIntegral "math.archFloor" .down #[.float .f64 a]).run Tryd.prog w).andThen fun v w => .ok (.value v) w := by
  rw [run_callFunc_extern Tryd.func56 (by kernel_rfl) (by kernel_rfl) (by kernel_rfl) (e := Extern.MathFloor.toIntegral "math.archFloor" .down) (by kernel_rfl)]
theorem toI_num (n : String) (way : Ieee.Toward) (x : Nat) (s : Bool) (m : Nat) (i : Int) (h : FloatKind.f64.decode x = .number s m i) : Extern.MathFloor.toIntegral n way #[.float .f64 x] = pure (.float .f64 (FloatKind.f64.encode ((Ieee.Datum.number s m i).integral way))) := by
  show (match FloatKind.f64.decode x with | .nan s t => _ | d => _ : Sem Value) = _
  rw [h]
theorem toI_inf (n : String) (way : Ieee.Toward) (x : Nat) (s : Bool) (h : FloatKind.f64.decode x = .infinity s) : Extern.MathFloor.toIntegral n way #[.float .f64 x] = pure (.float .f64 (FloatKind.f64.encode ((Ieee.Datum.infinity s).integral way))) := by
  show (match FloatKind.f64.decode x with | .nan s t => _ | d => _ : Sem Value) = _
  rw [h]
theorem toI_quiet (n : String) (way : Ieee.Toward) (x : Nat) (s : Bool) (t : Nat) (h : FloatKind.f64.decode x = .nan s t) (c : FloatKind.f64.format.quiet t = t) : Extern.MathFloor.toIntegral n way #[.float .f64 x] = pure (.float .f64 x) := by
  show (match FloatKind.f64.decode x with | .nan s t => _ | d => _ : Sem Value) = _
  rw [h]
  exact if_pos c
theorem toI_nan (n : String) (way : Ieee.Toward) (x : Nat) (s : Bool) (t : Nat) (h : FloatKind.f64.decode x = .nan s t) (c : ¬ FloatKind.f64.format.quiet t = t) : ∃ q : Question, q.forced = false ∧ Extern.MathFloor.toIntegral n way #[.float .f64 x] =
    (do let kept ← choose q
        pure (.float .f64 (if kept == 1 then x else FloatKind.f64.encode (.nan s (FloatKind.f64.format.quiet t))))) := by
  apply Exists.intro
  apply And.intro
  case right =>
    show (match FloatKind.f64.decode x with | .nan s t => _ | d => _ : Sem Value) = _
    rw [h]
    exact if_neg c
  case left => rfl
theorem floor_run (a : Nat) (ha : a < 2 ^ 64) (w : World) :
    ∃ r w', (callFunc 56 #[.float .f64 a]).run Tryd.prog w = .ok (.value (.float .f64 r)) w' ∧ r < 2 ^ 64 ∧ wordW r = floorW a ∧ (w' = w ∨ w' = w.drew) := by
  rw [arch_eq]
  cases c : nanW a
  · have f := floorN_facts a ha c
    refine ⟨floorN a, w, ?_, f.2, ?_, Or.inl rfl⟩
    · have e : FloatKind.f64.encode ((FloatKind.f64.decode a).integral .down) = floorN a := rfl
      have nn : ∀ s t, FloatKind.f64.decode a ≠ .nan s t := by
        intro s t h
        have h' : Ieee.double.read a = .nan s t := h
        by_cases ci : rungW a = 2047 * 2 ^ 52
        · rw [read_inf a ha ci] at h'; cases h'
        · obtain ⟨m, k, e', _⟩ := read_num a ha (by have := notnan_rung c; omega)
          rw [e'] at h'; cases h'
      cases d : FloatKind.f64.decode a with
      | nan s t => exact absurd d (nn s t)
      | number s m i => rw [d] at e; rw [toI_num _ _ _ _ _ _ d, e]; rfl
      | infinity s => rw [d] at e; rw [toI_inf _ _ _ _ d, e]; rfl
    · rw [wordW_num f.1, floorW_num a c]
  · have d : FloatKind.f64.decode a = .nan (negW a) (rungW a - 2047 * 2 ^ 52) := read_nan a ha c
    have fw : floorW a = noneW := by unfold floorW; rw [c]; rfl
    have q := quiet_nan a _ c rfl
    generalize rungW a - 2047 * 2 ^ 52 = T at d q
    by_cases cq : FloatKind.f64.format.quiet T = T
    · refine ⟨a, w, ?_, ha, by rw [wordW_nan c, fw], Or.inl rfl⟩
      rw [toI_quiet _ _ _ _ _ d cq]; rfl
    · obtain ⟨Q, hf, e⟩ := toI_nan "math.archFloor" .down a _ _ d cq
      rw [e]
      refine ⟨(if Q.cut (w.tape w.drawn Q) == 1 then a else FloatKind.f64.encode (.nan (negW a) (FloatKind.f64.format.quiet T))), w.drew, ?_, ?_, ?_, Or.inr rfl⟩
      · simp [hf, Result.andThen]
      · split
        · exact ha
        · exact q.2
      · split
        · rw [wordW_nan c, fw]
        · rw [wordW_nan q.1, fw]
/-- What math.Floor answers at a word: some float of the floor's word. -/
def FloorPost (a : Nat) (w : World) (e : Ending) (w' : World) : Prop := ∃ r, e = .returned (.float .f64 r) ∧ r < 2 ^ 64 ∧ wordW r = floorW a ∧ On w w'
theorem mfloor_any (a : Nat) (w : World) (ha : a < 2 ^ 64) : Calls Tryd.prog 47 #[.float .f64 a] w (FloorPost a w) := by
  obtain ⟨r, v, hr, hlt, hw, hv⟩ := floor_run a ha w
  have g := on_of hv
  have P : FloorPost a w (.returned (.float .f64 r)) v := ⟨r, rfl, hlt, hw, g⟩
  clear hw hv g
  go_enter Tryd.func47, Tryd.ntmps47
  go_wp2
  go_ret
  exact P
/-- At a number the world stays. -/
theorem mfloor_num (a : Nat) (w : World) (ha : a < 2 ^ 64) (c : nanW a = false) : Calls Tryd.prog 47 #[.float .f64 a] w fun e w' => e = .returned (.float .f64 (floorN a)) ∧ w = w' := by
  have hr : (callFunc 56 #[.float .f64 a]).run Tryd.prog w = .ok (.value (.float .f64 (floorN a))) w := by
    rw [arch_eq]
    have e : FloatKind.f64.encode ((FloatKind.f64.decode a).integral .down) = floorN a := rfl
    have nn : ∀ s t, FloatKind.f64.decode a ≠ .nan s t := by
      intro s t h
      have h' : Ieee.double.read a = .nan s t := h
      by_cases ci : rungW a = 2047 * 2 ^ 52
      · rw [read_inf a ha ci] at h'; cases h'
      · obtain ⟨m, k, e', _⟩ := read_num a ha (by have := notnan_rung c; omega)
        rw [e'] at h'; cases h'
    cases d : FloatKind.f64.decode a with
    | nan s t => exact absurd d (nn s t)
    | number s m i => rw [d] at e; rw [toI_num _ _ _ _ _ _ d, e]; rfl
    | infinity s => rw [d] at e; rw [toI_inf _ _ _ _ d, e]; rfl
  clear c
  go_enter Tryd.func47, Tryd.ntmps47
  go_wp2
  go_ret
  exact ⟨rfl, rfl⟩
theorem floor_any (a : Nat) (w : World) (ha : a < 2 ^ 64) :
    Calls Tryd.prog 21 #[.int .u64 (a : Int)] w fun e w' => e = .returned (.int .u64 (floorW a)) ∧ On w w' := by
  go_enter Tryd.func21, Tryd.ntmps21
  go_wp2_with fail
  refine (num_any _ _).mono ?_
  rintro e w' ⟨rfl, rfl⟩
  go_wp2_with fail
  refine (mfloor_any _ _ ha).mono ?_
  rintro e w' ⟨r, rfl, hlt, hw, g⟩
  have HW := Lib.hid hw
  clear hw
  go_wp2_with fail
  refine (word_any _ _ hlt).mono ?_
  rintro e w' ⟨rfl, rfl⟩
  go_wp2_with fail
  go_ret
  exact ⟨ret_u64 HW.out, g⟩
theorem rfloor_any (a : Nat) (w : World) (ha : a < 2 ^ 64) :
    Calls Tryd.prog 22 #[.int .u64 (a : Int)] w fun e w' => e = .returned (.int .u64 (floorW a)) ∧ w = w' := by
  cases c : nanW a
  · have f := floorN_facts a ha c
    have hx : wordW (floorN a) = floorN a := wordW_num f.1
    rw [floorW_num a c]
    go_enter Tryd.func22, Tryd.ntmps22
    go_wp2_with (first
      | (go_at_call 46; refine (rnan_any _ _ ha).mono ?_; rintro e w' ⟨rfl, rfl⟩)
      | (go_at_call 38; refine (rnum_any _ _).mono ?_; rintro e w' ⟨rfl, rfl⟩)
      | (go_at_call 47; refine (mfloor_num _ _ ha c).mono ?_; rintro e w' ⟨rfl, rfl⟩)
      | (go_at_call 36; refine (rword_any _ _ f.2).mono ?_; rintro e w' ⟨rfl, rfl⟩))
    go_ret
    exact ⟨rfl, rfl⟩
  · have fw : floorW a = noneW := by unfold floorW; rw [c]; rfl
    rw [fw]
    clear fw
    go_enter Tryd.func22, Tryd.ntmps22
    go_wp2_with (go_at_call 46; refine (rnan_any _ _ ha).mono ?_; rintro e w' ⟨rfl, rfl⟩)
    go_ret
    exact ⟨rfl, rfl⟩
theorem int_any (n : Int) (w : World) :
    Calls Tryd.prog 40 #[.int .i64 n] w fun e w' => e = .returned (.int .u64 (intW n)) ∧ w = w' := by
  have f := int_lt n
  have hx : wordW (intW n) = intW n := wordW_num f.1
  go_enter Tryd.func40, Tryd.ntmps40
  go_wp2_with (go_at_call 39; refine (word_any _ _ f.2).mono ?_; rintro e w' ⟨rfl, rfl⟩)
  go_ret
  exact ⟨rfl, rfl⟩
theorem rint_any (n : Int) (w : World) :
    Calls Tryd.prog 41 #[.int .i64 n] w fun e w' => e = .returned (.int .u64 (intW n)) ∧ w = w' := by
  have f := int_lt n
  have hx : wordW (intW n) = intW n := wordW_num f.1
  go_enter Tryd.func41, Tryd.ntmps41
  go_wp2_with (go_at_call 36; refine (rword_any _ _ f.2).mono ?_; rintro e w' ⟨rfl, rfl⟩)
  go_ret
  exact ⟨rfl, rfl⟩
end Go.Proofs.YtbkemghabhpdhaaDoor
