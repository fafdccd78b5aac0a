/-
  Numerals, the law own reading of them, and whole numbers as words. Own work, by walks through the landed text and plain facts. Conditions: as each states.
-/
import Derived.Test.YtbkemghabhpdhaaDoorRows
import Derived.Test.YtbkemghabhpdhaaDoorFltText
import Derived.Test.YtbkemghabhpdhaaDoorFltMore
import Derived.WalkKit
import Derived.ProofKit
import Derived.OpenShut
import Derived.Outline
import Derived.Deep.Light
import Derived.Lib.Hide
import Derived.WalkLawsBesides
import Derived.Lib.SmallJoins
namespace Go.Proofs.YtbkemghabhpdhaaDoor
open Go.ChangeShapes Go.WideShapes Go.ChangeAt Go.RowKit
set_option maxRecDepth 100000
theorem word_lt64 (a : Nat) (h : a < 2 ^ 64) : wordW a < 2 ^ 64 := by
  unfold wordW noneW
  split
  · omega
  · exact h
theorem opt_lt64 (op : BinOp) (a b : Nat) : optW (floatBits op .f64 a b) < 2 ^ 64 := by
  cases h : floatBits op .f64 a b with
  | none => show noneW < 2 ^ 64; unfold noneW; omega
  | some r =>
    have := floatBits_wf h
    exact word_lt64 r (by simpa [Lit.wf] using this)
theorem rank_same (a b : Nat) (ha : a < 2 ^ 64) (hb : b < 2 ^ 64) : ((rankW a : Int) == (rankW b : Int)) = ((a : Int) == (b : Int)) := by
  rw [Bool.eq_iff_iff]
  simp only [beq_iff_eq]
  constructor
  · intro h; have := rank_inj ha hb (by omega); omega
  · intro h; have : a = b := by omega
    rw [this]
theorem min_by (a b : Nat) (na : nanW a = false) (nb : nanW b = false) : minW a b = if rankW a < rankW b then a else minW a b := by
  split
  · unfold minW; rw [na, nb, if_neg (show ¬ ((false || false) = true) by simp), if_neg (by omega)]
  · rfl
theorem max_by (a b : Nat) (na : nanW a = false) (nb : nanW b = false) : maxW a b = if rankW a < rankW b then b else maxW a b := by
  split
  · rename_i c; unfold maxW; rw [na, nb, if_neg (show ¬ ((false || false) = true) by simp), if_pos c]
  · rfl
theorem min_by' (a b : Nat) (ha : a < 2 ^ 64) (hb : b < 2 ^ 64) (na : nanW a = false) (nb : nanW b = false) (c : ¬ rankW a < rankW b) : minW a b = b := by
  unfold minW
  rw [na, nb, if_neg (show ¬ ((false || false) = true) by simp)]
  split
  · rfl
  · exact rank_inj ha hb (by omega)
theorem max_by' (a b : Nat) (na : nanW a = false) (nb : nanW b = false) (c : ¬ rankW a < rankW b) : maxW a b = a := by
  unfold maxW
  rw [na, nb, if_neg (show ¬ ((false || false) = true) by simp), if_neg c]
theorem less_rank (a b : Nat) (ha : a < 2 ^ 64) (hb : b < 2 ^ 64) (na : nanW a = false) (nb : nanW b = false) : decide (rankW a < rankW b) = (lessW a b || (decide (a = 9223372036854775808) && decide (b = 0))) := by
  have h := rank_lt a b ha hb
  unfold lessW
  rw [na, nb, Bool.eq_iff_iff]
  simp only [Bool.or_self, Bool.not_false, Bool.true_and, Bool.or_eq_true, Bool.and_eq_true, decide_eq_true_eq]
  exact h
theorem or_facts (a : Nat) (ha : a < 2 ^ 64) : ∃ X : Nat, X < 2 ^ 64 ∧ nanW X = true ∧ bits .or .u64 (bits .or .u64 (a : Int) 9218868437227405312) 1 = (X : Int) := by
  have o1 := or64 a 9218868437227405312 ha (by omega)
  have l1 : a ||| 9218868437227405312 < 2 ^ 64 := Nat.or_lt_two_pow ha (by omega)
  have o2 := or64 (a ||| 9218868437227405312) 1 l1 (by omega)
  have l2 : a ||| 9218868437227405312 ||| 1 < 2 ^ 64 := Nat.or_lt_two_pow l1 (by omega)
  refine ⟨a ||| 9218868437227405312 ||| 1, l2, ?_, ?_⟩
  · unfold nanW
    have m : (a ||| 9218868437227405312 ||| 1) % 2 ^ 63 = (a % 2 ^ 63 ||| 9218868437227405313) := by
      rw [Nat.or_assoc, Nat.or_mod_two_pow]
      rfl
    rw [m]
    have ge : 9218868437227405313 ≤ a % 2 ^ 63 ||| 9218868437227405313 := Nat.right_le_or
    exact decide_eq_true (by omega)
  · have e : bits .or .u64 (a : Int) 9218868437227405312 = ((a ||| 9218868437227405312 : Nat) : Int) := o1
    rw [e]
    exact o2
/-! ### Numerals -/
open Go.Lib in
theorem digits_eq (u : Nat) : decDigits u = if u < 10 then [UInt8.ofNat (48 + u)] else decDigits (u / 10) ++ [UInt8.ofNat (48 + u % 10)] := by
  rw [decDigits]
  split <;> rfl
theorem byte_digit (d : Nat) (h : d < 10) : (UInt8.ofNat (48 + d)).toNat = 48 + d := by
  rw [UInt8.toNat_ofNat']; omega
open Go.Lib in
theorem digits_head (u : Nat) : ∃ c l, decDigits u = c :: l ∧ 48 ≤ c.toNat ∧ c.toNat ≤ 57 ∧ (u = 0 → l = []) ∧ (1 ≤ u → 49 ≤ c.toNat) := by
  induction u using Nat.strongRecOn with
  | ind u ih =>
    rw [digits_eq]
    by_cases h : u < 10
    · rw [if_pos h]
      exact ⟨_, [], rfl, by rw [byte_digit u h]; omega, by rw [byte_digit u h]; omega, fun _ => rfl, fun _ => by rw [byte_digit u h]; omega⟩
    · rw [if_neg h]
      obtain ⟨c, l, e, h1, h2, _, h4⟩ := ih (u / 10) (by omega)
      exact ⟨c, l ++ [UInt8.ofNat (48 + u % 10)], by rw [e]; rfl, h1, h2, fun z => by omega, fun _ => h4 (by omega)⟩
/-- What decimal digits tell. -/
def decVal (l : List UInt8) : Nat := l.foldl (fun n c => n * 10 + (c.toNat - 48)) 0
theorem decVal_snoc (l : List UInt8) (c : UInt8) : decVal (l ++ [c]) = decVal l * 10 + (c.toNat - 48) := by
  unfold decVal; rw [List.foldl_append]; rfl
open Go.Lib in
theorem decVal_digits (u : Nat) : decVal (decDigits u) = u := by
  induction u using Nat.strongRecOn with
  | ind u ih =>
    rw [digits_eq]
    by_cases h : u < 10
    · rw [if_pos h]
      show 0 * 10 + ((UInt8.ofNat (48 + u)).toNat - 48) = u
      rw [byte_digit u h]; omega
    · rw [if_neg h, decVal_snoc, ih (u / 10) (by omega), byte_digit _ (Nat.mod_lt _ (by decide))]
      omega
open Go.Lib in
theorem digits_inj {u v : Nat} (h : decDigits u = decDigits v) : u = v := by
  rw [← decVal_digits u, ← decVal_digits v, h]
open Go.Lib in
theorem digits_all (u : Nat) : ∀ c ∈ decDigits u, 48 ≤ c.toNat ∧ c.toNat ≤ 57 := by
  induction u using Nat.strongRecOn with
  | ind u ih =>
    rw [digits_eq]
    by_cases h : u < 10
    · rw [if_pos h]
      intro c hc
      rw [List.mem_singleton] at hc
      rw [hc, byte_digit u h]; omega
    · rw [if_neg h]
      intro c hc
      rcases List.mem_append.1 hc with x | x
      · exact ih (u / 10) (by omega) c x
      · rw [List.mem_singleton] at x
        rw [x, byte_digit _ (Nat.mod_lt _ (by decide))]; omega
open Go.Lib in
theorem itoa_parts (n : Int) : itoa n = if n < 0 then 45 :: decDigits n.natAbs else decDigits n.natAbs := by
  by_cases c : n < 0
  · rw [if_pos c]
    have := itoa_neg n.natAbs (by omega)
    rwa [show -(n.natAbs : Int) = n by omega] at this
  · rw [if_neg c]
    have := itoa_nonneg n.natAbs
    rwa [show (n.natAbs : Int) = n by omega] at this
open Go.Lib in
theorem itoa_inj {m n : Int} (h : itoa m = itoa n) : m = n := by
  rw [itoa_parts, itoa_parts] at h
  have sep : ∀ u v, decDigits u ≠ 45 :: decDigits v := by
    intro u v e
    obtain ⟨c, l, e', h1, _⟩ := digits_head u
    rw [e'] at e
    obtain ⟨rfl, _⟩ := List.cons.inj e
    exact absurd h1 (by decide)
  by_cases cm : m < 0 <;> by_cases cn : n < 0
  · rw [if_pos cm, if_pos cn] at h
    have := digits_inj (List.cons.inj h).2
    omega
  · rw [if_pos cm, if_neg cn] at h
    exact absurd h.symm (sep _ _)
  · rw [if_neg cm, if_pos cn] at h
    exact absurd h (sep _ _)
  · rw [if_neg cm, if_neg cn] at h
    have := digits_inj h
    omega

/-! ### Texts tell numbers apart -/
/-- Which kind of text it is: by its first two letters. -/
def kindL : List UInt8 → Nat
  | [] => 9
  | c :: l => if c = 110 then 0 else if c = 105 then 1
    else if c = 45 then (match l with | [] => 9 | d :: _ => if d = 105 then 2 else if d = 48 then 3 else 4)
    else (match l with | [] => 4 | d :: _ => if d = 120 then 5 else 4)
open Go.Lib in
theorem kind_digits (u : Nat) : kindL (decDigits u) = 4 := by
  obtain ⟨c, l, e, h1, h2, h3, h4⟩ := digits_head u
  rw [e]
  have a1 : c ≠ 110 := by intro x; subst x; exact absurd h2 (by decide)
  have a2 : c ≠ 105 := by intro x; subst x; exact absurd h2 (by decide)
  have a3 : c ≠ 45 := by intro x; subst x; exact absurd h1 (by decide)
  simp only [kindL, a1, a2, a3, if_false]
  cases l with
  | nil => rfl
  | cons d r =>
    have hd : d ∈ decDigits u := by rw [e]; simp
    have := (digits_all u d hd).2
    have b : d ≠ 120 := by intro x; subst x; exact absurd this (by decide)
    simp only [b, if_false]
open Go.Lib in
theorem kind_itoa (n : Int) : kindL (itoa n) = 4 := by
  rw [itoa_parts]
  by_cases c : n < 0
  · rw [if_pos c]
    obtain ⟨d, l, e, h1, h2, _, h4⟩ := digits_head n.natAbs
    rw [e]
    have h4' := h4 (by omega)
    have a1 : d ≠ 105 := by intro x; subst x; exact absurd h2 (by decide)
    have a2 : d ≠ 48 := by intro x; subst x; exact absurd h4' (by decide)
    show (if d = 105 then 2 else if d = 48 then 3 else 4) = 4
    rw [if_neg a1, if_neg a2]
  · rw [if_neg c]; exact kind_digits _
theorem text_cases (a : Nat) : (nanW a = true ∧ textL a = [110, 97, 110] ∧ kindL (textL a) = 0) ∨ (a = 9218868437227405312 ∧ kindL (textL a) = 1) ∨ (a = 18442240474082181120 ∧ kindL (textL a) = 2) ∨ (a = 9223372036854775808 ∧ kindL (textL a) = 3)
    ∨ (a ≠ 9223372036854775808 ∧ exactB a = true ∧ textL a = Lib.itoa (wholeOf a) ∧ kindL (textL a) = 4) ∨ (textL a = 48 :: 120 :: hexL a 16 ∧ kindL (textL a) = 5) := by
  cases c : nanW a
  · right
    by_cases c1 : a = 9218868437227405312
    · exact Or.inl ⟨c1, by rw [textL_inf c c1]; rfl⟩
    · by_cases c2 : a = 18442240474082181120
      · exact Or.inr (Or.inl ⟨c2, by rw [textL_ninf c c2]; rfl⟩)
      · by_cases c3 : a = 9223372036854775808
        · exact Or.inr (Or.inr (Or.inl ⟨c3, by rw [textL_nz c c3]; rfl⟩))
        · cases c4 : exactB a
          · refine Or.inr (Or.inr (Or.inr (Or.inr ⟨textL_hex c c1 c2 c3 c4, ?_⟩)))
            rw [textL_hex c c1 c2 c3 c4]; rfl
          · refine Or.inr (Or.inr (Or.inr (Or.inl ⟨c3, rfl, textL_dec c c1 c2 c3 c4, ?_⟩)))
            rw [textL_dec c c1 c2 c3 c4]; exact kind_itoa _
  · exact Or.inl ⟨rfl, textL_nan c, by rw [textL_nan c]; rfl⟩
theorem text_inj (a b : Nat) (ha : a < 2 ^ 64) (hb : b < 2 ^ 64) (h : textL a = textL b) : a = b ∨ (nanW a = true ∧ nanW b = true) := by
  have hk : kindL (textL a) = kindL (textL b) := by rw [h]
  rcases text_cases a with ⟨x, _, k⟩ | ⟨x, k⟩ | ⟨x, k⟩ | ⟨x, k⟩ | ⟨x0, x, y, k⟩ | ⟨y, k⟩ <;> rcases text_cases b with ⟨x', _, k'⟩ | ⟨x', k'⟩ | ⟨x', k'⟩ | ⟨x', k'⟩ | ⟨x0', x', y', k'⟩ | ⟨y', k'⟩ <;> first | (exfalso; omega) | skip
  · exact Or.inr ⟨x, x'⟩
  · exact Or.inl (x.trans x'.symm)
  · exact Or.inl (x.trans x'.symm)
  · exact Or.inl (x.trans x'.symm)
  · rw [y, y'] at h
    have e := itoa_inj h
    left
    rw [← exact_back a ha x (by omega), ← exact_back b hb x' (by omega), e]
  · rw [y, y'] at h
    have := (List.cons.inj (List.cons.inj h).2).2
    exact Or.inl (hexL_inj 16 a b (by omega) (by omega) this)
/-! ### The law's own reading of digits -/
open Go.Lib in
theorem digits_len (k : Nat) : ∀ u, u < 10 ^ (k + 1) → (decDigits u).length ≤ k + 1 := by
  induction k with
  | zero => intro u h; rw [digits_eq, if_pos (by omega)]; simp
  | succ k ih =>
    intro u h
    rw [digits_eq]
    split
    · simp
    · rw [List.length_append]
      have : u / 10 < 10 ^ (k + 1) := Nat.div_lt_of_lt_mul (by rw [Nat.mul_comm, ← Nat.pow_succ]; exact h)
      have := ih (u / 10) this
      simp; omega
theorem fold_ge (r : List UInt8) : ∀ x, x ≤ r.foldl (fun n c => n * 10 + (c.toNat - 48)) x := by
  induction r with
  | nil => intro x; exact Nat.le_refl _
  | cons c r ih => intro x; exact Nat.le_trans (show x ≤ x * 10 + (c.toNat - 48) by omega) (ih _)
theorem decVal_take (l : List UInt8) (k : Nat) : decVal (l.take k) ≤ decVal l := by
  have : decVal l = (l.drop k).foldl (fun n c => n * 10 + (c.toNat - 48)) (decVal (l.take k)) := by
    unfold decVal
    rw [← List.foldl_append, List.take_append_drop]
  rw [this]
  exact fold_ge _ _
theorem take_snoc (s : ByteArray) (k : Nat) (h : k < s.size) : s.data.toList.take (k + 1) = s.data.toList.take k ++ [s[k]] := by
  rw [List.take_succ_eq_append_getElem (by simpa using h)]; rfl
theorem mem_byte (s : ByteArray) (k : Nat) (h : k < s.size) : s[k] ∈ s.data.toList := by
  show s.data[k] ∈ s.data.toList
  simp
theorem read_pos (s : ByteArray) (u : Nat) (w : World) (hu : u < 2 ^ 53) (hs : Hid (s.data.toList = Lib.decDigits u)) :
    Calls Tryd.prog 45 #[.string s] w fun e w' => e = .returned (.tuple #[.int .i64 (u : Int), .bool true]) ∧ w = w' := by
  have len : s.size = (Lib.decDigits u).length := by rw [← hs.out]; simp
  have l16 : s.size ≤ 16 := by rw [len]; exact digits_len 15 u (by omega)
  obtain ⟨c, l, hd, h1, h2, h3, h4⟩ := digits_head u
  have l1 : 1 ≤ s.size := by rw [len, hd]; simp
  have h00 : 0 < s.size := l1
  have hc : s[0]'h00 = c := by
    have e : s.data.toList = c :: l := hs.out.trans hd
    show s.data[0]'h00 = c
    rw [← Array.getElem_toList]
    simp only [e, List.getElem_cons_zero]
  have n45 : ((s[0]'h00).toNat : Int) ≠ 45 := by rw [hc]; omega
  have b45 : (((s[0]'h00).toNat : Int) == 45) = false := by simpa using n45
  have b48 : 1 < s.size → (((s[0]'h00).toNat : Int) == 48) = false := by
    intro hl
    have : 1 ≤ u := by
      rcases Nat.eq_zero_or_pos u with z | z
      · exfalso
        have := h3 z
        rw [len, hd, this] at hl
        simp at hl
      · exact z
    have := h4 this
    rw [hc]
    simp
    omega
  have allD : ∀ k (hk : k < s.size), 48 ≤ (s[k]'hk).toNat ∧ (s[k]'hk).toNat ≤ 57 := fun k hk => digits_all u _ (by rw [← hs.out]; exact mem_byte s k hk)
  have AD := Lib.hid allD
  clear allD hd h1 h2 h3 h4 hc n45 len
  have V : Hid (decVal s.data.toList = u) := Lib.hid (by rw [hs.out]; exact decVal_digits u)
  by_cases hl : 1 < s.size
  · have b48 := b48 hl
    go_enter Tryd.func45, Tryd.ntmps45
    go_wp2_with fail
    go_loop [5, 6] (fun vn vi => ∃ k : Nat, k ≤ s.size ∧ vi = .int .i64 k ∧ vn = .int .i64 (decVal (s.data.toList.take k) : Int)) (fun _ vi => s.size - (intOf vi).toNat)
    case atStart => exact ⟨0, by omega, rfl, rfl⟩
    case round =>
      obtain ⟨k, hk, rfl, rfl⟩ := hrel
      have bv : decVal (s.data.toList.take k) ≤ u := by rw [← V.out]; exact decVal_take _ _
      by_cases hlt : k < s.size
      · have hd := AD.out k hlt
        have hd1 := hd.1
        have hd2 := hd.2
        clear hd
        have HS := Lib.hid (show decVal (s.data.toList.take (k + 1)) = decVal (s.data.toList.take k) * 10 + ((s[k]'hlt).toNat - 48) by rw [take_snoc s k hlt, decVal_snoc])
        go_wp2_with fail
        go_round
        case rel => exact ⟨k + 1, by omega, by go_num, by rw [HS.out]; go_num⟩
        case measure => simp [intOf]; omega
      · have HE := Lib.hid (show decVal (s.data.toList.take k) = u by rw [List.take_of_length_le (by simp; omega)]; exact V.out)
        have hu0 := HE.out
        clear HE
        generalize hdv : decVal (s.data.toList.take k) = dv at *
        subst hu0
        clear hdv
        skip
        go_wp2_with fail
        go_ret2
        exact ⟨by rfl, rfl⟩
  · have hsz : s.size = 1 := by omega
    clear b48
    go_enter Tryd.func45, Tryd.ntmps45
    go_wp2_with fail
    go_loop [5, 6] (fun vn vi => ∃ k : Nat, k ≤ s.size ∧ vi = .int .i64 k ∧ vn = .int .i64 (decVal (s.data.toList.take k) : Int)) (fun _ vi => s.size - (intOf vi).toNat)
    case atStart => exact ⟨0, by omega, rfl, rfl⟩
    case round =>
      obtain ⟨k, hk, rfl, rfl⟩ := hrel
      have bv : decVal (s.data.toList.take k) ≤ u := by rw [← V.out]; exact decVal_take _ _
      by_cases hlt : k < s.size
      · have hd := AD.out k hlt
        have hd1 := hd.1
        have hd2 := hd.2
        clear hd
        have HS := Lib.hid (show decVal (s.data.toList.take (k + 1)) = decVal (s.data.toList.take k) * 10 + ((s[k]'hlt).toNat - 48) by rw [take_snoc s k hlt, decVal_snoc])
        go_wp2_with fail
        go_round
        case rel => exact ⟨k + 1, by omega, by go_num, by rw [HS.out]; go_num⟩
        case measure => simp [intOf]; omega
      · have HE := Lib.hid (show decVal (s.data.toList.take k) = u by rw [List.take_of_length_le (by simp; omega)]; exact V.out)
        have hu0 := HE.out
        clear HE
        generalize hdv : decVal (s.data.toList.take k) = dv at *
        subst hu0
        clear hdv
        skip
        go_wp2_with fail
        go_ret2
        exact ⟨by rfl, rfl⟩
theorem read_neg (s t : ByteArray) (u : Nat) (w : World) (hu : u < 2 ^ 53) (u1 : 1 ≤ u) (h0 : Hid (s.data.toList = 45 :: Lib.decDigits u)) (ht : t = s.extract 1 s.size) :
    Calls Tryd.prog 45 #[.string s] w fun e w' => e = .returned (.tuple #[.int .i64 (-(u : Int)), .bool true]) ∧ w = w' := by
  have ssz : 0 < s.size := by
    have : s.size = s.data.toList.length := by simp
    rw [this, h0.out]; simp
  have s45 : (s[0]'ssz) = 45 := by
    show s.data[0]'ssz = 45
    rw [← Array.getElem_toList]
    simp only [h0.out, List.getElem_cons_zero]
  have b45 : (((s[0]'ssz).toNat : Int) == 45) = true := by rw [s45]; rfl
  have hs : Hid (t.data.toList = Lib.decDigits u) := Lib.hid (by
    rw [ht]
    have : (s.extract 1 s.size).data.toList = s.data.toList.drop 1 := by
      simp
      exact List.take_of_length_le (by simp)
    rw [this, h0.out]; rfl)
  have hsl : ∀ W, (Instr.slice 9 (.string s) (some (.int .i64 1)) none none).run Tryd.prog W = .ok (.string t) W := by
    intro W
    rw [ht]
    exact run_slice_string_l W 9 s Tryd.underlying9 .i64 1 (by omega) (by omega)
  clear ht s45
  have len : t.size = (Lib.decDigits u).length := by rw [← hs.out]; simp
  have l16 : t.size ≤ 16 := by rw [len]; exact digits_len 15 u (by omega)
  obtain ⟨c, l, hd, h1, h2, h3, h4⟩ := digits_head u
  have l1 : 1 ≤ t.size := by rw [len, hd]; simp
  have h00 : 0 < t.size := l1
  have hc : t[0]'h00 = c := by
    have e : t.data.toList = c :: l := hs.out.trans hd
    show t.data[0]'h00 = c
    rw [← Array.getElem_toList]
    simp only [e, List.getElem_cons_zero]
  have b48 : 1 < t.size → (((t[0]'h00).toNat : Int) == 48) = false := by
    intro hl
    have : 1 ≤ u := by
      rcases Nat.eq_zero_or_pos u with z | z
      · exfalso
        have := h3 z
        rw [len, hd, this] at hl
        simp at hl
      · exact z
    have := h4 this
    rw [hc]
    simp
    omega
  have allD : ∀ k (hk : k < t.size), 48 ≤ (t[k]'hk).toNat ∧ (t[k]'hk).toNat ≤ 57 := fun k hk => digits_all u _ (by rw [← hs.out]; exact mem_byte t k hk)
  have AD := Lib.hid allD
  clear allD hd h1 h2 h3 h4 hc len
  have V : Hid (decVal t.data.toList = u) := Lib.hid (by rw [hs.out]; exact decVal_digits u)
  by_cases hl : 1 < t.size
  · have b48 := b48 hl
    go_enter Tryd.func45, Tryd.ntmps45
    go_wp2_with fail
    go_loop [5, 6] (fun vn vi => ∃ k : Nat, k ≤ t.size ∧ vi = .int .i64 k ∧ vn = .int .i64 (decVal (t.data.toList.take k) : Int)) (fun _ vi => t.size - (intOf vi).toNat)
    case atStart => exact ⟨0, by omega, rfl, rfl⟩
    case round =>
      obtain ⟨k, hk, rfl, rfl⟩ := hrel
      have bv : decVal (t.data.toList.take k) ≤ u := by rw [← V.out]; exact decVal_take _ _
      by_cases hlt : k < t.size
      · have hd := AD.out k hlt
        have hd1 := hd.1
        have hd2 := hd.2
        clear hd
        have HS := Lib.hid (show decVal (t.data.toList.take (k + 1)) = decVal (t.data.toList.take k) * 10 + ((t[k]'hlt).toNat - 48) by rw [take_snoc t k hlt, decVal_snoc])
        go_wp2_with fail
        go_round
        case rel => exact ⟨k + 1, by omega, by go_num, by rw [HS.out]; go_num⟩
        case measure => simp [intOf]; omega
      · have HE := Lib.hid (show decVal (t.data.toList.take k) = u by rw [List.take_of_length_le (by simp; omega)]; exact V.out)
        have hu0 := HE.out
        clear HE
        generalize hdv : decVal (t.data.toList.take k) = dv at *
        subst hu0
        clear hdv
        have dp : decide (0 < dv) = true := decide_eq_true u1
        go_wp2_with fail
        go_ret2
        exact ⟨by rfl, rfl⟩
  · have hsz : t.size = 1 := by omega
    clear b48
    go_enter Tryd.func45, Tryd.ntmps45
    go_wp2_with fail
    go_loop [5, 6] (fun vn vi => ∃ k : Nat, k ≤ t.size ∧ vi = .int .i64 k ∧ vn = .int .i64 (decVal (t.data.toList.take k) : Int)) (fun _ vi => t.size - (intOf vi).toNat)
    case atStart => exact ⟨0, by omega, rfl, rfl⟩
    case round =>
      obtain ⟨k, hk, rfl, rfl⟩ := hrel
      have bv : decVal (t.data.toList.take k) ≤ u := by rw [← V.out]; exact decVal_take _ _
      by_cases hlt : k < t.size
      · have hd := AD.out k hlt
        have hd1 := hd.1
        have hd2 := hd.2
        clear hd
        have HS := Lib.hid (show decVal (t.data.toList.take (k + 1)) = decVal (t.data.toList.take k) * 10 + ((t[k]'hlt).toNat - 48) by rw [take_snoc t k hlt, decVal_snoc])
        go_wp2_with fail
        go_round
        case rel => exact ⟨k + 1, by omega, by go_num, by rw [HS.out]; go_num⟩
        case measure => simp [intOf]; omega
      · have HE := Lib.hid (show decVal (t.data.toList.take k) = u by rw [List.take_of_length_le (by simp; omega)]; exact V.out)
        have hu0 := HE.out
        clear HE
        generalize hdv : decVal (t.data.toList.take k) = dv at *
        subst hu0
        clear hdv
        have dp : decide (0 < dv) = true := decide_eq_true u1
        go_wp2_with fail
        go_ret2
        exact ⟨by rfl, rfl⟩
end Go.Proofs.YtbkemghabhpdhaaDoor
