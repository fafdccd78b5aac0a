/-
  What each function of package chain answers, of an arena whose words are known (Ar). Own work; each is proved by a walk through the landed text. Conditions: as each states.
-/
import Derived.Test.YtcndilpaijapkaaGreatRows
import Derived.Deep.DeepCutAuto
import Derived.Test.YtcndilpaijapkaaGreatJArena
import Derived.Test.YtcndilpaijapkaaGreatJInts
import Derived.Test.YtcndilpaijapkaaGreatJMath
namespace Go.Proofs.YtcndilpaijapkaaGreat
open Go.ChangeShapes Go.WideShapes Go.ChangeAt Go.RowKit
set_option maxRecDepth 100000

/-! ### isHead -/
theorem head_yes {p g : Nat} {ws : List Nat} (h : Nat) (w : World) (a : Ar w p g ws) (hl : h ≤ ws.length) :
    Calls Tryz.prog 112 #[ptr p, .int .i64 (h : Int)] w fun e w' => e = .returned (.bool true) ∧ w = w' := by
  have c0 : (0 : Int) ≤ (h : Int) := by omega
  have c1 : (h : Int) ≤ (ws.length : Int) := by omega
  go_enter Tryz.func112, Tryz.ntmps112
  go_wp2_with fail
  refine (arLen_any _ a).mono ?_
  rintro e w' ⟨rfl, rfl⟩
  go_wp2_with fail
  go_ret
  exact ⟨rfl, rfl⟩
theorem head_no {p g : Nat} {ws : List Nat} (h : Int) (w : World) (a : Ar w p g ws) (hl : h < 0 ∨ (ws.length : Int) < h) :
    Calls Tryz.prog 112 #[ptr p, .int .i64 h] w fun e w' => e = .returned (.bool false) ∧ w = w' := by
  by_cases c0 : h < 0
  · clear hl
    go_enter Tryz.func112, Tryz.ntmps112
    go_wp2_with fail
    go_ret
    exact ⟨rfl, rfl⟩
  · have c1 : (0 : Int) ≤ h := by omega
    have c2 : decide (h ≤ (ws.length : Int)) = false := decide_eq_false (by omega)
    clear hl c0
    go_enter Tryz.func112, Tryz.ntmps112
    go_wp2_with fail
    refine (arLen_any _ a).mono ?_
    rintro e w' ⟨rfl, rfl⟩
    go_wp2_with fail
    go_ret
    exact ⟨rfl, rfl⟩

/-! ### Push -/
theorem push_nil (h k : Int) (w : World) : Calls Tryz.prog 136 #[.pointer none, .int .i64 h, .int .i64 k] w fun e w' => e = .returned (.tuple #[.int .i64 0, .int .i64 2]) ∧ w = w' := by
  go_enter Tryz.func136, Tryz.ntmps136
  go_wp2_with fail
  go_ret2
  exact ⟨rfl, rfl⟩
theorem push_head {p g : Nat} {ws : List Nat} (h k : Int) (w : World) (a : Ar w p g ws) (hl : h < 0 ∨ (ws.length : Int) < h) :
    Calls Tryz.prog 136 #[ptr p, .int .i64 h, .int .i64 k] w fun e w' => e = .returned (.tuple #[.int .i64 0, .int .i64 1]) ∧ w = w' := by
  have H := Lib.hid hl
  clear hl
  go_enter Tryz.func136, Tryz.ntmps136
  go_wp2_with fail
  refine (head_no _ _ a H.out).mono ?_
  rintro e w' ⟨rfl, rfl⟩
  go_wp2_with fail
  go_ret2
  exact ⟨rfl, rfl⟩
theorem wrap_head (h : Nat) (hl : h ≤ 16384) : IntKind.u64.wrap (h : Int) = (h : Int) := IntWalk.u64_in _ (by omega)
theorem push_at {p g : Nat} {ws : List Nat} (h : Nat) (k : Int) (w : World) (a : Ar w p g ws) (hl : h ≤ ws.length) (hk : k < 0 ∨ (ws.length : Int) ≤ k) (b0 : -9223372036854775808 ≤ k) (b1 : k ≤ 9223372036854775807) :
    Calls Tryz.prog 136 #[ptr p, .int .i64 (h : Int), .int .i64 k] w fun e w' => e = .returned (.tuple #[.int .i64 0, .int .i64 1]) ∧ w = w' := by
  have T := Lib.hid (show thereB ws.length k 1 = false from decide_eq_false (by omega))
  have hw := wrap_head h (by have := a.big; omega)
  clear hk
  go_enter Tryz.func136, Tryz.ntmps136
  go_wp2_with fail
  refine (head_yes _ _ a hl).mono ?_
  rintro e w' ⟨rfl, rfl⟩
  go_wp2_with fail
  refine (store_bad _ _ _ a T.out b0 b1).mono ?_
  rintro e w' ⟨rfl, rfl⟩
  go_wp2_with fail
  go_ret2
  exact ⟨rfl, rfl⟩
theorem push_ok {p g : Nat} {ws : List Nat} (h k : Nat) (w : World) (a : Ar w p g ws) (hl : h ≤ ws.length) (hk : k < ws.length) :
    Calls Tryz.prog 136 #[ptr p, .int .i64 (h : Int), .int .i64 (k : Int)] w fun e w' => e = .returned (.tuple #[.int .i64 ((k : Int) + 1), .int .i64 0]) ∧ Ar w' p g (ws.set k h) ∧ Kept (Only g) w w' := by
  have hb := a.big
  have hw := wrap_head h (by omega)
  have hs := Lib.hid (store_ok k h w a hk (by omega))
  go_enter Tryz.func136, Tryz.ntmps136
  go_wp2_with fail
  refine (head_yes _ _ a hl).mono ?_
  rintro e w' ⟨rfl, rfl⟩
  go_wp2_with fail
  refine hs.out.mono ?_
  rintro e w1 ⟨rfl, a1, k1⟩
  have A1 := Lib.hid a1
  have K1 := Lib.hid k1
  clear a1 k1 hs a
  go_wp2_with fail
  go_ret2
  exact ⟨rfl, A1.out, K1.out⟩

/-! ### Pop -/
/-- What Pop answers. -/
def popV (ws : List Nat) (h : Int) : Int × Int × Int :=
  if h = 0 then (0, 0, 2) else if h < 0 ∨ (ws.length : Int) < h then (0, 0, 1) else
  if ws.length < ws.getD (h.toNat - 1) 0 then (0, 0, 6) else (h - 1, (ws.getD (h.toNat - 1) 0 : Nat), 0)
theorem popV_ok (ws : List Nat) (k x : Nat) (hx : ws[k]? = some x) (hl : x ≤ ws.length) : popV ws ((k : Int) + 1) = ((k : Int), (x : Int), 0) := by
  have hk := (List.getElem?_eq_some_iff.1 hx).1
  unfold popV
  rw [if_neg (by omega), if_neg (by omega), show ((k : Int) + 1).toNat - 1 = k by omega, List.getD_eq_getElem?_getD, hx, Option.getD_some, if_neg (by omega)]
  congr 1
  omega
theorem popV_form (ws : List Nat) (k x : Nat) (hx : ws[k]? = some x) (hl : ws.length < x) : popV ws ((k : Int) + 1) = (0, 0, 6) := by
  have hk := (List.getElem?_eq_some_iff.1 hx).1
  unfold popV
  rw [if_neg (by omega), if_neg (by omega), show ((k : Int) + 1).toNat - 1 = k by omega, List.getD_eq_getElem?_getD, hx, Option.getD_some, if_pos hl]
/-- The ways of a head. -/
theorem pop_ways (ws : List Nat) (h : Int) : h = 0 ∨ (h < 0 ∨ (ws.length : Int) < h) ∨ ∃ k x : Nat, h = (k : Int) + 1 ∧ ws[k]? = some x := by
  by_cases c0 : h = 0
  · exact .inl c0
  · by_cases c1 : h < 0 ∨ (ws.length : Int) < h
    · exact .inr (.inl c1)
    · refine .inr (.inr ⟨h.toNat - 1, ws[h.toNat - 1]'(by omega), by omega, List.getElem?_eq_getElem _⟩)
theorem popV_in (ws : List Nat) (h : Int) : 0 ≤ (popV ws h).2.1 ∧ (popV ws h).2.1 ≤ (ws.length : Int) := by
  unfold popV
  split
  · exact ⟨by simp, by simp⟩
  · split
    · exact ⟨by simp, by simp⟩
    · split
      · exact ⟨by simp, by simp⟩
      · rename_i hx; exact ⟨by simp, by simp only []; omega⟩
theorem pop_nil (h : Int) (w : World) : Calls Tryz.prog 114 #[.pointer none, .int .i64 h] w fun e w' => e = .returned (.tuple #[.int .i64 0, .int .i64 0, .int .i64 2]) ∧ w = w' := by
  go_enter Tryz.func114, Tryz.ntmps114
  go_wp2_with fail
  go_ret3
  exact ⟨rfl, rfl⟩
theorem pop_zero {p : Nat} (w : World) : Calls Tryz.prog 114 #[ptr p, .int .i64 0] w fun e w' => e = .returned (.tuple #[.int .i64 0, .int .i64 0, .int .i64 2]) ∧ w = w' := by
  go_enter Tryz.func114, Tryz.ntmps114
  go_wp2_with fail
  go_ret3
  exact ⟨rfl, rfl⟩
theorem pop_bad {p g : Nat} {ws : List Nat} (h : Int) (w : World) (a : Ar w p g ws) (hl : h < 0 ∨ (ws.length : Int) < h) :
    Calls Tryz.prog 114 #[ptr p, .int .i64 h] w fun e w' => e = .returned (.tuple #[.int .i64 0, .int .i64 0, .int .i64 1]) ∧ w = w' := by
  have H := Lib.hid hl
  have c : ¬ h = 0 := by omega
  clear hl
  go_enter Tryz.func114, Tryz.ntmps114
  go_wp2_with fail
  refine (head_no _ _ a H.out).mono ?_
  rintro e w' ⟨rfl, rfl⟩
  go_wp2_with fail
  go_ret3
  exact ⟨rfl, rfl⟩
theorem pop_form {p g : Nat} {ws : List Nat} (k x : Nat) (w : World) (a : Ar w p g ws) (hx : ws[k]? = some x) (hl : ws.length < x) :
    Calls Tryz.prog 114 #[ptr p, .int .i64 ((k : Int) + 1)] w fun e w' => e = .returned (.tuple #[.int .i64 0, .int .i64 0, .int .i64 6]) ∧ w = w' := by
  have hk := get_lt hx
  have hb := a.big
  have hy := Lib.hid (head_yes (k + 1) w a hk)
  have HX := Lib.hid hx
  have hw := wrap_head ws.length (by omega)
  have c : ¬ (k : Int) + 1 = 0 := by omega
  have c1 : (ws.length : Int) < (x : Int) := by omega
  clear hx
  go_enter Tryz.func114, Tryz.ntmps114
  go_wp2_with fail
  refine hy.out.mono ?_
  rintro e w' ⟨rfl, rfl⟩
  go_wp2_with fail
  refine (load_ok k x _ a HX.out).mono ?_
  rintro e w' ⟨rfl, rfl⟩
  go_wp2_with fail
  refine (arLen_any _ a).mono ?_
  rintro e w' ⟨rfl, rfl⟩
  go_wp2_with fail
  go_ret3
  exact ⟨rfl, rfl⟩
theorem pop_ok {p g : Nat} {ws : List Nat} (k x : Nat) (w : World) (a : Ar w p g ws) (hx : ws[k]? = some x) (hl : x ≤ ws.length) :
    Calls Tryz.prog 114 #[ptr p, .int .i64 ((k : Int) + 1)] w fun e w' => e = .returned (.tuple #[.int .i64 (k : Int), .int .i64 (x : Int), .int .i64 0]) ∧ w = w' := by
  have hk := get_lt hx
  have hb := a.big
  have hy := Lib.hid (head_yes (k + 1) w a hk)
  have HX := Lib.hid hx
  have hw := wrap_head ws.length (by omega)
  have hv : IntKind.i64.wrap (x : Int) = (x : Int) := IntWalk.i64_in _ (by omega)
  have c : ¬ (k : Int) + 1 = 0 := by omega
  have c1 : ¬ (ws.length : Int) < (x : Int) := by omega
  clear hx
  go_enter Tryz.func114, Tryz.ntmps114
  go_wp2_with fail
  refine hy.out.mono ?_
  rintro e w' ⟨rfl, rfl⟩
  go_wp2_with fail
  refine (load_ok k x _ a HX.out).mono ?_
  rintro e w' ⟨rfl, rfl⟩
  go_wp2_with fail
  refine (arLen_any _ a).mono ?_
  rintro e w' ⟨rfl, rfl⟩
  go_wp2_with fail
  go_ret3
  exact ⟨rfl, rfl⟩
theorem pop_any {p g : Nat} {ws : List Nat} (h : Int) (w : World) (a : Ar w p g ws) :
    Calls Tryz.prog 114 #[ptr p, .int .i64 h] w fun e w' => e = .returned (.tuple #[.int .i64 (popV ws h).1, .int .i64 (popV ws h).2.1, .int .i64 (popV ws h).2.2]) ∧ w = w' := by
  rcases pop_ways ws h with rfl | c | ⟨k, x, rfl, hx⟩
  · exact pop_zero w
  · have e : popV ws h = (0, 0, 1) := by unfold popV; rw [if_neg (by omega), if_pos c]
    rw [e]
    exact pop_bad h w a c
  · by_cases d : x ≤ ws.length
    · rw [popV_ok ws k x hx d]
      exact pop_ok k x w a hx d
    · rw [popV_form ws k x hx (by omega)]
      exact pop_form k x w a hx (by omega)

/-! ### Walk -/
/-- What Walk answers of a head that may be. -/
def WalkPost (r : Option (List Nat)) (w : World) (e : Ending) (w' : World) : Prop :=
  (∃ l v, r = some l ∧ e = .returned (.tuple #[v, .int .i64 0]) ∧ MadeI (NI l) w v w') ∨ (r = none ∧ e = .returned (.tuple #[.slice none 0 0, .int .i64 6]) ∧ Kept Old w w')
theorem walk_nil (h m : Int) (w : World) : Calls Tryz.prog 69 #[.pointer none, .int .i64 h, .int .i64 m] w fun e w' => e = .returned (.tuple #[.slice none 0 0, .int .i64 2]) ∧ w = w' := by
  go_enter Tryz.func69, Tryz.ntmps69
  go_wp2_with fail
  go_ret2
  exact ⟨rfl, rfl⟩
theorem walk_bad {p g : Nat} {ws : List Nat} (h m : Int) (w : World) (a : Ar w p g ws) (hl : h < 0 ∨ (ws.length : Int) < h) :
    Calls Tryz.prog 69 #[ptr p, .int .i64 h, .int .i64 m] w fun e w' => e = .returned (.tuple #[.slice none 0 0, .int .i64 1]) ∧ w = w' := by
  have H := Lib.hid hl
  clear hl
  go_enter Tryz.func69, Tryz.ntmps69
  go_wp2_with fail
  refine (head_no _ _ a H.out).mono ?_
  rintro e w' ⟨rfl, rfl⟩
  go_wp2_with fail
  go_ret2
  exact ⟨rfl, rfl⟩
/-- How far a walk has come: the addresses told, the head of the rest. -/
structure Come (ws : List Nat) (M h0 : Nat) (w : World) (acc : List Nat) (h : Nat) (v : Value) (W : World) : Prop where
  own : OwI W w.heap.size v acc.length (NI acc)
  kept : Kept Old w W
  le : h ≤ ws.length
  few : acc.length ≤ M
  rest : walkL ws M h0 = (walkL ws (M - acc.length) h).map (acc ++ ·)
theorem Come.full {ws : List Nat} {M h0 h : Nat} {w W : World} {acc : List Nat} {v : Value} (c : Come ws M h0 w acc (h + 1) v W) (hm : M ≤ acc.length) : walkL ws M h0 = none := by
  rw [c.rest, Nat.sub_eq_zero_of_le hm, walkL_no]; rfl
theorem Come.done {ws : List Nat} {M h0 : Nat} {w W : World} {acc : List Nat} {v : Value} (c : Come ws M h0 w acc 0 v W) : walkL ws M h0 = some acc := by
  rw [c.rest, walkL_zero]; simp
theorem Come.form {ws : List Nat} {M h0 h x : Nat} {w W : World} {acc : List Nat} {v : Value} (c : Come ws M h0 w acc (h + 1) v W) (hm : acc.length < M) (hx : ws[h]? = some x) (hl : ws.length < x) : walkL ws M h0 = none := by
  obtain ⟨d, hd⟩ : ∃ d, M - acc.length = d + 1 := ⟨M - acc.length - 1, by omega⟩
  rw [c.rest, hd, walkL_succ ws d h x hx, if_neg (by omega)]; rfl
theorem Come.next {ws : List Nat} {M h0 h x : Nat} {w W W' : World} {acc : List Nat} {v v' : Value} (c : Come ws M h0 w acc (h + 1) v W) (hm : acc.length < M) (hx : ws[h]? = some x) (hl : x ≤ ws.length)
    (o : OwI W' w.heap.size v' (acc.length + 1) (NI acc ++ [(h : Int)])) (k : Kept Old w W') : Come ws M h0 w (acc ++ [h]) x v' W' := by
  obtain ⟨d, hd⟩ : ∃ d, M - acc.length = d + 1 := ⟨M - acc.length - 1, by omega⟩
  refine ⟨by rw [List.length_append, NI_append]; exact o, k, hl, by simp; omega, ?_⟩
  rw [c.rest, hd, walkL_succ ws d h x hx, if_pos hl, show M - (acc ++ [h]).length = d by simp; omega, Option.map_map]
  congr 1
  funext l
  simp
/-- The length of a slice. -/
def lenV : Value → Nat
  | .slice _ n _ => n
  | _ => 0
/-- The loop of Walk. -/
theorem walk_any {p g : Nat} {ws : List Nat} (h : Nat) (m : Int) (w : World) (a : Ar w p g ws) (hl : h ≤ ws.length) (b0 : -9223372036854775808 ≤ m) (b1 : m ≤ 9223372036854775807) :
    Calls Tryz.prog 69 #[ptr p, .int .i64 (h : Int), .int .i64 m] w (WalkPost (walkL ws m.toNat h) w) := by
  have hb := a.big
  have A0 := Lib.hid a
  have hy := Lib.hid (head_yes h w a hl)
  have E := (show walkL ws (min m (ws.length : Int)).toNat h = walkL ws m.toNat h by rw [show (min m (ws.length : Int)).toNat = min m.toNat ws.length by omega]; exact walkL_cap _ _ _)
  generalize walkL ws m.toNat h = r at E
  have HE := Lib.hid E
  clear a E
  go_enter Tryz.func69, Tryz.ntmps69
  go_wp2_with fail
  refine hy.out.mono ?_
  rintro e w' ⟨rfl, rfl⟩
  go_upto_region 5 with fail
  go_cut [2] (fun v2 wx => v2 = .int .i64 (min m (ws.length : Int)) ∧ w = wx)
  case first =>
    go_wp2_with fail
    refine (arLen_any _ A0.out).mono ?_
    rintro e w' ⟨rfl, rfl⟩
    go_wp2_with fail
    all_goals (go_meet; exact ⟨by first | rfl | (congr 1; omega), rfl⟩)
  case rest =>
    obtain ⟨rfl, rfl⟩ := hcut
    obtain ⟨q, hq⟩ : ∃ q, min m (ws.length : Int) = q := ⟨_, rfl⟩
    have q1 : q ≤ (ws.length : Int) := by omega
    have q2 : -9223372036854775808 ≤ q := by omega
    rw [hq] at HE ⊢
    clear hq hy
    have S := Lib.hid (show Come ws q.toNat h w [] h (.slice (some ⟨w.heap.size, 0, none⟩) 0 0) (w.alloc (.cells #[] 3)) from
      ⟨OwI.made w w.heap.size 0 #[] (Nat.le_refl _) (by decide) rfl, (Kept.refl _ _).alloc _, hl, by simp, by simp⟩)
    go_wp2_with fail
    go_loopw [1, 8] (fun s1 s8 wr => ∃ (h' : Nat) (acc : List Nat) (A : Option Addr) (c : Nat), h' ≤ ws.length ∧ acc.length ≤ q.toNat ∧ s1 = .int .i64 (h' : Int) ∧ s8 = .slice A acc.length c ∧ Hid (Come ws q.toNat h w acc h' (.slice A acc.length c) wr)) (fun _ s8 _ => q.toNat - lenV s8)
    case atStart => exact ⟨h, [], _, _, hl, by simp, rfl, rfl, S⟩
    case round =>
      obtain ⟨h', acc, A, c, hh, hacc, rfl, rfl, C⟩ := hrel
      rename World => W
      have A1 := Lib.hid (A0.out.kept C.out.kept (fun x => x) (fun x => x))
      cases h' with
      | zero =>
        have P : WalkPost r w (.returned (.tuple #[.slice A acc.length c, .int .i64 0])) W := .inl ⟨acc, _, HE.out.symm.trans C.out.done, rfl, made_endI C.out.own C.out.kept⟩
        have P := Lib.hid P
        clear HE
        go_wp2_with fail
        go_ret2
        exact P.out
      | succ k =>
        have c0 : ((k + 1 : Nat) : Int) = (k : Int) + 1 := by omega
        rw [c0]
        have c1 : ((k : Int) + 1 != 0) = true := by simp; omega
        clear c0
        by_cases d : acc.length < q.toNat
        · have d1 : decide (q ≤ (acc.length : Int)) = false := decide_eq_false (by omega)
          have hk : k < ws.length := hh
          obtain ⟨x, hx⟩ : ∃ x, ws[k]? = some x := ⟨_, List.getElem?_eq_getElem hk⟩
          have HX := Lib.hid hx
          clear hx
          by_cases f : x ≤ ws.length
          · have le := Lib.hid (show (acc ++ [k]).length = acc.length + 1 by simp)
            have O := Lib.hid C.out.own
            have K := Lib.hid C.out.kept
            go_wp2_with fail
            refine (pop_ok k x _ A1.out HX.out f).mono ?_
            rintro e w' ⟨rfl, rfl⟩
            go_wp2_with (at_builtin; refine app_wpI rfl (.tmp 39) (.tmp 41) rfl rfl w.heap.size (.slice A acc.length c) acc.length (NI acc) rfl (O.out.alloc _) (some ⟨W.heap.size, 0, none⟩) 1 1 [(k : Int)] rfl (RsI.one W k ⟨by omega, by omega⟩ _ rfl) (by intro h; cases h) (by omega) (by omega) (K.out.alloc _).size (acc.length + 1) rfl (NI acc ++ [(k : Int)]) rfl ?_; intro v3 w3 O3 k3 a3; obtain ⟨A3, c3, rfl, _⟩ := O3.out.rs; have N3 := Lib.hid (C.out.next d HX.out f O3.out ((O.out.alloc _).step (K.out.alloc _) k3.out)))
            refine ⟨⟨x, acc ++ [k], A3, c3, f, by rw [le.out]; exact d, rfl, by rw [le.out], by rw [le.out]; exact N3⟩, ?_⟩
            simp [lenV]; omega
          · have P : WalkPost r w (.returned (.tuple #[.slice none 0 0, .int .i64 6])) W := .inr ⟨HE.out.symm.trans (C.out.form d HX.out (by omega)), rfl, C.out.kept⟩
            have P := Lib.hid P
            clear HE
            go_wp2_with fail
            refine (pop_form k x _ A1.out HX.out (by omega)).mono ?_
            rintro e w' ⟨rfl, rfl⟩
            go_wp2_with fail
            go_ret2
            exact P.out
        · have d1 : decide (q ≤ (acc.length : Int)) = true := decide_eq_true (by omega)
          have P : WalkPost r w (.returned (.tuple #[.slice none 0 0, .int .i64 6])) W := .inr ⟨HE.out.symm.trans (C.out.full (by omega)), rfl, C.out.kept⟩
          have P := Lib.hid P
          clear HE
          go_wp2_with fail
          go_ret2
          exact P.out
end Go.Proofs.YtcndilpaijapkaaGreat
