/-
  What the document's own Push, Pop and Walk answer, of a slice that reads as words (Rd); SameInts. Own work; each is proved by a walk. Conditions: as each states.
-/
import Derived.Test.YtnhgimglefpbaaaRows
import Derived.Test.YtnhgimglefpbaaaArenaRef
import Derived.Test.YtnhgimglefpbaaaChainCalls
namespace Go.Proofs.Ytnhgimglefpbaaa
open Go.ChangeShapes Go.WideShapes Go.ChangeAt Go.RowKit
set_option maxRecDepth 100000
set_option linter.unusedVariables false

/-! ### A block that begins with words -/
structure Rw (w : World) (g : Nat) (ws : List Nat) : Prop where
  row : ∃ cur : Array Value, w.heap[g]? = some (.cells cur 47 (0, 0)) ∧ cur.toList.take ws.length = U ws
  fit : ∀ x ∈ ws, x < 18446744073709551616
theorem Rw.cell {w : World} {g : Nat} {ws : List Nat} (h : Rw w g ws) {i x : Nat} (hx : ws[i]? = some x) : w.cell? ⟨g, i, none⟩ = some (.int .u64 (x : Int)) := by
  obtain ⟨cur, hg, ht⟩ := h.row
  have hi := get_lt hx
  have e : (cur.toList.take ws.length)[i]? = (U ws)[i]? := by rw [ht]
  rw [List.getElem?_take, if_pos hi, U_get, hx] at e
  rw [cell_of_row w g i cur 47 (0, 0) hg]
  simpa using e
theorem Rw.frozen {w : World} {g : Nat} {ws : List Nat} (h : Rw w g ws) (i : Nat) : w.frozen? ⟨g, i, none⟩ = false := by
  obtain ⟨cur, hg, _⟩ := h.row
  exact frozen_of_row w g i _ 47 hg
theorem Rw.lt {w : World} {g : Nat} {ws : List Nat} (h : Rw w g ws) : g < w.heap.size := by
  obtain ⟨cur, hg, _⟩ := h.row
  exact (Array.getElem?_eq_some_iff.1 hg).1
theorem Rw.rd {w : World} {g : Nat} {ws : List Nat} (h : Rw w g ws) : Rd w (some ⟨g, 0, none⟩) ws.length ws :=
  ⟨rfl, h.fit, fun _ => ⟨g, 0, rfl, h.lt, fun i x hx => by rw [Nat.zero_add]; exact h.cell hx⟩⟩
theorem Rw.put {w : World} {g : Nat} {ws : List Nat} (h : Rw w g ws) (i : Nat) {x : Nat} (hx : x < 18446744073709551616) : Rw (w.setCell ⟨g, i, none⟩ (.int .u64 (x : Int))) g (ws.set i x) := by
  obtain ⟨cur, hg, ht⟩ := h.row
  refine ⟨⟨cur.setIfInBounds i (.int .u64 (x : Int)), by simp [World.setCell, Array.getElem?_modify, hg], ?_⟩, fun y hy => ?_⟩
  · rw [List.length_set, Array.toList_setIfInBounds, List.take_set, ht, U_set]
  · rcases List.mem_or_eq_of_mem_set hy with c | c
    · exact h.fit y c
    · omega
/-- append([]uint64{}, words...). -/
theorem app_words (w : World) (ad : Addr) (n c : Nat) (xs : List Nat) (hr : Rd w (some ad) n xs) (hn : n ≤ 16384) (h0 : 0 < n) :
    ∃ g cap w', (Builtin.append_ #[22, 22] 22 #[.slice (some ⟨w.heap.size, 0, none⟩) 0 0, .slice (some ad) n c]).run Try.prog (w.alloc (.cells #[] 47)) = .ok (.slice (some ⟨g, 0, none⟩) n cap) w' ∧ Rw w' g xs ∧ Kept Old w w' ∧ w.heap.size ≤ g := by
  obtain ⟨i0, hi, hz0, hz1, hz2⟩ := info_parts uint_info
  have k0 := (Kept.refl Old w).alloc (.cells #[] 47)
  have hb := Blk.new w 47 []
  have own : (w.alloc (.cells #[] 47)).ownsRow w.heap.size 47 1 (.slice (some ⟨w.heap.size, 0, none⟩) 0 0) 0 [] := ⟨rfl, .inr ⟨w.heap.size, 0, #[], rfl, Nat.le_refl _, hb, Nat.le_refl _, Nat.zero_le _, rfl, rfl⟩⟩
  have hr' := hr.old k0
  have hnews : ∀ j u, (U xs)[j]? = some u → (w.alloc (.cells #[] 47)).cell? (ad.add j) = some u := by
    intro j u hu
    obtain ⟨g, o, e, _, hc⟩ := hr'.lies h0
    injection e with e
    subst e
    rw [U_get] at hu
    obtain ⟨x, hx, rfl⟩ := Option.map_eq_some_iff.1 hu
    rw [addr_add]
    exact hc j x hx
  obtain ⟨v, w', hrun, ho, hg, _, hat⟩ := run_append_own_at (P := Try.prog) (w.alloc (.cells #[] 47)) w.heap.size 22 22 47 i0 _ 1 8 Try.underlying22 hi hz0 hz1 hz2 rfl (by omega) _ 0 [] own ad n c (U xs) (by rw [U_length, hr.len, Nat.mul_one]) hnews (U_one xs) (by simp only [maxLen]; omega) (by omega) k0.size
  rw [Nat.zero_add, List.nil_append] at ho
  have K : Kept Old w w' := k0.join (Kept.grown (D := fun k => k = w.heap.size) (Kept.refl _ _) hg (fun g e _ => by injection e with e; exact e.symm)) (fun i hi e => by have : i = w.heap.size := e; omega)
  rcases ho.2 with ⟨rfl, h1⟩ | ⟨g, cap, cur, rfl, hB, hh, _, _, _, ht⟩
  · omega
  · exact ⟨g, cap, w', hrun, ⟨⟨cur, hh, by rw [hr.len]; simpa using ht⟩, hr.fit⟩, K, hB⟩

theorem app_wpW {ops : Array Oper} {rest : List Oper} {o : Oper} {a : Act} {Q : Exit → Act → World → Prop} {w : World} (hgd : o.guard = none) (s x : Operand)
    (ho : o.op = .call { callee := .builtin .append, args := #[s, x], argTypes := #[22, 22] }) (hty : o.type = 22)
    (ad : Addr) (n c : Nat) (xs : List Nat) (hs : a.eval s = .slice (some ⟨w.heap.size, 0, none⟩) 0 0) (hx : a.eval x = .slice (some ad) n c) (hr : Rd w (some ad) n xs) (hn : n ≤ 16384) (h0 : 0 < n)
    (go : ∀ g cap w', Hid (Rw w' g xs) → Hid (Kept Old w w') → w.heap.size ≤ g → wpList Try.prog ops Q rest (a.put o.dst (.slice (some ⟨g, 0, none⟩) n cap)) w') : wpList Try.prog ops Q (o :: rest) a (w.alloc (.cells #[] 47)) := by
  refine wpList_plain hgd fun K hK => ?_
  obtain ⟨g, cap, w', hrun, h2, h3, h4⟩ := app_words w ad n c xs hr hn h0
  unfold Oper.wp execOp
  simp only [ho, hty, resolve, invoke, builtin, Sem.run_bind, Sem.run_pure, Result.andThen_ok, List.map_toArray, List.map_cons, List.map_nil, hs, hx, hrun]
  exact hK _ _ (go g cap w' h2 h3 h4)

/-! ### Push -/
theorem rpush_bad (A : Option Addr) (n c : Nat) (h k : Int) (w : World) (hn : n ≤ 16384) (hb : k < 0 ∨ (n : Int) ≤ k ∨ h < 0 ∨ (n : Int) < h) :
    Calls Try.prog 13 #[.slice A n c, .int .i64 h, .int .i64 k] w fun e w' => e = .returned (.tuple #[.slice A n c, .int .i64 0, .int .i64 1]) ∧ w = w' := by
  by_cases c0 : k < 0
  · clear hb
    go_enter Try.func13, Try.ntmps13
    go_wp2
    go_ret3
    exact ⟨rfl, rfl⟩
  · by_cases c1 : (n : Int) ≤ k
    · clear hb
      go_enter Try.func13, Try.ntmps13
      go_wp2
      go_ret3
      exact ⟨rfl, rfl⟩
    · by_cases c2 : h < 0
      · clear hb
        go_enter Try.func13, Try.ntmps13
        go_wp2
        go_ret3
        exact ⟨rfl, rfl⟩
      · have c3 : (n : Int) < h := by omega
        clear hb
        go_enter Try.func13, Try.ntmps13
        go_wp2
        go_ret3
        exact ⟨rfl, rfl⟩
/-- What Push leaves: a new list. -/
def RpushPost (n k : Nat) (ws : List Nat) (w : World) (e : Ending) (w' : World) : Prop := ∃ g c, e = .returned (.tuple #[.slice (some ⟨g, 0, none⟩) n c, .int .i64 ((k : Int) + 1), .int .i64 0]) ∧ Rd w' (some ⟨g, 0, none⟩) n ws ∧ w.heap.size ≤ g ∧ Kept Old w w'
theorem rpush_ok (A : Option Addr) (n c : Nat) (ws : List Nat) (h k : Nat) (w : World) (hr : Rd w A n ws) (hn : n ≤ 16384) (hk : k < n) (hh : h ≤ n) :
    Calls Try.prog 13 #[.slice A n c, .int .i64 (h : Int), .int .i64 (k : Int)] w (RpushPost n k (ws.set k h) w) := by
  obtain ⟨b, o, x, rfl, _, hx, _⟩ := hr.get hk
  have HX := Lib.hid hx
  have HR := Lib.hid hr
  have hw := wrap_head h (by omega)
  have q0 : ¬ (k : Int) < 0 := by omega
  have q1 : decide ((n : Int) ≤ (k : Int)) = false := decide_eq_false (by omega)
  have q2 : ¬ (h : Int) < 0 := by omega
  have q3 : decide ((n : Int) < (h : Int)) = false := decide_eq_false (by omega)
  have q4 : (k : Int) < (n : Int) := by omega
  clear hx hr
  go_enter Try.func13, Try.ntmps13
  go_wp2_with (at_builtin; refine app_wpW rfl (.tmp 29) (.tmp 30) rfl rfl ⟨b, o, none⟩ n c ws rfl rfl HR.out hn (by omega) ?_; intro g cap w1 r1 k1 hg; have c1 := r1.out.cell HX.out; have f1 := r1.out.frozen k)
  go_ret3
  refine ⟨g, cap, rfl, ?_, hg, k1.out.setCell (fun i => by have : g < w.heap.size := i; omega) _⟩
  have := (r1.out.put k (x := h) (by omega)).rd
  rw [List.length_set, HR.out.len] at this
  exact this

/-! ### Pop -/
theorem rpop_bad (A : Option Addr) (n c : Nat) (h : Int) (w : World) (hn : n ≤ 16384) (hb : h < 0 ∨ (n : Int) < h) :
    Calls Try.prog 11 #[.slice A n c, .int .i64 h] w fun e w' => e = .returned (.tuple #[.int .i64 0, .int .i64 0, .int .i64 1]) ∧ w = w' := by
  have c0 : ¬ h = 0 := by omega
  by_cases c1 : h < 1
  · clear hb
    go_enter Try.func11, Try.ntmps11
    go_wp2
    go_ret3
    exact ⟨rfl, rfl⟩
  · have c2 : (n : Int) < h := by omega
    clear hb
    go_enter Try.func11, Try.ntmps11
    go_wp2
    go_ret3
    exact ⟨rfl, rfl⟩
theorem rpop_zero (A : Option Addr) (n c : Nat) (w : World) :
    Calls Try.prog 11 #[.slice A n c, .int .i64 0] w fun e w' => e = .returned (.tuple #[.int .i64 0, .int .i64 0, .int .i64 2]) ∧ w = w' := by
  go_enter Try.func11, Try.ntmps11
  go_wp2
  go_ret3
  exact ⟨rfl, rfl⟩
theorem rpop_form (A : Option Addr) (n c : Nat) (ws : List Nat) (k x : Nat) (w : World) (hr : Rd w A n ws) (hn : n ≤ 16384) (hx : ws[k]? = some x) (hl : n < x) :
    Calls Try.prog 11 #[.slice A n c, .int .i64 ((k : Int) + 1)] w fun e w' => e = .returned (.tuple #[.int .i64 0, .int .i64 0, .int .i64 6]) ∧ w = w' := by
  have hk : k < n := by have := get_lt hx; have := hr.len; omega
  obtain ⟨b, o, y, rfl, _, hy, cl⟩ := hr.get hk
  obtain rfl : x = y := by rw [hx] at hy; exact Option.some.inj hy
  have hw := wrap_head n hn
  have c0 : ¬ (k : Int) + 1 = 0 := by omega
  have c1 : ¬ (k : Int) + 1 < 1 := by omega
  have c2 : decide ((n : Int) < (k : Int) + 1) = false := decide_eq_false (by omega)
  have c3 : (n : Int) < (x : Int) := by omega
  clear hx hy hr
  go_enter Try.func11, Try.ntmps11
  go_wp2
  go_ret3
  exact ⟨rfl, rfl⟩
theorem rpop_ok (A : Option Addr) (n c : Nat) (ws : List Nat) (k x : Nat) (w : World) (hr : Rd w A n ws) (hn : n ≤ 16384) (hx : ws[k]? = some x) (hl : x ≤ n) :
    Calls Try.prog 11 #[.slice A n c, .int .i64 ((k : Int) + 1)] w fun e w' => e = .returned (.tuple #[.int .i64 (k : Int), .int .i64 (x : Int), .int .i64 0]) ∧ w = w' := by
  have hk : k < n := by have := get_lt hx; have := hr.len; omega
  obtain ⟨b, o, y, rfl, _, hy, cl⟩ := hr.get hk
  obtain rfl : x = y := by rw [hx] at hy; exact Option.some.inj hy
  have hw := wrap_head n hn
  have hv : IntKind.i64.wrap (x : Int) = (x : Int) := IntWalk.i64_in _ (by omega)
  have c0 : ¬ (k : Int) + 1 = 0 := by omega
  have c1 : ¬ (k : Int) + 1 < 1 := by omega
  have c2 : decide ((n : Int) < (k : Int) + 1) = false := decide_eq_false (by omega)
  have c3 : ¬ (n : Int) < (x : Int) := by omega
  clear hx hy hr
  go_enter Try.func11, Try.ntmps11
  go_wp2
  go_ret3
  exact ⟨rfl, rfl⟩
theorem rpop_any (A : Option Addr) (n c : Nat) (ws : List Nat) (h : Int) (w : World) (hr : Rd w A n ws) (hn : n ≤ 16384) :
    Calls Try.prog 11 #[.slice A n c, .int .i64 h] w fun e w' => e = .returned (.tuple #[.int .i64 (popV ws h).1, .int .i64 (popV ws h).2.1, .int .i64 (popV ws h).2.2]) ∧ w = w' := by
  have hlen := hr.len
  rcases pop_ways ws h with rfl | d | ⟨k, x, rfl, hx⟩
  · exact rpop_zero A n c w
  · have e : popV ws h = (0, 0, 1) := by unfold popV; rw [if_neg (by omega), if_pos d]
    rw [e]
    rw [hlen] at d
    exact rpop_bad A n c h w hn d
  · by_cases d : x ≤ ws.length
    · rw [popV_ok ws k x hx d]
      exact rpop_ok A n c ws k x w hr hn hx (by omega)
    · rw [popV_form ws k x hx (by omega)]
      exact rpop_form A n c ws k x w hr hn hx (by omega)

/-! ### Walk -/
theorem rwalk_bad (A : Option Addr) (n c : Nat) (h m : Int) (w : World) (hn : n ≤ 16384) (hb : h < 0 ∨ (n : Int) < h) :
    Calls Try.prog 17 #[.slice A n c, .int .i64 h, .int .i64 m] w fun e w' => e = .returned (.tuple #[.slice none 0 0, .int .i64 1]) ∧ w = w' := by
  by_cases c1 : h < 0
  · clear hb
    go_enter Try.func17, Try.ntmps17
    go_wp2_with fail
    go_ret2
    exact ⟨rfl, rfl⟩
  · have c2 : (n : Int) < h := by omega
    clear hb
    go_enter Try.func17, Try.ntmps17
    go_wp2_with fail
    go_ret2
    exact ⟨rfl, rfl⟩
theorem rwalk_any (A : Option Addr) (n c : Nat) (ws : List Nat) (h : Nat) (m : Int) (w : World) (hr : Rd w A n ws) (hn : n ≤ 16384) (hl : h ≤ n) (b0 : -9223372036854775808 ≤ m) (b1 : m ≤ 2000) :
    Calls Try.prog 17 #[.slice A n c, .int .i64 (h : Int), .int .i64 m] w (WalkPost (walkL ws m.toNat h) w) := by
  have hlen := hr.len
  obtain ⟨r, hE⟩ : ∃ r, walkL ws m.toNat h = r := ⟨_, rfl⟩
  rw [hE]
  have HE := Lib.hid hE
  have HR := Lib.hid hr
  have HL := Lib.hid hlen
  have c0 : ¬ (h : Int) < 0 := by omega
  have c1 : decide ((n : Int) < (h : Int)) = false := decide_eq_false (by omega)
  have S := Lib.hid (show Come ws m.toNat h w [] h (.slice none 0 0) w from ⟨OwI.nil _ _, Kept.refl _ _, by omega, by simp, by simp⟩)
  clear hE hr hlen
  go_enter Try.func17, Try.ntmps17
  go_wp2_with fail
  go_loopw [1, 8] (fun s1 s8 wr => ∃ (h' : Nat) (acc : List Nat) (A : Option Addr) (c : Nat), h' ≤ n ∧ acc.length ≤ m.toNat ∧ s1 = .int .i64 (h' : Int) ∧ s8 = .slice A acc.length c ∧ Hid (Come ws m.toNat h w acc h' (.slice A acc.length c) wr)) (fun _ s8 _ => m.toNat - lenV s8)
  case atStart => exact ⟨h, [], _, _, hl, by simp, rfl, rfl, S⟩
  case round =>
    obtain ⟨h', acc, A1, c1, hh, hacc, rfl, rfl, C⟩ := hrel
    rename World => W
    have R1 := Lib.hid (HR.out.old C.out.kept)
    cases h' with
    | zero =>
      have P : WalkPost r w (.returned (.tuple #[.slice A1 acc.length c1, .int .i64 0])) W := .inl ⟨acc, _, HE.out.symm.trans C.out.done, rfl, made_endI C.out.own C.out.kept⟩
      have P := Lib.hid P
      clear HE
      go_wp2_with fail
      go_ret2
      exact P.out
    | succ k =>
      have c0 : ((k + 1 : Nat) : Int) = (k : Int) + 1 := by omega
      rw [c0]
      have g1 : (0 : Int) < (k : Int) + 1 := by omega
      clear c0
      by_cases d : acc.length < m.toNat
      · have d1 : decide (m ≤ (acc.length : Int)) = false := decide_eq_false (by omega)
        have hk : k < ws.length := by rw [HL.out]; exact hh
        obtain ⟨x, hx⟩ : ∃ x, ws[k]? = some x := ⟨_, List.getElem?_eq_getElem hk⟩
        have HX := Lib.hid hx
        clear hx
        by_cases f : x ≤ n
        · have le := Lib.hid (show (acc ++ [k]).length = acc.length + 1 by simp)
          have O := Lib.hid C.out.own
          have K := Lib.hid C.out.kept
          go_wp2_with fail
          refine (rpop_ok _ _ _ ws k x _ R1.out hn HX.out f).mono ?_
          rintro e w' ⟨rfl, rfl⟩
          go_wp2_with (at_builtin; refine app_wpI rfl (.tmp 35) (.tmp 37) rfl rfl w.heap.size (.slice A1 acc.length c1) acc.length (NI acc) rfl (O.out.alloc _) (some ⟨W.heap.size, 0, none⟩) 1 1 [(k : Int)] rfl (RsI.one W k ⟨by omega, by omega⟩ _ rfl) (by intro h; cases h) (by omega) (by omega) (K.out.alloc _).size (acc.length + 1) rfl (NI acc ++ [(k : Int)]) rfl ?_; intro v3 w3 O3 k3 a3; obtain ⟨A3, c3, rfl, _⟩ := O3.out.rs; have N3 := Lib.hid (C.out.next d HX.out (by rw [HL.out]; exact f) O3.out ((O.out.alloc _).step (K.out.alloc _) k3.out)))
          refine ⟨⟨x, acc ++ [k], A3, c3, f, by rw [le.out]; exact d, rfl, by rw [le.out], by rw [le.out]; exact N3⟩, ?_⟩
          simp [lenV]; omega
        · have P : WalkPost r w (.returned (.tuple #[.slice none 0 0, .int .i64 6])) W := .inr ⟨HE.out.symm.trans (C.out.form d HX.out (by rw [HL.out]; omega)), rfl, C.out.kept⟩
          have P := Lib.hid P
          clear HE
          go_wp2_with fail
          refine (rpop_form _ _ _ ws k x _ R1.out hn HX.out (by omega)).mono ?_
          rintro e w' ⟨rfl, rfl⟩
          go_wp2_with fail
          go_ret2
          exact P.out
      · have d1 : decide (m ≤ (acc.length : Int)) = true := decide_eq_true (by omega)
        have P : WalkPost r w (.returned (.tuple #[.slice none 0 0, .int .i64 6])) W := .inr ⟨HE.out.symm.trans (C.out.full (by omega)), rfl, C.out.kept⟩
        have P := Lib.hid P
        clear HE
        go_wp2_with fail
        go_ret2
        exact P.out

/-! ### SameInts -/
theorem sameI_any (A B : Option Addr) (n c d : Nat) (xs : List Int) (w : World) (ha : RsI w A n xs) (hb : RsI w B n xs) (hn : n ≤ 100000) :
    Calls Try.prog 18 #[.slice A n c, .slice B n d] w (Drew (.bool true) w) := by
  go_enter Try.func18, Try.ntmps18
  go_wp2
  go_loopw [5] (fun i wr => ∃ k : Nat, k ≤ n ∧ i = .int .i64 (k : Int) ∧ Hid (∃ d, wr = w.drewN d)) (fun i _ => n - (intOf i).toNat)
  case atStart => exact ⟨0, by omega, rfl, Lib.hid ⟨0, rfl⟩⟩
  case round =>
    obtain ⟨k, hk, rfl, HD⟩ := hrel
    rename World => W
    by_cases c : k < n
    · have ra : RsI W A n xs := by obtain ⟨d, rfl⟩ := HD.out; exact ha.drewN d
      have rb : RsI W B n xs := by obtain ⟨d, rfl⟩ := HD.out; exact hb.drewN d
      obtain ⟨g, o, x, rfl, _, hx, _, c1⟩ := ra.get c
      obtain ⟨g', o', x', rfl, _, hx', _, c2⟩ := rb.get c
      obtain rfl : x = x' := by rw [hx] at hx'; injection hx'
      clear hx hx' ra rb ha hb
      go_wp2
      go_quiet (fail)
      go_wp2
      refine ⟨⟨k + 1, by omega, by go_num, Lib.hid ?_⟩, ?_⟩
      · obtain ⟨d, rfl⟩ := HD.out; exact ⟨_, World.drewN_drewN _ _ _⟩
      · simp [intOf]; omega
    · have P : Drew (.bool true) w (.returned (.bool true)) W := ⟨rfl, HD.out⟩
      go_wp2
      go_ret
      exact P

/-! ### Words, of a slice -/
theorem words_rd {p g : Nat} {ws : List Nat} (A : Option Addr) (n c : Nat) (w : World) (ha : Ar w p g ws) (hr : Rd w A n ws) :
    Calls Try.prog 14 #[ptr p, .slice A n c] w fun e w' => e = .returned (.bool true) ∧ Kept Old w w' := by
  have hb := ha.big
  obtain rfl := hr.len
  have hs := Lib.hid (slice_ok 0 ws.length w ha (by omega))
  go_enter Try.func14, Try.ntmps14
  go_wp2_with fail
  refine hs.out.mono ?_
  rintro e w1 ⟨g1, rfl, r1, k1, _⟩
  rw [cutL_all] at r1
  have ha1 := ha.kept k1 (fun x => x) (fun x => x)
  go_wp2_with fail
  refine (len_any _ ha1).mono ?_
  rintro e w' ⟨rfl, rfl⟩
  go_wp2_with fail
  refine (same_any _ _ _ _ _ ws _ r1.rd (hr.old k1) hb).mono ?_
  intro e w2 d
  obtain ⟨rfl, k2⟩ := d.old
  go_wp2_with fail
  go_ret
  exact ⟨rfl, k1.trans k2⟩
end Go.Proofs.Ytnhgimglefpbaaa
