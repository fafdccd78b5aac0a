/-
  What the helpers of chapter 3's laws answer: There, SameWords, Words, and that the examples stand (awake). Own work; each is proved by a walk. Conditions: as each states.
-/
import Derived.Test.YtnhgimglefpbaaaRows
import Derived.Test.YtnhgimglefpbaaaArenaCalls
namespace Go.Proofs.Ytnhgimglefpbaaa
open Go.ChangeShapes Go.WideShapes Go.ChangeAt Go.RowKit
set_option maxRecDepth 100000


/-! ### A slice that reads as words -/
structure Rd (w : World) (A : Option Addr) (n : Nat) (xs : List Nat) : Prop where
  len : xs.length = n
  fit : ∀ x ∈ xs, x < 18446744073709551616
  lies : 0 < n → ∃ g o, A = some ⟨g, o, none⟩ ∧ g < w.heap.size ∧ ∀ (i x : Nat), xs[i]? = some x → w.cell? ⟨g, o + i, none⟩ = some (.int .u64 (x : Int))
theorem Rd.get {w : World} {A : Option Addr} {n : Nat} {xs : List Nat} (h : Rd w A n xs) {k : Nat} (hk : k < n) : ∃ (g o x : Nat), A = some ⟨g, o, none⟩ ∧ x < 18446744073709551616 ∧ xs[k]? = some x ∧ w.cell? ⟨g, o + k, none⟩ = some (.int .u64 ((x : Nat) : Int)) := by
  obtain ⟨g, o, rfl, _, c⟩ := h.lies (by omega)
  have hl : k < xs.length := by have := h.len; omega
  exact ⟨g, o, xs[k], rfl, h.fit _ (List.getElem_mem hl), List.getElem?_eq_getElem hl, c k _ (List.getElem?_eq_getElem hl)⟩
theorem Rd.drewN {w : World} {A : Option Addr} {n : Nat} {xs : List Nat} (h : Rd w A n xs) (k : Nat) : Rd (w.drewN k) A n xs := ⟨h.len, h.fit, h.lies⟩
theorem Rd.kept {D : Nat → Prop} {w w' : World} {A : Option Addr} {n : Nat} {xs : List Nat} (h : Rd w A n xs) (k : Kept D w w') (hd : ∀ ad, A = some ad → ¬ D ad.block) : Rd w' A n xs :=
  ⟨h.len, h.fit, fun hn => by
    obtain ⟨g, o, rfl, hg, c⟩ := h.lies hn
    have hd' : ¬ D g := hd _ rfl
    exact ⟨g, o, rfl, Nat.lt_of_lt_of_le hg k.size, fun i x hx => (k.cell (p := ⟨g, o + i, none⟩) hg hd').trans (c i x hx)⟩⟩
theorem Rd.old {w w' : World} {A : Option Addr} {n : Nat} {xs : List Nat} (h : Rd w A n xs) (k : Kept Old w w') : Rd w' A n xs := h.kept k fun _ _ x => x
theorem Row.rd {w : World} {g : Nat} {ws : List Nat} (h : Row w g ws) : Rd w (some ⟨g, 0, none⟩) ws.length ws :=
  ⟨rfl, h.fit, fun _ => ⟨g, 0, rfl, h.lt, fun i x hx => by rw [Nat.zero_add]; exact h.at hx⟩⟩
theorem Row.cut {w : World} {g : Nat} {ws : List Nat} (h : Row w g ws) (a n : Nat) (t : a + n ≤ ws.length) (A : Option Addr) (hA : 0 < n → A = some ⟨g, a, none⟩) : Rd w A n (cutL ws a n) :=
  ⟨cutL_length ws a n t, cutL_fit ws a n h.fit, fun hn => ⟨g, a, hA hn, h.lt, fun i x hx => by
    rw [cutL_get] at hx
    by_cases c : i < n
    · rw [if_pos c] at hx; exact h.at hx
    · rw [if_neg c] at hx; cases hx⟩⟩

/-- A slice that came in, as the laws' shells hand it on. -/
theorem rd_of {w : World} {a : Option Addr} {len cap : Nat} {zs : List Int}
    (h : (a = none ∧ len = 0 ∧ cap = 0 ∧ zs = []) ∨ ∃ x, a = some x ∧ len ≤ cap ∧ cap ≤ maxLen ∧ zs.length = cap ∧ (∀ i, i < zs.length → w.cell? (x.add i) = some (.int .u64 (zs.getD i 0))) ∧ ∀ n ∈ zs, (Lit.int .u64 n).wf = true) :
    ∃ xs, Rd w a len xs := by
  rcases h with ⟨rfl, rfl, _, _⟩ | ⟨x, rfl, h1, _, h3, h4, h5⟩
  · exact ⟨[], rfl, fun x hx => (by cases hx), fun h => absurd h (by omega)⟩
  · have fits : ∀ n ∈ zs, 0 ≤ n ∧ n < 18446744073709551616 := by
      intro n hn
      have := bounds_u64 (h5 n hn)
      omega
    refine ⟨(zs.take len).map Int.toNat, by simp; omega, fun y hy => ?_, fun hn => ?_⟩
    · obtain ⟨n, hn, rfl⟩ := List.mem_map.1 hy
      have := fits n (List.mem_of_mem_take hn)
      omega
    · obtain ⟨b, o, s⟩ := x
      have c0 := h4 0 (by omega)
      have hs : s = none := by simpa [Addr.add] using World.cell?_spot c0
      subst hs
      refine ⟨b, o, rfl, ?_, fun i x hx => ?_⟩
      · have := block_lt_of_cell c0
        rw [addr_add] at this
        exact this
      · have hi := get_lt hx
        rw [List.length_map, List.length_take] at hi
        have c := h4 i (by omega)
        rw [addr_add] at c
        rw [c]
        rw [List.getElem?_map, List.getElem?_take, if_pos (by omega), List.getElem?_eq_getElem (by omega)] at hx
        simp only [Option.map_some, Option.some.injEq] at hx
        have f := fits (zs[i]'(by omega)) (List.getElem_mem (by omega))
        rw [List.getD_eq_getElem?_getD, List.getElem?_eq_getElem (by omega), Option.getD_some]
        congr 2
        omega

/-! ### SameWords -/
/-- What is told; some orders were drawn, and nothing has turned. -/
def Drew (v : Value) (w : World) (e : Ending) (w' : World) : Prop := e = .returned v ∧ ∃ k, w' = w.drewN k
theorem same_any (A B : Option Addr) (n c d : Nat) (xs : List Nat) (w : World) (ha : Rd w A n xs) (hb : Rd w B n xs) (hn : n ≤ 16384) :
    Calls Try.prog 27 #[.slice A n c, .slice B n d] w (Drew (.bool true) w) := by
  go_enter Try.func27, Try.ntmps27
  go_wp2
  go_loopw [5] (fun i wr => ∃ k : Nat, k ≤ n ∧ i = .int .i64 (k : Int) ∧ Hid (∃ d, wr = w.drewN d)) (fun i _ => n - (intOf i).toNat)
  case atStart => exact ⟨0, by omega, rfl, Lib.hid ⟨0, rfl⟩⟩
  case round =>
    obtain ⟨k, hk, rfl, HD⟩ := hrel
    rename World => W
    by_cases c : k < n
    · have ra : Rd W A n xs := by obtain ⟨d, rfl⟩ := HD.out; exact ha.drewN d
      have rb : Rd W B n xs := by obtain ⟨d, rfl⟩ := HD.out; exact hb.drewN d
      obtain ⟨g, o, x, rfl, _, hx, c1⟩ := ra.get c
      obtain ⟨g', o', x', rfl, _, hx', c2⟩ := rb.get c
      obtain rfl : x = x' := by rw [hx] at hx'; injection hx'
      clear hx hx' ra rb ha hb
      go_wp2
      go_quiet (fail)
      go_wp2
      refine ⟨⟨k + 1, by omega, by go_num, Lib.hid ?_⟩, ?_⟩
      · obtain ⟨d, rfl⟩ := HD.out; exact ⟨_, World.drewN_drewN _ _ _⟩
      · simp [intOf]; omega
    · have P : Drew (.bool true) w (.returned (.bool true)) W := ⟨rfl, HD.out⟩
      go_wp2
      go_ret
      exact P
theorem Drew.old {v : Value} {w w' : World} {e : Ending} (h : Drew v w e w') : e = .returned v ∧ Kept Old w w' := by
  obtain ⟨rfl, k, rfl⟩ := h
  exact ⟨rfl, (Kept.refl _ _).drewN k⟩

/-! ### Words -/
theorem words_any {p g h : Nat} {ws : List Nat} (c : Nat) (w : World) (ha : Ar w p g ws) (hr : Row w h ws) :
    Calls Try.prog 14 #[ptr p, .slice (some ⟨h, 0, none⟩) ws.length c] w fun e w' => e = .returned (.bool true) ∧ Kept Old w w' := by
  have hb := ha.big
  have hs := Lib.hid (slice_ok 0 ws.length w ha (by omega))
  go_enter Try.func14, Try.ntmps14
  go_wp2_with fail
  refine hs.out.mono ?_
  rintro e w1 ⟨g1, rfl, r1, k1, _⟩
  rw [cutL_all] at r1
  have ha1 := ha.kept k1 (fun x => x) (fun x => x)
  go_wp2_with fail
  refine (len_any _ ha1).mono ?_
  rintro e w' ⟨rfl, rfl⟩
  go_wp2_with fail
  refine (same_any _ _ _ _ _ ws _ r1.rd (hr.kept k1 (fun x => x)).rd hb).mono ?_
  intro e w2 d
  obtain ⟨rfl, k2⟩ := d.old
  go_wp2_with fail
  go_ret
  exact ⟨rfl, k1.trans k2⟩

end Go.Proofs.Ytnhgimglefpbaaa
