/-
  What place answers of right runs. Own work; each is proved by a walk through the landed text.
-/
import Derived.Test.YtdolchlhphoggaaRows
import Derived.Test.YtdolchlhphoggaaRunsMem
import Derived.Test.YtdolchlhphoggaaRunsCalls
import Derived.WalkKit
import Derived.ProofKit
import Derived.OpenShut
import Derived.Outline
import Derived.Deep.Light
import Derived.Deep.QuietTactic
import Derived.BigQuiet
import Derived.IntWalk
import Derived.StillTailTactics
import Derived.RegionTactic
import Derived.Deep.RegionLaw
import Derived.ChangeAlike
import Derived.Deep.RegionHeld3
import Derived.WalkMore
namespace Go.Proofs.Ytdolchlhphoggaa
open Go.ChangeShapes Go.WideShapes Go.ChangeAt Go.RowKit
set_option maxRecDepth 100000

/-- What place answers. -/
def PlacePost (l : List R) (r : R) (w : World) (e : Ending) (w' : World) : Prop := (∃ i : Nat, e = .returned (.tuple #[.int .i64 (i : Int), .bool true]) ∧ Place l r i ∨ e = .returned (.tuple #[.int .i64 0, .bool false]) ∧ freeB l r.1 r.2 = false) ∧ Kept Old w w'
set_option maxHeartbeats 4000000 in
theorem place_any (A : Option Addr) (n c : Nat) (l : List R) (r : R) (w : World) (h : Rs w A n l) (hr : Right 256 0 l) (hn : n ≤ 1000) (h0 : 0 ≤ r.1) (h1 : 1 ≤ r.2) (h2 : r.1 + r.2 ≤ 256) : Calls Try.prog 46 #[.slice A n c, run r] w (PlacePost l r w) := by
  have HR := Lib.hid h
  have HT := Lib.hid hr
  clear h hr
  have er := Lib.hid (show in64 (r.1 + r.2) from ⟨by omega, by omega⟩)
  go_enter Try.func46, Try.ntmps46
  go_wp2_with fail
  have K0 := Lib.hid ((Kept.refl Old w).alloc (.cells #[.int .i64 r.1, .int .i64 r.2] 63))
  have B0 := Lib.hid (Bx.new w r)
  generalize hb : w.heap.size = b at *
  go_step3
  go_wp2_with fail
  go_step3
  go_wp2_with fail
  go_loopw [6] (fun j wr => ∃ k : Nat, k ≤ n ∧ j = .int .i64 (k : Int) ∧ Hid (∀ y ∈ l.take k, y.1 + y.2 ≤ r.1) ∧ Hid (Bx wr b r) ∧ Hid (Kept Old w wr)) (fun j _ => n - (intOf j).toNat)
  case atStart => exact ⟨0, by omega, rfl, Lib.hid (fun y hy => by simp at hy), B0, K0⟩
  case round =>
    obtain ⟨k, hk, rfl, HL, B, K⟩ := hrel
    rename World => W
    clear B0 K0
    by_cases c : k < n
    · obtain ⟨g, o, x, rfl, _, hx, f1, f2, c0, c1⟩ := (HR.out.old K.out).get c
      have bx := HT.out.at hx
      have ex := Lib.hid (show in64 (x.1 + x.2) from ⟨by omega, by omega⟩)
      have r0 := B.out.c0
      have r1 := B.out.c1
      have hx := Lib.hid hx
      have kw := Kept.refl Old W
      have le := HR.out.len
      by_cases d : r.1 + r.2 ≤ x.1
      · have P : ∀ w', Kept Old W w' → PlacePost l r w (.returned (.tuple #[.int .i64 (k : Int), .bool true])) w' := fun w' k' => ⟨⟨k, .inl ⟨rfl, by omega, HL.out, hi_all HT.out hx.out d⟩⟩, K.out.trans k'⟩
        have P := Lib.hid P
        clear le HL
        go_wp2_with fail
        go_region_held3 (fun w' => Kept Old W w' ∧ w'.cell? ⟨b, 0, none⟩ = some (.int .i64 r.1) ∧ w'.cell? ⟨b, 1, none⟩ = some (.int .i64 r.2) ∧ w'.cell? ⟨g, o + k * 2, none⟩ = some (.int .i64 x.1) ∧ w'.cell? ⟨g, o + k * 2 + 1, none⟩ = some (.int .i64 x.2))
          (first
            | (exact ⟨‹_›, ‹_›, ‹_›, ‹_›, ‹_›⟩)
            | (exact ⟨Kept.drew ‹_›, ‹_›, ‹_›, ‹_›, ‹_›⟩)
            | (go_split_ands; exact ⟨Kept.trans ‹_› k1, cell_on k1 ‹_›, cell_on k1 ‹_›, cell_on k1 ‹_›, cell_on k1 ‹_›⟩)
            | go_keep)
          (first
            | (go_at_call 38; refine (end_any r _ er.out).mono ?_; rintro e w' ⟨rfl, k1⟩))
        have P := Lib.hid (P.out _ (‹Kept Old W _ ∧ _›).1)
        go_wp2
        rw [Exit.noGoto_ret]
        go_ret2
        exact P.out
      · go_wp2_with fail
        go_region_held3 (fun w' => Kept Old W w' ∧ w'.cell? ⟨b, 0, none⟩ = some (.int .i64 r.1) ∧ w'.cell? ⟨b, 1, none⟩ = some (.int .i64 r.2) ∧ w'.cell? ⟨g, o + k * 2, none⟩ = some (.int .i64 x.1) ∧ w'.cell? ⟨g, o + k * 2 + 1, none⟩ = some (.int .i64 x.2))
          (first
            | (exact ⟨‹_›, ‹_›, ‹_›, ‹_›, ‹_›⟩)
            | (exact ⟨Kept.drew ‹_›, ‹_›, ‹_›, ‹_›, ‹_›⟩)
            | (go_split_ands; exact ⟨Kept.trans ‹_› k1, cell_on k1 ‹_›, cell_on k1 ‹_›, cell_on k1 ‹_›, cell_on k1 ‹_›⟩)
            | go_keep)
          (first
            | (go_at_call 38; refine (end_any r _ er.out).mono ?_; rintro e w' ⟨rfl, k1⟩))
        obtain ⟨kw', r0', r1', c0', c1'⟩ := ‹Kept Old W _ ∧ _›
        clear kw r0 r1 c0 c1
        by_cases d2 : r.1 < x.1 + x.2
        · have P : ∀ w', Kept Old W w' → PlacePost l r w (.returned (.tuple #[.int .i64 0, .bool false])) w' := fun w' k' => ⟨⟨0, .inr ⟨rfl, not_free (List.mem_of_getElem? hx.out) d2 (by omega)⟩⟩, K.out.trans k'⟩
          have P := Lib.hid P
          clear le HL
          go_wp2_with fail
          go_region_held3 (fun w' => Kept Old W w' ∧ w'.cell? ⟨b, 0, none⟩ = some (.int .i64 r.1) ∧ w'.cell? ⟨b, 1, none⟩ = some (.int .i64 r.2) ∧ w'.cell? ⟨g, o + k * 2, none⟩ = some (.int .i64 x.1) ∧ w'.cell? ⟨g, o + k * 2 + 1, none⟩ = some (.int .i64 x.2))
            (first
              | (exact ⟨‹_›, ‹_›, ‹_›, ‹_›, ‹_›⟩)
              | (exact ⟨Kept.drew ‹_›, ‹_›, ‹_›, ‹_›, ‹_›⟩)
              | (go_split_ands; exact ⟨Kept.trans ‹_› k1, cell_on k1 ‹_›, cell_on k1 ‹_›, cell_on k1 ‹_›, cell_on k1 ‹_›⟩)
              | go_keep)
            (first
              | (go_at_call 38; refine (end_any x _ ex.out).mono ?_; rintro e w' ⟨rfl, k1⟩))
          have P := Lib.hid (P.out _ (‹Kept Old W _ ∧ _›).1)
          go_wp2
          rw [Exit.noGoto_ret]
          go_ret2
          exact P.out
        · have L := Lib.hid (lo_snoc HL.out hx.out (by omega))
          clear le HL
          go_wp2_with fail
          go_region_held3 (fun w' => Kept Old W w' ∧ w'.cell? ⟨b, 0, none⟩ = some (.int .i64 r.1) ∧ w'.cell? ⟨b, 1, none⟩ = some (.int .i64 r.2) ∧ w'.cell? ⟨g, o + k * 2, none⟩ = some (.int .i64 x.1) ∧ w'.cell? ⟨g, o + k * 2 + 1, none⟩ = some (.int .i64 x.2))
            (first
              | (exact ⟨‹_›, ‹_›, ‹_›, ‹_›, ‹_›⟩)
              | (exact ⟨Kept.drew ‹_›, ‹_›, ‹_›, ‹_›, ‹_›⟩)
              | (go_split_ands; exact ⟨Kept.trans ‹_› k1, cell_on k1 ‹_›, cell_on k1 ‹_›, cell_on k1 ‹_›, cell_on k1 ‹_›⟩)
              | go_keep)
            (first
              | (go_at_call 38; refine (end_any x _ ex.out).mono ?_; rintro e w' ⟨rfl, k1⟩))
          have k2 := Lib.hid (‹Kept Old W _ ∧ _›).1
          go_wp2
          refine ⟨⟨k + 1, by omega, by go_num, L, Lib.hid (B.out.old k2.out), Lib.hid (K.out.trans k2.out)⟩, ?_⟩
          simp [intOf]; omega
    · have P : PlacePost l r w (.returned (.tuple #[.int .i64 (k : Int), .bool true])) W := by
        have hkl : l.length = k := by have := HR.out.len; omega
        exact ⟨⟨k, .inl ⟨rfl, by omega, HL.out, fun y hy => by rw [List.drop_eq_nil_of_le (by omega)] at hy; cases hy⟩⟩, K.out⟩
      go_wp2
      go_ret2
      exact P
theorem Place.unique {l : List R} {r : R} {i j : Nat} (hr : Right 256 0 l) (h1 : 1 ≤ r.2) (a : Place l r i) (b : Place l r j) : i = j := by
  have key : ∀ {i j : Nat}, Place l r i → Place l r j → ¬ i < j := by
    intro i j a b c
    have hi : i < l.length := by have := b.le; omega
    have hx : l[i]? = some l[i] := List.getElem?_eq_getElem hi
    have m1 : l[i] ∈ l.take j := List.mem_of_getElem? (i := i) (by rw [List.getElem?_take, if_pos c]; exact hx)
    have m2 : l[i] ∈ l.drop i := List.mem_of_getElem? (i := 0) (by rw [List.getElem?_drop]; exact hx)
    have q1 := b.lo _ m1
    have q2 := a.hi _ m2
    have q3 := hr.at hx
    omega
  have k1 := key a b
  have k2 := key b a
  omega
theorem place_exists {p f : Int} {l : List R} {r : R} (hr : Right p f l) (c : ∀ x ∈ l, x.1 + x.2 ≤ r.1 ∨ r.1 + r.2 ≤ x.1) : ∃ i, Place l r i := by
  induction l generalizing f with
  | nil => exact ⟨0, Nat.le_refl _, fun x hx => by simp at hx, fun x hx => by simp at hx⟩
  | cons x t ih =>
    obtain ⟨b0, b1, b2, b3, h2⟩ := hr
    rcases c x (List.mem_cons_self ..) with d | d
    · obtain ⟨i, h⟩ := ih h2 (fun y hy => c y (List.mem_cons_of_mem _ hy))
      refine ⟨i + 1, by have := h.le; simp only [List.length_cons]; omega, fun y hy => ?_, fun y hy => h.hi y (by simpa using hy)⟩
      rw [List.take_succ_cons] at hy
      rcases List.mem_cons.1 hy with rfl | hy
      · exact d
      · exact h.lo y hy
    · refine ⟨0, Nat.zero_le _, fun y hy => by simp at hy, fun y hy => ?_⟩
      rw [List.drop_zero] at hy
      rcases List.mem_cons.1 hy with rfl | hy
      · exact d
      · have := h2.mem hy; omega
theorem place_ok (A : Option Addr) (n c : Nat) (l : List R) (r : R) (i : Nat) (w : World) (h : Rs w A n l) (hr : Right 256 0 l) (hn : n ≤ 1000) (h0 : 0 ≤ r.1) (h1 : 1 ≤ r.2) (h2 : r.1 + r.2 ≤ 256) (hp : Place l r i) : Calls Try.prog 46 #[.slice A n c, run r] w fun e w' => e = .returned (.tuple #[.int .i64 (i : Int), .bool true]) ∧ Kept Old w w' := by
  refine (place_any A n c l r w h hr hn h0 h1 h2).mono ?_
  rintro e w' ⟨⟨j, ⟨rfl, q⟩ | ⟨_, q⟩⟩, k⟩
  · obtain rfl := Place.unique hr h1 hp q
    exact ⟨rfl, k⟩
  · rw [hp.free] at q; cases q
theorem place_no (A : Option Addr) (n c : Nat) (l : List R) (r : R) (w : World) (h : Rs w A n l) (hr : Right 256 0 l) (hn : n ≤ 1000) (h0 : 0 ≤ r.1) (h1 : 1 ≤ r.2) (h2 : r.1 + r.2 ≤ 256) (hp : freeB l r.1 r.2 = false) : Calls Try.prog 46 #[.slice A n c, run r] w fun e w' => e = .returned (.tuple #[.int .i64 0, .bool false]) ∧ Kept Old w w' := by
  refine (place_any A n c l r w h hr hn h0 h1 h2).mono ?_
  rintro e w' ⟨⟨j, ⟨rfl, q⟩ | ⟨rfl, q⟩⟩, k⟩
  · rw [q.free] at hp; cases hp
  · exact ⟨rfl, k⟩
end Go.Proofs.Ytdolchlhphoggaa
