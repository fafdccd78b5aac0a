/-
  What the document's own Add answers of spans that lie within. Own work; each is proved by a walk through the landed text.
-/
import Derived.Test.YtibgggchofpllaaRows
import Derived.Test.YtibgggchofpllaaSpanCalls
import Derived.Test.YtibgggchofpllaaSpanOf
import Derived.Test.YtibgggchofpllaaSpanRem
import Derived.Test.YtibgggchofpllaaSpanAdd
import Derived.Test.YtibgggchofpllaaSpanRef
namespace Go.Proofs.Ytibgggchofpllaa
open Go.ChangeShapes Go.WideShapes Go.ChangeAt Go.RowKit
set_option maxRecDepth 100000

set_option maxHeartbeats 2000000 in
theorem radd_twice (A : Option Addr) (n cc : Nat) (P : Int) (l : List S) (x : S) (w : World) (h : Rs w A n l) (g : Good P l) (hP : 0 ≤ P ∧ P ≤ 256) (ok : Ok P x) (hit : hitB l x = true) :
    Calls Try.prog 17 #[.slice A n cc, .int .i64 P, spn x] w fun e w' => e = .returned (.tuple #[.slice A n cc, .int .i64 4]) ∧ Kept Old w w' := by
  obtain ⟨y, hy, h1, h2⟩ := hit_some hit
  have hlen := h.len
  have hn : n ≤ 256 := by have := g.len hP.1; omega
  have hlt : placeL l x.a < n := by have := (List.getElem?_eq_some_iff.1 hy).1; omega
  have HR := Lib.hid h
  have HG := Lib.hid g
  have HY := Lib.hid hy
  have k0 := Lib.hid ((Kept.refl Old w).alloc (.cells #[.int .i64 x.a, .int .i64 x.n, .int .i64 x.c] 30))
  have B0 := Lib.hid (Bx.new w x)
  obtain ⟨j, hj⟩ : ∃ j, placeL l x.a = j := ⟨_, rfl⟩
  have hlo := Lib.hid (fun i y => place_lo l x.a (i := i) (y := y))
  rw [hj] at hlt HY hlo
  obtain ⟨o1, o2, o3, o4, o5⟩ := ok
  have q1 : ¬ x.n < 1 := by omega
  have q2 : ¬ x.a < 0 := by omega
  have q3 : ¬ P < x.a := by omega
  have q4 : ¬ P - x.a < x.n := by omega
  have q5 : ¬ x.c < 0 := by omega
  have q6 : ¬ 8 ≤ x.c := by omega
  obtain ⟨p1, p2⟩ := hP
  clear h g hit hy hlen hj
  go_enter Try.func17, Try.ntmps17
  go_wp2_with fail
  generalize hs : w.heap.size = s at *
  go_loopw [8, 9] (fun e i wr => ∃ k : Nat, k ≤ j ∧ e = .int .i64 (k : Int) ∧ i = .int .i64 (k : Int) ∧ Hid (Bx wr s x) ∧ Hid (Kept Old w wr)) (fun _ i _ => j + 1 - (intOf i).toNat)
  case atStart => exact ⟨0, by omega, rfl, rfl, B0, k0⟩
  case round =>
    obtain ⟨k, hk, rfl, rfl, BW, K⟩ := hrel
    rename World => W
    clear B0 k0
    obtain ⟨gg, o, y', rfl, hgl, hx, f1, a0, a1, a2⟩ := (HR.out.old K.out).get (k := k) (by omega)
    obtain ⟨b1, b2, b3, b4, b5⟩ := HG.out.at hx
    have s0 := BW.out.c0
    have s1 := BW.out.c1
    by_cases c : k < j
    · have z := hlo.out k y' hx c
      have t1 : decide (y'.a < x.a) = true := decide_eq_true (by omega)
      have cv := Lib.hid (fun W => over_no y' x W b1 b2 (by omega) o1 o2 (by omega) (.inl z))
      clear hx f1
      go_wp2_with fail
      go_quiet (first | (go_at_call 24; exact Calls.quiet_of_same ((cv.out _).mono fun e w' h => ⟨h.1, h.2.symm⟩)))
      go_wp2_with fail
      go_quiet (fail)
      go_wp2
      refine ⟨⟨k + 1, by omega, by go_num, by go_num, BW, Lib.hid (K.out.drewN _)⟩, ?_⟩
      simp [intOf]; omega
    · obtain rfl : k = j := by omega
      obtain rfl : y' = y := by have := HY.out; rw [hx] at this; exact Option.some.inj this
      have cv := Lib.hid (fun W => over_yes y' x W b1 b2 (by omega) o1 o2 (by omega) h1 h2)
      clear hx f1
      go_wp2_with fail
      go_quiet (first | (go_at_call 24; exact Calls.quiet_of_same ((cv.out _).mono fun e w' h => ⟨h.1, h.2.symm⟩)))
      go_wp2
      go_ret2
      exact ⟨rfl, K.out.drewN _⟩
end Go.Proofs.Ytibgggchofpllaa
