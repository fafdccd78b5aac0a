/-
  What the document's own functions on lists of spans answer (but Add and Remove where they turn a list). Own work; each is proved by a walk through the landed text.
-/
import Derived.Test.YtdolchlhphoggaaRows
import Derived.Test.YtdolchlhphoggaaSpanCalls
import Derived.Test.YtdolchlhphoggaaSpanOf
import Derived.Test.YtdolchlhphoggaaSpanRem
import Derived.Test.YtdolchlhphoggaaSpanAdd
namespace Go.Proofs.Ytdolchlhphoggaa
open Go.ChangeShapes Go.WideShapes Go.ChangeAt Go.RowKit
set_option maxRecDepth 100000

theorem overS_no (x r : S) (w : World) (h0 : 0 ≤ x.a) (h1 : 1 ≤ x.n) (h2 : x.a + x.n ≤ 256) (g0 : 0 ≤ r.a) (g1 : 1 ≤ r.n) (g2 : r.a + r.n ≤ 256) (c : x.a + x.n ≤ r.a ∨ r.a + r.n ≤ x.a) :
    Calls Try.prog 51 #[.int .i64 x.a, .int .i64 x.n, .int .i64 r.a, .int .i64 r.n] w fun e w' => e = .returned (.bool false) ∧ w = w' := by
  by_cases d : x.a < r.a + r.n
  · have d2 : ¬ r.a < x.a + x.n := by omega
    clear c
    go_enter Try.func51, Try.ntmps51
    go_wp2
    go_ret
    exact ⟨rfl, rfl⟩
  · clear c
    go_enter Try.func51, Try.ntmps51
    go_wp2
    go_ret
    exact ⟨rfl, rfl⟩
theorem overS_yes (x r : S) (w : World) (h0 : 0 ≤ x.a) (h1 : 1 ≤ x.n) (h2 : x.a + x.n ≤ 256) (g0 : 0 ≤ r.a) (g1 : 1 ≤ r.n) (g2 : r.a + r.n ≤ 256) (c : x.a < r.a + r.n) (d : r.a < x.a + x.n) :
    Calls Try.prog 51 #[.int .i64 x.a, .int .i64 x.n, .int .i64 r.a, .int .i64 r.n] w fun e w' => e = .returned (.bool true) ∧ w = w' := by
  go_enter Try.func51, Try.ntmps51
  go_wp2
  go_ret
  exact ⟨rfl, rfl⟩
theorem sameS_yes (A B : Option Addr) (n c d : Nat) (l : List S) (w : World) (ha : RsS w A n l) (hb : RsS w B n l) (hn : n ≤ 1000) :
    Calls Try.prog 31 #[.slice A n c, .slice B n d] w fun e w' => e = .returned (.bool true) ∧ Kept Old w w' := by
  have HA := Lib.hid ha
  have HB := Lib.hid hb
  clear ha hb
  go_enter Try.func31, Try.ntmps31
  go_wp2
  go_loopw [5] (fun i wr => ∃ k : Nat, k ≤ n ∧ i = .int .i64 (k : Int) ∧ Hid (Kept Old w wr)) (fun i _ => n - (intOf i).toNat)
  case atStart => exact ⟨0, by omega, rfl, Lib.hid (Kept.refl _ _)⟩
  case round =>
    obtain ⟨k, hk, rfl, K⟩ := hrel
    rename World => W
    by_cases c : k < n
    · obtain ⟨g, o, x, rfl, _, hx, f1, a0, a1, a2⟩ := (HA.out.old K.out).get c
      obtain ⟨g', o', y, rfl, _, hy, f1', b0, b1, b2⟩ := (HB.out.old K.out).get c
      obtain rfl : x = y := by rw [hx] at hy; exact Option.some.inj hy
      clear hx hy f1 f1'
      go_wp2_with fail
      go_quiet (fail)
      go_wp2
      refine ⟨⟨k + 1, by omega, by go_num, Lib.hid (K.out.drewN _)⟩, ?_⟩
      simp [intOf]; omega
    · go_wp2
      go_ret
      exact ⟨rfl, K.out⟩
set_option maxHeartbeats 1000000 in
theorem rof_yes (A : Option Addr) (n c : Nat) (P : Int) (l : List S) (q : Int) (x : S) (w : World) (h : RsS w A n l) (g : Good P l) (hP : 0 ≤ P ∧ P ≤ 256) (hx : ofL l q = some x) :
    Calls Try.prog 16 #[.slice A n c, .int .i64 q] w fun e w' => e = .returned (.tuple #[spn x, .bool true]) ∧ Kept Old w w' := by
  obtain ⟨hy, h1, h2⟩ := of_some hx
  have hlen := h.len
  have hn : n ≤ 256 := by have := g.len hP.1; omega
  have hlt : placeL l q < n := by have := (List.getElem?_eq_some_iff.1 hy).1; omega
  have HR := Lib.hid h
  have HG := Lib.hid g
  have HY := Lib.hid hy
  have k0 := Lib.hid ((Kept.refl Old w).alloc (.cells #[.int .i64 0, .int .i64 0, .int .i64 0] 44))
  have B0 := Lib.hid (BxS.new w noS)
  obtain ⟨j, hj⟩ : ∃ j, placeL l q = j := ⟨_, rfl⟩
  have hlo := Lib.hid (fun i y => place_lo l q (i := i) (y := y))
  rw [hj] at hlt HY hlo
  clear h g hx hy hlen hj
  obtain ⟨p1, p2⟩ := hP
  go_enter Try.func16, Try.ntmps16
  go_wp2_with fail
  generalize hs : w.heap.size = s at *
  go_loopw [6] (fun i wr => ∃ k : Nat, k ≤ j ∧ i = .int .i64 (k : Int) ∧ Hid (BxS wr s noS) ∧ Hid (Kept Old w wr)) (fun i _ => j + 1 - (intOf i).toNat)
  case atStart => exact ⟨0, by omega, rfl, B0, k0⟩
  case round =>
    obtain ⟨k, hk, rfl, BW, K⟩ := hrel
    rename World => W
    clear B0 k0
    obtain ⟨gg, o, y, rfl, hgl, hx, f1, a0, a1, a2⟩ := (HR.out.old K.out).get (k := k) (by omega)
    obtain ⟨b1, b2, b3, b4, b5⟩ := HG.out.at hx
    have wr : IntKind.i64.wrap (y.a + y.n) = y.a + y.n := IntWalk.i64_in _ (by omega)
    by_cases c : k < j
    · have z := hlo.out k y hx c
      have t1 : decide (y.a ≤ q) = true := decide_eq_true (by omega)
      have t2 : decide (q < y.a + y.n) = false := decide_eq_false (by omega)
      clear hx f1
      go_wp2_with fail
      go_quiet (fail)
      go_wp2
      refine ⟨⟨k + 1, by omega, by go_num, BW, Lib.hid (K.out.drewN _)⟩, ?_⟩
      simp [intOf]; omega
    · obtain rfl : k = j := by omega
      obtain rfl : y = x := by have := HY.out; rw [hx] at this; exact Option.some.inj this
      have t1 : decide (y.a ≤ q) = true := decide_eq_true h1
      have t2 : decide (q < y.a + y.n) = true := decide_eq_true h2
      have s0 := BW.out.c0
      have s1 := BW.out.c1
      have s2 := BW.out.c2
      have sf := Blk.frozen BW.out
      clear hx f1
      go_wp2_with fail
      go_quiet (fail)
      have BW' : BxS (W.drewN nq) s noS := Blk.drewN BW.out nq
      obtain ⟨V, hV, v0, v1, v2, KV, _⟩ := BW'.end3 (K.out.drewN nq) (by omega) y
      have KV := Lib.hid KV
      go_wp2
      exact bodyPost_ret (v := .tuple #[spn y, .bool true]) (by simp [results, Try.results16, go_sem, v0, v1, v2]) rfl ⟨rfl, KV.out⟩
end Go.Proofs.Ytdolchlhphoggaa
