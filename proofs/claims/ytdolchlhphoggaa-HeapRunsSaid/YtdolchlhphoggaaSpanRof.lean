/-
  What the document's own Of answers. Own work; each is proved by a walk through the landed text.
-/
import Derived.Test.YtdolchlhphoggaaRows
import Derived.Test.YtdolchlhphoggaaSpanCalls
import Derived.Test.YtdolchlhphoggaaSpanOf
import Derived.Test.YtdolchlhphoggaaSpanRem
import Derived.Test.YtdolchlhphoggaaSpanAdd
import Derived.Test.YtdolchlhphoggaaSpanRef
import Derived.Test.YtdolchlhphoggaaSpanSt
namespace Go.Proofs.Ytdolchlhphoggaa
open Go.ChangeShapes Go.WideShapes Go.ChangeAt Go.RowKit
set_option maxRecDepth 100000

set_option maxHeartbeats 1000000 in
theorem rof_no (A : Option Addr) (n c : Nat) (P : Int) (l : List S) (q : Int) (w : World) (h : RsS w A n l) (g : Good P l) (hP : 0 ≤ P ∧ P ≤ 256) (hx : ofL l q = none) :
    Calls Try.prog 16 #[.slice A n c, .int .i64 q] w fun e w' => e = .returned (.tuple #[spn noS, .bool false]) ∧ Kept Old w w' := by
  have hn : n ≤ 256 := by have := g.len hP.1; have := h.len; omega
  have HR := Lib.hid h
  have HG := Lib.hid g
  have HN := Lib.hid (of_none g hx)
  have k0 := Lib.hid ((Kept.refl Old w).alloc (.cells #[.int .i64 0, .int .i64 0, .int .i64 0] 44))
  have B0 := Lib.hid (BxS.new w noS)
  clear h g hx
  obtain ⟨p1, p2⟩ := hP
  go_enter Try.func16, Try.ntmps16
  go_wp2_with fail
  generalize hs : w.heap.size = s at *
  go_loopw [6] (fun i wr => ∃ k : Nat, k ≤ n ∧ i = .int .i64 (k : Int) ∧ Hid (BxS wr s noS) ∧ Hid (Kept Old w wr)) (fun i _ => n - (intOf i).toNat)
  case atStart => exact ⟨0, by omega, rfl, B0, k0⟩
  case round =>
    obtain ⟨k, hk, rfl, BW, K⟩ := hrel
    rename World => W
    clear B0 k0
    by_cases c : k < n
    · obtain ⟨gg, o, y, rfl, hgl, hx, f1, a0, a1, a2⟩ := (HR.out.old K.out).get c
      obtain ⟨b1, b2, b3, b4, b5⟩ := HG.out.at hx
      have wr : IntKind.i64.wrap (y.a + y.n) = y.a + y.n := IntWalk.i64_in _ (by omega)
      have z := HN.out k y hx
      clear hx f1
      by_cases d : y.a ≤ q
      · have t1 : decide (y.a ≤ q) = true := decide_eq_true d
        have t2 : decide (q < y.a + y.n) = false := decide_eq_false (by omega)
        clear z d
        go_wp2_with fail
        go_quiet (fail)
        go_wp2
        refine ⟨⟨k + 1, by omega, by go_num, BW, Lib.hid (K.out.drewN _)⟩, ?_⟩
        simp [intOf]; omega
      · have t1 : decide (y.a ≤ q) = false := decide_eq_false d
        clear z d
        go_wp2_with fail
        go_quiet (fail)
        go_wp2
        refine ⟨⟨k + 1, by omega, by go_num, BW, Lib.hid (K.out.drewN _)⟩, ?_⟩
        simp [intOf]; omega
    · have s0 := BW.out.c0
      have s1 := BW.out.c1
      have s2 := BW.out.c2
      have sf := Blk.frozen BW.out
      obtain ⟨V, hV, v0, v1, v2, KV, _⟩ := BW.out.end3 K.out (by omega) noS
      have KV := Lib.hid KV
      go_wp2
      exact bodyPost_ret (v := .tuple #[spn noS, .bool false]) (by simp [results, Try.results16, go_sem, v0, v1, v2]) rfl ⟨rfl, KV.out⟩
theorem rof_any (A : Option Addr) (n c : Nat) (P : Int) (l : List S) (q : Int) (W : World) (h : RsS W A n l) (g : Good P l) (hP : 0 ≤ P ∧ P ≤ 256) :
    Calls Try.prog 16 #[.slice A n c, .int .i64 q] W fun e W' => e = .returned (.tuple #[spn (ofX l q), .bool (ofB l q)]) ∧ Kept Old W W' := by
  unfold ofX ofB
  cases b : ofL l q with
  | none => exact rof_no A n c P l q W h g hP b
  | some x => exact rof_yes A n c P l q x W h g hP b
end Go.Proofs.Ytdolchlhphoggaa
