/-
  What the document's own Of, Add and Remove answer where nothing is turned. Own work; each is proved by a walk through the landed text.
-/
import Derived.Test.YtibgggchofpllaaRows
import Derived.Test.YtibgggchofpllaaSpanCalls
import Derived.Test.YtibgggchofpllaaSpanOf
import Derived.Test.YtibgggchofpllaaSpanRem
import Derived.Test.YtibgggchofpllaaSpanAdd
import Derived.Test.YtibgggchofpllaaSpanRef
namespace Go.Proofs.Ytibgggchofpllaa
open Go.ChangeShapes Go.WideShapes Go.ChangeAt Go.RowKit
set_option maxRecDepth 100000

set_option maxHeartbeats 1000000 in
theorem rof_no (A : Option Addr) (n c : Nat) (P : Int) (l : List S) (q : Int) (w : World) (h : Rs w A n l) (g : Good P l) (hP : 0 ≤ P ∧ P ≤ 256) (hx : ofL l q = none) :
    Calls Try.prog 14 #[.slice A n c, .int .i64 q] w fun e w' => e = .returned (.tuple #[spn noS, .bool false]) ∧ Kept Old w w' := by
  have hn : n ≤ 256 := by have := g.len hP.1; have := h.len; omega
  have HR := Lib.hid h
  have HG := Lib.hid g
  have HN := Lib.hid (of_none g hx)
  have k0 := Lib.hid ((Kept.refl Old w).alloc (.cells #[.int .i64 0, .int .i64 0, .int .i64 0] 30))
  have B0 := Lib.hid (Bx.new w noS)
  clear h g hx
  obtain ⟨p1, p2⟩ := hP
  go_enter Try.func14, Try.ntmps14
  go_wp2_with fail
  generalize hs : w.heap.size = s at *
  go_loopw [6] (fun i wr => ∃ k : Nat, k ≤ n ∧ i = .int .i64 (k : Int) ∧ Hid (Bx wr s noS) ∧ Hid (Kept Old w wr)) (fun i _ => n - (intOf i).toNat)
  case atStart => exact ⟨0, by omega, rfl, B0, k0⟩
  case round =>
    obtain ⟨k, hk, rfl, BW, K⟩ := hrel
    rename World => W
    clear B0 k0
    by_cases c : k < n
    · obtain ⟨gg, o, y, rfl, hgl, hx, f1, a0, a1, a2⟩ := (HR.out.old K.out).get c
      obtain ⟨b1, b2, b3, b4, b5⟩ := HG.out.at hx
      have wr : IntKind.i64.wrap (y.a + y.n) = y.a + y.n := IntWalk.i64_in _ (by omega)
      have z := HN.out k y hx
      clear hx f1
      by_cases d : y.a ≤ q
      · have t1 : decide (y.a ≤ q) = true := decide_eq_true d
        have t2 : decide (q < y.a + y.n) = false := decide_eq_false (by omega)
        clear z d
        go_wp2_with fail
        go_quiet (fail)
        go_wp2
        refine ⟨⟨k + 1, by omega, by go_num, BW, Lib.hid (K.out.drewN _)⟩, ?_⟩
        simp [intOf]; omega
      · have t1 : decide (y.a ≤ q) = false := decide_eq_false d
        clear z d
        go_wp2_with fail
        go_quiet (fail)
        go_wp2
        refine ⟨⟨k + 1, by omega, by go_num, BW, Lib.hid (K.out.drewN _)⟩, ?_⟩
        simp [intOf]; omega
    · have s0 := BW.out.c0
      have s1 := BW.out.c1
      have s2 := BW.out.c2
      have sf := Blk.frozen BW.out
      obtain ⟨V, hV, v0, v1, v2, KV, _⟩ := BW.out.end3 K.out (by omega) noS
      have KV := Lib.hid KV
      go_wp2
      exact bodyPost_ret (v := .tuple #[spn noS, .bool false]) (by simp [results, Try.results14, go_sem, v0, v1, v2]) rfl ⟨rfl, KV.out⟩
theorem ok_six {x : S} {P : Int} (h : okB x P = false) : x.n < 1 ∨ (¬ x.n < 1 ∧ x.a < 0) ∨ (¬ x.n < 1 ∧ ¬ x.a < 0 ∧ P < x.a) ∨ (¬ x.n < 1 ∧ ¬ x.a < 0 ∧ ¬ P < x.a ∧ P - x.a < x.n) ∨ (¬ x.n < 1 ∧ ¬ x.a < 0 ∧ ¬ P < x.a ∧ ¬ P - x.a < x.n ∧ x.c < 0) ∨ (¬ x.n < 1 ∧ ¬ x.a < 0 ∧ ¬ P < x.a ∧ ¬ P - x.a < x.n ∧ ¬ x.c < 0 ∧ 8 ≤ x.c) := by
  have := of_decide_eq_false h
  omega
theorem radd_arg (A : Option Addr) (n c : Nat) (P : Int) (x : S) (w : World) (hP : 0 ≤ P ∧ P ≤ 256) (hx : okB x P = false) :
    Calls Try.prog 17 #[.slice A n c, .int .i64 P, spn x] w fun e w' => e = .returned (.tuple #[.slice A n c, .int .i64 1]) ∧ Kept Old w w' := by
  obtain ⟨p1, p2⟩ := hP
  rcases ok_six hx with h1 | ⟨h1, h2⟩ | ⟨h1, h2, h3⟩ | ⟨h1, h2, h3, h4⟩ | ⟨h1, h2, h3, h4, h5⟩ | ⟨h1, h2, h3, h4, h5, h6⟩
  all_goals
    clear hx
    go_enter Try.func17, Try.ntmps17
    go_wp2
    go_ret2
    exact ⟨rfl, (Kept.refl _ _).alloc _⟩
set_option maxHeartbeats 1000000 in
theorem rrem_no (A : Option Addr) (n cc : Nat) (P : Int) (l : List S) (q : Int) (w : World) (h : Rs w A n l) (g : Good P l) (hP : 0 ≤ P ∧ P ≤ 256) (hx : begL l q = none) :
    Calls Try.prog 18 #[.slice A n cc, .int .i64 q] w fun e w' => e = .returned (.tuple #[.slice A n cc, spn noS, .int .i64 2]) ∧ Kept Old w w' := by
  have hn : n ≤ 256 := by have := g.len hP.1; have := h.len; omega
  have HR := Lib.hid h
  have HN := Lib.hid (beg_none_all g hx)
  have k0 := Lib.hid ((Kept.refl Old w).alloc (.cells #[.int .i64 0, .int .i64 0, .int .i64 0] 30))
  have B0 := Lib.hid (Bx.new w noS)
  clear h g hx
  go_enter Try.func18, Try.ntmps18
  go_wp2_with fail
  generalize hs : w.heap.size = s at *
  go_loopw [7] (fun i wr => ∃ k : Nat, k ≤ n ∧ i = .int .i64 (k : Int) ∧ Hid (Bx wr s noS) ∧ Hid (Kept Old w wr)) (fun i _ => n - (intOf i).toNat)
  case atStart => exact ⟨0, by omega, rfl, B0, k0⟩
  case round =>
    obtain ⟨k, hk, rfl, BW, K⟩ := hrel
    rename World => W
    clear B0 k0
    by_cases c : k < n
    · obtain ⟨gg, o, y, rfl, hgl, hx, f1, a0, a1, a2⟩ := (HR.out.old K.out).get c
      have z : (y.a == q) = false := beq_eq_false_iff_ne.2 (HN.out k y hx)
      clear hx f1
      go_wp2
      refine ⟨⟨k + 1, by omega, by go_num, BW, K⟩, ?_⟩
      simp [intOf]; omega
    · have s0 := BW.out.c0
      have s1 := BW.out.c1
      have s2 := BW.out.c2
      have sf := Blk.frozen BW.out
      obtain ⟨V, hV, v0, v1, v2, KV, _⟩ := BW.out.end3 K.out (by omega) noS
      have KV := Lib.hid KV
      go_wp2
      exact bodyPost_ret (v := .tuple #[.slice A n cc, spn noS, .int .i64 2]) (by simp [results, Try.results18, go_sem, v0, v1, v2]) rfl ⟨rfl, KV.out⟩
end Go.Proofs.Ytibgggchofpllaa
