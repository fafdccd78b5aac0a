/-
  slices.Contains of integers, and make of an empty slice of integers with room. Own work; proved by walks through the landed text.
-/
import Derived.Test.YtjchdkjncfjibaaRows
import Derived.Test.YtjchdkjncfjibaaIntMem
import Derived.WalkKit
import Derived.ProofKit
import Derived.OpenShut
import Derived.Outline
import Derived.Deep.Light
import Derived.IntWalk
namespace Go.Proofs.Ytjchdkjncfjibaa.Fi
open Go.ChangeShapes Go.WideShapes Go.ChangeAt Go.RowKit
set_option maxRecDepth 100000

theorem take_atI {l : List Int} {k : Nat} {x : Int} (hx : l[k]? = some x) : l.take (k + 1) = l.take k ++ [x] := by
  rw [List.take_add_one, hx]; rfl
theorem index_any (A : Option Addr) (n cc : Nat) (l : List Int) (a : Int) (w : World) (h : RsI w A n l) (hn : n ≤ 100000) :
    Calls Try.prog 25 #[.slice A n cc, .int .i64 a] w fun e w' => ∃ z : Int, e = .returned (.int .i64 z) ∧ (0 ≤ z ↔ a ∈ l) ∧ w = w' := by
  have HR := Lib.hid h
  clear h
  go_enter Try.func25, Try.ntmps25
  go_wp2_with fail
  go_loopw [8] (fun i wr => ∃ k : Nat, k ≤ n ∧ i = .int .i64 (k : Int) ∧ Hid (a ∉ l.take k) ∧ w = wr) (fun i _ => n - (intOf i).toNat)
  case atStart => exact ⟨0, by omega, rfl, Lib.hid (by simp), rfl⟩
  case round =>
    obtain ⟨k, hk, rfl, HB, rfl⟩ := hrel
    by_cases c : k < n
    · obtain ⟨g, o, x, rfl, _, hx, _, cx⟩ := HR.out.get c
      have hx := Lib.hid hx
      by_cases d : a = x
      · subst d
        have P1 := Lib.hid (show (0 ≤ (k : Int) ↔ a ∈ l) from ⟨fun _ => List.mem_of_getElem? hx.out, fun _ => by omega⟩)
        clear hx
        go_wp2_with fail
        go_ret
        exact ⟨_, rfl, P1.out, rfl⟩
      · have d' : (a == x) = false := by simp [d]
        have hs := Lib.hid (show a ∉ l.take (k + 1) from fun hm => by
          rw [take_atI hx.out] at hm
          rcases List.mem_append.1 hm with hm | hm
          · exact HB.out hm
          · exact d (List.mem_singleton.1 hm))
        have dd := Lib.hid d
        clear d hx
        go_wp2_with fail
        refine ⟨⟨k + 1, by omega, by go_num, hs, by first | trivial | rfl⟩, ?_⟩
        simp [intOf]; omega
    · obtain rfl : k = n := by omega
      have P1 := Lib.hid (show ((0 : Int) ≤ -1 ↔ a ∈ l) from ⟨fun h => by omega, fun h => absurd h (by have := HB.out; rw [← HR.out.len, List.take_length] at this; exact this)⟩)
      go_wp2_with fail
      go_ret
      exact ⟨_, rfl, P1.out, rfl⟩
theorem contains_any (A : Option Addr) (n cc : Nat) (l : List Int) (a : Int) (w : World) (h : RsI w A n l) (hn : n ≤ 100000) :
    Calls Try.prog 23 #[.slice A n cc, .int .i64 a] w fun e w' => e = .returned (.bool (decide (a ∈ l))) ∧ w = w' := by
  have HC := Lib.hid (index_any A n cc l a w h hn)
  clear h
  go_enter Try.func23, Try.ntmps23
  go_wp2_with fail
  refine HC.out.mono ?_
  rintro e w' ⟨z, rfl, hz, rfl⟩
  have e := Lib.hid (show decide ((0 : Int) ≤ z) = decide (a ∈ l) from decide_eq_decide.mpr hz)
  clear hz
  go_wp2_with fail
  go_ret
  exact ⟨by rw [← e.out]; rfl, rfl⟩
theorem make_ints (w : World) (B n : Nat) (hn : n ≤ 100000) (hb : B ≤ w.heap.size) :
    ∃ w', (Instr.makeSlice 22 (.int .i64 0) (.int .i64 (n : Int))).run Try.prog w = .ok (.slice (some ⟨w.heap.size, 0, none⟩) 0 n) w' ∧ OwI w' B (.slice (some ⟨w.heap.size, 0, none⟩) 0 n) 0 [] ∧ Kept Old w w' := by
  obtain ⟨i0, hi, hz0, hz1, hz2⟩ := info_parts Try.intInfo1
  obtain ⟨w', hrun, r1, r2⟩ := run_make_own (P := Try.prog) w B 22 3 i0 _ 1 Try.underlying22 hi hz0 hz1 .i64 .i64 n (by rw [hz2]; omega) (by simp only [maxLen]; omega) hb
  exact ⟨w', hrun, ⟨r1, fun _ h => by cases h⟩, Kept.grown (Kept.refl _ _) r2 (fun g e _ => by cases e)⟩
theorem make_wpI {ops : Array Oper} {rest : List Oper} {o : Oper} {a : Act} {Q : Exit → Act → World → Prop} {w : World} (hg : o.guard = none) (lo hi : Operand) (hop : o.op = Op.makeSlice 22 lo hi) (B n : Nat) (X : Int) (hl : a.eval lo = .int .i64 0) (hc : a.eval hi = .int .i64 X) (hX : X = (n : Int)) (hn : n ≤ 100000) (hb : B ≤ w.heap.size)
    (go : ∀ w', Hid (OwI w' B (.slice (some ⟨w.heap.size, 0, none⟩) 0 n) 0 []) → Hid (Kept Old w w') → wpList Try.prog ops Q rest (a.put o.dst (.slice (some ⟨w.heap.size, 0, none⟩) 0 n)) w') : wpList Try.prog ops Q (o :: rest) a w := by
  subst hX
  refine wpList_plain hg fun K hK => ?_
  obtain ⟨w', hrun, r1, r2⟩ := make_ints w B n hn hb
  unfold Oper.wp
  simp [execOp, hop, hl, hc, hrun, Result.andThen]
  exact hK _ _ (go w' r1 r2)
end Go.Proofs.Ytjchdkjncfjibaa.Fi
