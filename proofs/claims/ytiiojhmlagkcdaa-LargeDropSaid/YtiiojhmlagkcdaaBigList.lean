/-
  Whether a stack has a word in common with one of a list; a list without one of its stacks; the words of a list; whether two lists are alike. Own work; each is proved by a walk through the landed text.
-/
import Derived.Test.YtiiojhmlagkcdaaRows
import Derived.Test.YtiiojhmlagkcdaaBigApp
import Derived.Test.YtiiojhmlagkcdaaSizeCalls
import Derived.Test.YtiiojhmlagkcdaaBigCalls
import Derived.Test.YtiiojhmlagkcdaaBigOver
import Derived.WalkKit
import Derived.ProofKit
import Derived.OpenShut
import Derived.Outline
import Derived.Deep.Light
import Derived.Deep.QuietTactic
import Derived.BigQuiet
import Derived.IntWalk
import Derived.StillTailTactics
import Derived.RegionTactic
import Derived.Deep.RegionLaw
import Derived.ChangeAlike
import Derived.Deep.RegionHeld3
import Derived.Deep.CutRange
namespace Go.Proofs.Ytiiojhmlagkcdaa.Bg
open Go.ChangeShapes Go.WideShapes Go.ChangeAt Go.RowKit
set_option maxRecDepth 100000


/-- num.Over of two that are valid, where the answer is known. -/
theorem nover_lit {a b : R} {B : Bool} (h : hitB a b = B) (ha : mayB a = true) (hb : mayB b = true) (w : World) :
    Calls Try.prog 31 #[.int .i64 a.1, .int .i64 (wordsI a.2), .int .i64 b.1, .int .i64 (wordsI b.2)] w fun e w' => e = .returned (.bool B) ∧ w = w' := by
  subst h
  have ma := may_of ha
  have mb := may_of hb
  exact nover_any a.1 (wordsI a.2) b.1 (wordsI b.2) w ma.a0 (by have := ma.fit; have := ma.w0; omega) (by have := ma.w0; omega) ma.w1 mb.a0 (by have := mb.fit; have := mb.w0; omega) (by have := mb.w0; omega) mb.w1
set_option maxHeartbeats 1000000 in
theorem over_any (A : Option Addr) (n c : Nat) (l : List R) (b : R) (w : World) (h : Rs w A n l) (hm : ∀ x ∈ l, mayB x = true) (hb : mayB b = true) (hn : n ≤ 1000) : Calls Try.prog 20 #[.slice A n c, run b] w fun e w' => e = .returned (.bool (anyB l b)) ∧ Kept Old w w' := by
  have HR := Lib.hid h
  have HM := Lib.hid hm
  have HB := Lib.hid hb
  clear h hm hb
  go_enter Try.func20, Try.ntmps20
  go_wp2_with fail
  have K0 := Lib.hid ((Kept.refl Old w).alloc (.cells #[.int .i64 b.1, .int .i64 b.2] 24))
  have B0 := Lib.hid (Bx.new w b)
  generalize hs : w.heap.size = s at *
  go_loopw [9] (fun j wr => ∃ k : Nat, k ≤ n ∧ j = .int .i64 (k : Int) ∧ Hid (anyB (l.take k) b = false) ∧ Hid (Bx wr s b) ∧ Hid (Kept Old w wr)) (fun j _ => n - (intOf j).toNat)
  case atStart => exact ⟨0, by omega, rfl, Lib.hid rfl, B0, K0⟩
  case round =>
    obtain ⟨k, hk, rfl, HL, B, K⟩ := hrel
    rename World => W
    clear B0 K0
    by_cases d : k < n
    · obtain ⟨g, o, x, rfl, _, hx, f1, f2, c0, c1⟩ := (HR.out.old K.out).get d
      have hx' := Lib.hid hx
      have mx := Lib.hid (HM.out x (List.mem_of_getElem? hx))
      have b0 := B.out.c0
      have b1 := B.out.c1
      have bl := Blk.lt B.out
      clear hx
      cases q : hitB x b with
      | false =>
        have ov := Lib.hid (fun W => nover_lit q mx.out HB.out W)
        have L := Lib.hid (show anyB (l.take (k + 1)) b = false from by rw [any_take hx'.out, HL.out, q]; rfl)
        clear q
        go_wp2_with fail
        go_quiet (first | (go_at_call 29; exact Calls.quiet_of_same ((words_any _ _).mono fun e w' h => ⟨h.1, h.2.symm⟩)) | (go_at_call 31; exact Calls.quiet_of_same ((ov.out _).mono fun e w' h => ⟨h.1, h.2.symm⟩)))
        go_wp2
        refine ⟨⟨k + 1, by omega, by go_num, L, Lib.hid ((B.out.alloc _).drewN _), Lib.hid ((K.out.alloc _).drewN _)⟩, ?_⟩
        simp [intOf]; omega
      | true =>
        have ov := Lib.hid (fun W => nover_lit q mx.out HB.out W)
        have L := Lib.hid (show anyB l b = true from any_true (List.mem_of_getElem? hx'.out) q)
        clear q
        go_wp2_with fail
        go_quiet (first | (go_at_call 29; exact Calls.quiet_of_same ((words_any _ _).mono fun e w' h => ⟨h.1, h.2.symm⟩)) | (go_at_call 31; exact Calls.quiet_of_same ((ov.out _).mono fun e w' h => ⟨h.1, h.2.symm⟩)))
        go_wp2
        go_ret
        exact ⟨by rw [L.out]; rfl, (K.out.alloc _).drewN _⟩
    · have L : anyB l b = false := by
        have := HL.out
        rwa [List.take_of_length_le (by have := HR.out.len; omega)] at this
      have L := Lib.hid L
      go_wp2
      go_ret
      exact ⟨by rw [L.out]; rfl, K.out⟩
set_option maxHeartbeats 1000000 in
theorem bwords_any (A : Option Addr) (n c : Nat) (l : List R) (w : World) (h : Rs w A n l) (hn : n ≤ 1000) : Calls Try.prog 16 #[.slice A n c] w fun e w' => e = .returned (.int .i64 (wordsL l)) ∧ Kept Old w w' := by
  have HR := Lib.hid h
  clear h
  go_enter Try.func16, Try.ntmps16
  go_wp2_with fail
  go_loopw [3, 8] (fun f j wr => ∃ k : Nat, k ≤ n ∧ f = .int .i64 (wordsL (l.take k)) ∧ j = .int .i64 (k : Int) ∧ Hid (Kept Old w wr)) (fun _ j _ => n - (intOf j).toNat)
  case atStart => exact ⟨0, by omega, rfl, rfl, Lib.hid (Kept.refl _ _)⟩
  case round =>
    obtain ⟨k, hk, rfl, rfl, K⟩ := hrel
    rename World => W
    have z := words_lim (l.take k)
    have hl : (l.take k).length ≤ k := List.length_take_le _ _
    by_cases d : k < n
    · obtain ⟨g, o, x, rfl, _, hx, f1, f2, c0, c1⟩ := (HR.out.old K.out).get d
      have L := Lib.hid (words_snoc hx)
      have xl := wordsI_lim x.2
      clear hx
      go_wp2_with (go_at_call 29; refine (words_any _ _).mono ?_; rintro e w' ⟨rfl, rfl⟩)
      refine ⟨⟨k + 1, by omega, by rw [L.out], by go_num, Lib.hid (K.out.alloc _)⟩, ?_⟩
      simp [intOf]; omega
    · have L := Lib.hid (show wordsL (l.take k) = wordsL l from by rw [List.take_of_length_le (by have := HR.out.len; omega)])
      go_wp2
      go_ret
      exact ⟨by rw [← L.out]; rfl, K.out⟩
set_option maxHeartbeats 1000000 in
theorem rbwords_any (A : Option Addr) (n c : Nat) (l : List R) (w : World) (h : Rs w A n l) (hn : n ≤ 1000) : Calls Try.prog 27 #[.slice A n c] w fun e w' => e = .returned (.int .i64 (wordsL l)) ∧ Kept Old w w' := by
  have HR := Lib.hid h
  clear h
  go_enter Try.func27, Try.ntmps27
  go_wp2_with fail
  go_loopw [3, 4] (fun f j wr => ∃ k : Nat, k ≤ n ∧ f = .int .i64 (wordsL (l.take k)) ∧ j = .int .i64 (k : Int) ∧ Hid (Kept Old w wr)) (fun _ j _ => n - (intOf j).toNat)
  case atStart => exact ⟨0, by omega, rfl, rfl, Lib.hid (Kept.refl _ _)⟩
  case round =>
    obtain ⟨k, hk, rfl, rfl, K⟩ := hrel
    rename World => W
    have z := words_lim (l.take k)
    have hl : (l.take k).length ≤ k := List.length_take_le _ _
    by_cases d : k < n
    · obtain ⟨g, o, x, rfl, _, hx, f1, f2, c0, c1⟩ := (HR.out.old K.out).get d
      have L := Lib.hid (words_snoc hx)
      have xl := wordsI_lim x.2
      clear hx
      go_wp2_with (go_at_call 13; refine (rwords_any _ _).mono ?_; rintro e w' ⟨rfl, rfl⟩)
      refine ⟨⟨k + 1, by omega, by rw [L.out], by go_num, K⟩, ?_⟩
      simp [intOf]; omega
    · have L := Lib.hid (show wordsL (l.take k) = wordsL l from by rw [List.take_of_length_le (by have := HR.out.len; omega)])
      go_wp2
      go_ret
      exact ⟨by rw [← L.out]; rfl, K.out⟩
end Go.Proofs.Ytiiojhmlagkcdaa.Bg
