/-
  That the program and the document answer alike of right lists (the law's same). Own work; proved by a walk through the landed text.
-/
import Derived.Test.YtiiojhmlagkcdaaRows
import Derived.Test.YtiiojhmlagkcdaaBigApp
import Derived.Test.YtiiojhmlagkcdaaSizeCalls
import Derived.Test.YtiiojhmlagkcdaaBigCalls
import Derived.Test.YtiiojhmlagkcdaaBigList
import Derived.Test.YtiiojhmlagkcdaaBigPut
import Derived.Test.YtiiojhmlagkcdaaBigRput
import Derived.Test.YtiiojhmlagkcdaaBigTake
import Derived.Test.YtiiojhmlagkcdaaBigRtake
import Derived.Test.YtiiojhmlagkcdaaBigRight
import Derived.Test.YtiiojhmlagkcdaaBigRright
import Derived.Test.YtiiojhmlagkcdaaBigLaw
import Derived.WalkKit
import Derived.ProofKit
import Derived.OpenShut
import Derived.Outline
import Derived.Deep.Light
import Derived.Deep.QuietTactic
import Derived.BigQuiet
import Derived.IntWalk
import Derived.StillTailTactics
import Derived.RegionTactic
import Derived.Deep.RegionLaw
import Derived.ChangeAlike
import Derived.Deep.RegionHeld3
import Derived.Deep.CutRange
namespace Go.Proofs.Ytiiojhmlagkcdaa.Bg
open Go.ChangeShapes Go.WideShapes Go.ChangeAt Go.RowKit
set_option maxRecDepth 100000




set_option maxHeartbeats 8000000 in
theorem same_any (A : Option Addr) (n c : Nat) (l : List R) (b : R) (cl : Int) (w : World) (h : Rs w A n l) (hr : RightL l) (hn : n ≤ 300) (hc : n ≤ c) (hA : A = none → c = 0) (hb : in64 b.1 ∧ in64 b.2) :
    Calls Try.prog 10 #[.slice A n c, run b, .int .i64 cl] w fun e w' => e = .returned (.bool true) ∧ Kept Old w w' := by
  have HR := Lib.hid h
  have lp := Lib.hid (put_length l b)
  have lt := Lib.hid (take_sub l cl).length_le
  have hlen := h.len
  have P1 := Lib.hid (fun W h => put_any A n c l b W h hr hb (by omega) hc hA)
  have P2 := Lib.hid (fun W h => rput_any A n c l b W h hr hb (by omega) hc hA)
  have T1 := Lib.hid (fun W h => take_any A n c l cl W h (by omega) hc)
  have T2 := Lib.hid (fun W h => rtake_any A n c l cl W h (by omega) hc)
  have D1 := Lib.hid (fun W h => drop_any A n c l W h (by omega) hc)
  have D2 := Lib.hid (fun W h => rdrop_any A n c l W h (by omega) hc)
  have W1 := Lib.hid (fun W h => bwords_any A n c l W h (by omega))
  have W2 := Lib.hid (fun W h => rbwords_any A n c l W h (by omega))
  have ld : (l.drop 1).length ≤ l.length := by simp
  generalize putC l b = C at *
  generalize putL l b = L1 at *
  generalize takeC l cl = E at *
  generalize takeL l cl = L2 at *
  generalize takeA l cl = a at *
  generalize l.drop 1 = L3 at *
  generalize headL l = x at *
  generalize dropB l = ok at *
  generalize wordsL l = S at *
  clear h hr hb hA
  go_enter Try.func10, Try.ntmps10
  go_wp2_with fail
  refine (P1.out _ (HR.out.old ((Kept.refl Old w).alloc _))).mono ?_
  rintro e w1 ⟨v1, rfl, A1, n1, c1, rfl, S1, _, _, q⟩
  have B := Lib.hid ((Bx.new w b).old q)
  have K := Lib.hid (((Kept.refl Old w).alloc _).trans q)
  have S1 := Lib.hid S1
  clear q
  have x0 := B.out.c0
  have x1 := B.out.c1
  go_wp2_with fail
  refine (P2.out _ (HR.out.old K.out)).mono ?_
  rintro e w2 ⟨v2, rfl, A2, n2, c2, rfl, S2, _, _, q⟩
  have K := Lib.hid (K.out.trans q)
  have S1 := Lib.hid (S1.out.old q)
  have S2 := Lib.hid S2
  clear q x0 x1
  go_wp2_with fail
  refine (T1.out _ (HR.out.old K.out)).mono ?_
  rintro e w3 ⟨v3, rfl, A3, n3, c3, rfl, S3, _, _, q⟩
  have K := Lib.hid (K.out.trans q)
  have S1 := Lib.hid (S1.out.old q)
  have S2 := Lib.hid (S2.out.old q)
  have S3 := Lib.hid S3
  clear q
  go_wp2_with fail
  refine (T2.out _ (HR.out.old K.out)).mono ?_
  rintro e w4 ⟨v4, rfl, A4, n4, c4, rfl, S4, _, _, q⟩
  have K := Lib.hid (K.out.trans q)
  have S1 := Lib.hid (S1.out.old q)
  have S2 := Lib.hid (S2.out.old q)
  have S3 := Lib.hid (S3.out.old q)
  have S4 := Lib.hid S4
  clear q
  go_wp2_with fail
  refine (D1.out _ (HR.out.old K.out)).mono ?_
  rintro e w5 ⟨v5, rfl, A5, n5, c5, rfl, S5, _, _, q⟩
  have q := q.alloc (.cells #[.int .i64 x.1, .int .i64 x.2] 24)
  have K := Lib.hid (K.out.trans q)
  have S1 := Lib.hid (S1.out.old q)
  have S2 := Lib.hid (S2.out.old q)
  have S3 := Lib.hid (S3.out.old q)
  have S4 := Lib.hid (S4.out.old q)
  have S5 := Lib.hid (S5.alloc (.cells #[.int .i64 x.1, .int .i64 x.2] 24))
  have X5 := Lib.hid (Bx.new w5 x)
  clear q
  go_wp2_with fail
  generalize hs5 : w5.heap.size = s5 at *
  generalize w5.alloc (.cells #[.int .i64 x.1, .int .i64 x.2] 24) = V5 at *
  refine (D2.out _ (HR.out.old K.out)).mono ?_
  rintro e w6 ⟨v6, rfl, A6, n6, c6, rfl, S6, _, _, q⟩
  have q := q.alloc (.cells #[.int .i64 x.1, .int .i64 x.2] 24)
  have K := Lib.hid (K.out.trans q)
  have S1 := Lib.hid (S1.out.old q)
  have S2 := Lib.hid (S2.out.old q)
  have S3 := Lib.hid (S3.out.old q)
  have S4 := Lib.hid (S4.out.old q)
  have S5 := Lib.hid (S5.out.old q)
  have S6 := Lib.hid (S6.alloc (.cells #[.int .i64 x.1, .int .i64 x.2] 24))
  have X5 := Lib.hid (X5.out.old q)
  have X6 := Lib.hid (Bx.new w6 x)
  clear q
  obtain rfl : n2 = n1 := by have := S1.out.len; have := S2.out.len; omega
  obtain rfl : n4 = n3 := by have := S3.out.len; have := S4.out.len; omega
  obtain rfl : n6 = n5 := by have := S5.out.len; have := S6.out.len; omega
  go_wp2_with fail
  generalize hs6 : w6.heap.size = s6 at *
  generalize w6.alloc (.cells #[.int .i64 x.1, .int .i64 x.2] 24) = V6 at *
  refine (same_yes A1 A2 n2 c1 c2 L1 _ S1.out S2.out (by have := S1.out.len; have := lp.out; omega)).mono ?_
  rintro e w7 ⟨rfl, q⟩
  have K := Lib.hid (K.out.trans q)
  have S3 := Lib.hid (S3.out.old q)
  have S4 := Lib.hid (S4.out.old q)
  have S5 := Lib.hid (S5.out.old q)
  have S6 := Lib.hid (S6.out.old q)
  have X5 := Lib.hid (X5.out.old q)
  have X6 := Lib.hid (X6.out.old q)
  clear q
  go_wp2_with fail
  refine (same_yes A3 A4 n4 c3 c4 L2 _ S3.out S4.out (by have := S3.out.len; have := lt.out; omega)).mono ?_
  rintro e w8 ⟨rfl, q⟩
  have K := Lib.hid (K.out.trans q)
  have S5 := Lib.hid (S5.out.old q)
  have S6 := Lib.hid (S6.out.old q)
  have X5 := Lib.hid (X5.out.old q)
  have X6 := Lib.hid (X6.out.old q)
  clear q
  go_wp2_with fail
  refine (same_yes A5 A6 n6 c5 c6 L3 _ S5.out S6.out (by have := S5.out.len; omega)).mono ?_
  rintro e w9 ⟨rfl, q⟩
  have K := Lib.hid (K.out.trans q)
  have X5 := Lib.hid (X5.out.old q)
  have X6 := Lib.hid (X6.out.old q)
  have x0 := X5.out.c0
  have x1 := X5.out.c1
  have x2 := X6.out.c0
  have x3 := X6.out.c1
  clear q
  go_wp2_with fail
  refine (W1.out _ (HR.out.old K.out)).mono ?_
  rintro e w10 ⟨rfl, q⟩
  have K := Lib.hid (K.out.trans q)
  clear q
  go_wp2_with fail
  refine (W2.out _ (HR.out.old K.out)).mono ?_
  rintro e w11 ⟨rfl, q⟩
  have K := Lib.hid (K.out.trans q)
  clear q
  go_wp2_with fail
  go_ret
  exact ⟨rfl, K.out⟩
end Go.Proofs.Ytiiojhmlagkcdaa.Bg
