/-
  That the program and the document answer alike of a valid model (the law's same). Own work; proved by a walk through the landed text.
-/
import Derived.Test.YtginfnamagjmjaaRows
import Derived.Test.YtginfnamagjmjaaModelLaw
import Derived.Test.YtginfnamagjmjaaModelRalloc
import Derived.WalkKit
import Derived.ProofKit
import Derived.OpenShut
import Derived.Outline
import Derived.Deep.Light
import Derived.Deep.QuietTactic
import Derived.BigQuiet
import Derived.IntWalk
import Derived.StillTailTactics
import Derived.RegionTactic
import Derived.Deep.RegionLaw
namespace Go.Proofs.Ytginfnamagjmjaa.Lm
open Go.ChangeShapes Go.WideShapes Go.ChangeAt Go.RowKit
set_option maxRecDepth 100000
set_option maxHeartbeats 4000000 in
theorem same_any (W : Int) (A : Option Addr) (n c : Nat) (l : List S) (nn a : Int) (w : World) (h : RsS w A n l) (v : Valid W l) (hc : n ≤ c) (hA : A = none → c = 0) (ha : in64S a) :
    Calls Try.prog 12 #[md W A n c, .int .i64 nn, .int .i64 a] w fun e w' => e = .returned (.bool true) ∧ Kept Old w w' := by
  have HR := Lib.hid h
  have LA := Lib.hid (show (allocL W l nn a).length ≤ 1000 from by
    unfold allocL insL
    have := v.len
    split
    · have := place_le l (newS nn a).a
      simp; omega
    · simp)
  have LF := Lib.hid (show (freeL l a).length ≤ 1000 from by
    unfold freeL
    have := v.len
    have := (del_sub l a).length_le
    split
    · omega
    · simp)
  have C1 := Lib.hid (fun X h => alloc_any W A n c l nn a X h v hc hA ha)
  have C2 := Lib.hid (fun X h => ralloc_any W A n c l nn a X h v hc hA ha)
  have C3 := Lib.hid (fun X h => free_any W A n c l a X h v hc)
  have C4 := Lib.hid (fun X h => rfree_any W A n c l a X h v hc)
  have C5 := Lib.hid (fun X h => find_any W A n c l a X h v)
  have C6 := Lib.hid (fun X h => rfindm_any W A n c l a X h v)
  generalize allocL W l nn a = L1 at *
  generalize allocW W l nn a = W1 at *
  generalize roomB W l nn a = r1 at *
  generalize freeL l a = L3 at *
  generalize freeW W l a = W3 at *
  generalize freeC l a = F3 at *
  generalize findS l a = x5 at *
  generalize hasB l a = r5 at *
  clear h v hA ha
  have K := Lib.hid ((Kept.refl Old w).alloc (.cells #[.int .i64 W, .slice A n c] 24))
  have B0 := Lib.hid (Bm.new w W (.slice A n c))
  go_enter Try.func12, Try.ntmps12
  go_wp2_with fail
  generalize hs0 : w.heap.size = s0 at *
  generalize hV0 : w.alloc (.cells #[.int .i64 W, .slice A n c] 24) = V0 at *
  refine (C1.out _ (HR.out.old K.out)).mono ?_
  rintro e w1 ⟨v, rfl, A1, n1, c1, rfl, T1, _, _, q⟩
  have q := q.alloc (.cells #[.int .i64 W1, .slice A1 n1 c1] 24)
  have K := Lib.hid (K.out.trans q)
  have B0 := Lib.hid (B0.out.old q)
  have T1 := Lib.hid (T1.alloc (.cells #[.int .i64 W1, .slice A1 n1 c1] 24))
  have B1 := Lib.hid (Bm.new w1 W1 (.slice A1 n1 c1))
  have a0 := B0.out.c0
  have a1 := B0.out.c1
  clear q
  go_wp2_with fail
  generalize hs1 : w1.heap.size = s1 at *
  generalize hV1 : w1.alloc (.cells #[.int .i64 W1, .slice A1 n1 c1] 24) = V1 at *
  clear a0 a1
  refine (C2.out _ (HR.out.old K.out)).mono ?_
  rintro e w2 ⟨v, rfl, A2, n2, c2, rfl, T2, _, _, q⟩
  have q := q.alloc (.cells #[.int .i64 W1, .slice A2 n2 c2] 24)
  have K := Lib.hid (K.out.trans q)
  have B0 := Lib.hid (B0.out.old q)
  have T1 := Lib.hid (T1.out.old q)
  have B1 := Lib.hid (B1.out.old q)
  have T2 := Lib.hid (T2.alloc (.cells #[.int .i64 W1, .slice A2 n2 c2] 24))
  have B2 := Lib.hid (Bm.new w2 W1 (.slice A2 n2 c2))
  have a0 := B0.out.c0
  have a1 := B0.out.c1
  clear q
  go_wp2_with fail
  generalize hs2 : w2.heap.size = s2 at *
  generalize hV2 : w2.alloc (.cells #[.int .i64 W1, .slice A2 n2 c2] 24) = V2 at *
  clear a0 a1
  refine (C3.out _ (HR.out.old K.out)).mono ?_
  rintro e w3 ⟨v, rfl, A3, n3, c3, rfl, T3, _, _, q⟩
  have q := q.alloc (.cells #[.int .i64 W3, .slice A3 n3 c3] 24)
  have K := Lib.hid (K.out.trans q)
  have B0 := Lib.hid (B0.out.old q)
  have T1 := Lib.hid (T1.out.old q)
  have B1 := Lib.hid (B1.out.old q)
  have T2 := Lib.hid (T2.out.old q)
  have B2 := Lib.hid (B2.out.old q)
  have T3 := Lib.hid (T3.alloc (.cells #[.int .i64 W3, .slice A3 n3 c3] 24))
  have B3 := Lib.hid (Bm.new w3 W3 (.slice A3 n3 c3))
  have a0 := B0.out.c0
  have a1 := B0.out.c1
  clear q
  go_wp2_with fail
  generalize hs3 : w3.heap.size = s3 at *
  generalize hV3 : w3.alloc (.cells #[.int .i64 W3, .slice A3 n3 c3] 24) = V3 at *
  clear a0 a1
  refine (C4.out _ (HR.out.old K.out)).mono ?_
  rintro e w4 ⟨v, rfl, A4, n4, c4, rfl, T4, _, _, q⟩
  have q := q.alloc (.cells #[.int .i64 W3, .slice A4 n4 c4] 24)
  have K := Lib.hid (K.out.trans q)
  have B0 := Lib.hid (B0.out.old q)
  have T1 := Lib.hid (T1.out.old q)
  have B1 := Lib.hid (B1.out.old q)
  have T2 := Lib.hid (T2.out.old q)
  have B2 := Lib.hid (B2.out.old q)
  have T3 := Lib.hid (T3.out.old q)
  have B3 := Lib.hid (B3.out.old q)
  have T4 := Lib.hid (T4.alloc (.cells #[.int .i64 W3, .slice A4 n4 c4] 24))
  have B4 := Lib.hid (Bm.new w4 W3 (.slice A4 n4 c4))
  have a0 := B0.out.c0
  have a1 := B0.out.c1
  clear q
  go_wp2_with fail
  generalize hs4 : w4.heap.size = s4 at *
  generalize hV4 : w4.alloc (.cells #[.int .i64 W3, .slice A4 n4 c4] 24) = V4 at *
  clear a0 a1
  refine (C5.out _ (HR.out.old K.out)).mono ?_
  rintro e w5 ⟨rfl, q⟩
  have q := q.alloc (.cells #[.int .i64 x5.a, .int .i64 x5.n, .int .i64 x5.c] 40)
  have K := Lib.hid (K.out.trans q)
  have B0 := Lib.hid (B0.out.old q)
  have T1 := Lib.hid (T1.out.old q)
  have B1 := Lib.hid (B1.out.old q)
  have T2 := Lib.hid (T2.out.old q)
  have B2 := Lib.hid (B2.out.old q)
  have T3 := Lib.hid (T3.out.old q)
  have B3 := Lib.hid (B3.out.old q)
  have T4 := Lib.hid (T4.out.old q)
  have B4 := Lib.hid (B4.out.old q)
  have B5 := Lib.hid (BxS.new w5 x5)
  have a0 := B0.out.c0
  have a1 := B0.out.c1
  clear q
  go_wp2_with fail
  generalize hs5 : w5.heap.size = s5 at *
  generalize hV5 : w5.alloc (.cells #[.int .i64 x5.a, .int .i64 x5.n, .int .i64 x5.c] 40) = V5 at *
  clear a0 a1
  refine (C6.out _ (HR.out.old K.out)).mono ?_
  rintro e w6 ⟨rfl, q⟩
  have q := q.alloc (.cells #[.int .i64 x5.a, .int .i64 x5.n, .int .i64 x5.c] 40)
  have K := Lib.hid (K.out.trans q)
  have B0 := Lib.hid (B0.out.old q)
  have T1 := Lib.hid (T1.out.old q)
  have B1 := Lib.hid (B1.out.old q)
  have T2 := Lib.hid (T2.out.old q)
  have B2 := Lib.hid (B2.out.old q)
  have T3 := Lib.hid (T3.out.old q)
  have B3 := Lib.hid (B3.out.old q)
  have T4 := Lib.hid (T4.out.old q)
  have B4 := Lib.hid (B4.out.old q)
  have B5 := Lib.hid (B5.out.old q)
  have B6 := Lib.hid (BxS.new w6 x5)
  have a0 := B0.out.c0
  have a1 := B0.out.c1
  have d10 := B1.out.c0
  have d11 := B1.out.c1
  have d20 := B2.out.c0
  have d21 := B2.out.c1
  have d30 := B3.out.c0
  have d31 := B3.out.c1
  have d40 := B4.out.c0
  have d41 := B4.out.c1
  have d50 := B5.out.c0
  have d51 := B5.out.c1
  have d52 := B5.out.c2
  have d60 := B6.out.c0
  have d61 := B6.out.c1
  have d62 := B6.out.c2
  clear q
  go_wp2_with fail
  generalize hs6 : w6.heap.size = s6 at *
  generalize hV6 : w6.alloc (.cells #[.int .i64 x5.a, .int .i64 x5.n, .int .i64 x5.c] 40) = V6 at *
  clear a0 a1
  refine (samem_yes W1 A1 A2 n1 n2 c1 c2 L1 _ T1.out T2.out (by have := T1.out.len; have := LA.out; omega)).mono ?_
  rintro e w7 ⟨rfl, q⟩
  have K := Lib.hid (K.out.trans q)
  have T3 := Lib.hid (T3.out.old q)
  have B3 := Lib.hid (B3.out.old q)
  have T4 := Lib.hid (T4.out.old q)
  have B4 := Lib.hid (B4.out.old q)
  have B5 := Lib.hid (B5.out.old q)
  have B6 := Lib.hid (B6.out.old q)
  have d30 := B3.out.c0
  have d31 := B3.out.c1
  have d40 := B4.out.c0
  have d41 := B4.out.c1
  have d50 := B5.out.c0
  have d51 := B5.out.c1
  have d52 := B5.out.c2
  have d60 := B6.out.c0
  have d61 := B6.out.c1
  have d62 := B6.out.c2
  clear q
  go_wp2_with fail
  refine (samem_yes W3 A3 A4 n3 n4 c3 c4 L3 _ T3.out T4.out (by have := T3.out.len; have := LF.out; omega)).mono ?_
  rintro e w8 ⟨rfl, q⟩
  have K := Lib.hid (K.out.trans q)
  have B5 := Lib.hid (B5.out.old q)
  have B6 := Lib.hid (B6.out.old q)
  have d50 := B5.out.c0
  have d51 := B5.out.c1
  have d52 := B5.out.c2
  have d60 := B6.out.c0
  have d61 := B6.out.c1
  have d62 := B6.out.c2
  clear q
  go_wp2
  go_ret
  exact ⟨rfl, K.out⟩
end Go.Proofs.Ytginfnamagjmjaa.Lm
