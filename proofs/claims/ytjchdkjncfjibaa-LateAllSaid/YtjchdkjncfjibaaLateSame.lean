/-
  That the program and the document answer alike of queues that may be (the law's same). Own work; proved by a walk through the landed text.
-/
import Derived.Test.YtjchdkjncfjibaaRows
import Derived.Test.YtjchdkjncfjibaaLateRput
import Derived.Test.YtjchdkjncfjibaaIntSame
import Derived.Test.YtjchdkjncfjibaaLateLaw
import Derived.WalkKit
import Derived.ProofKit
import Derived.OpenShut
import Derived.Outline
import Derived.Deep.Light
import Derived.Deep.QuietTactic
import Derived.BigQuiet
import Derived.IntWalk
import Derived.StillTailTactics
import Derived.RegionTactic
import Derived.Deep.RegionLaw
import Derived.Deep.RegionHeld3
namespace Go.Proofs.Ytjchdkjncfjibaa.Lq
open Go.ChangeShapes Go.WideShapes Go.ChangeAt Go.RowKit
set_option maxRecDepth 100000

set_option maxHeartbeats 8000000 in
theorem same_any (on : Bool) (A : Option Addr) (n c : Nat) (l : List Int) (x : Bool) (p : Int) (w : World) (h : RsI w A n l) (hm : MayL l) (hp : inI p) (hn : n ≤ 300) (hc : n ≤ c) (hA : A = none → c = 0) :
    Calls Try.prog 9 #[lt on A n c, .bool x, .int .i64 p] w fun e w' => e = .returned (.bool true) ∧ Kept Old w w' := by
  have HR := Lib.hid h
  have HL := Lib.hid h.len
  have lp := Lib.hid (show (putL on l p).length ≤ l.length + 1 from putL_length on l p)
  have ld := Lib.hid (show (l.drop 1).length ≤ l.length by simp)
  have P1 := Lib.hid (fun W h => lput_any on A n c l p W h hm hp (by omega) (nn hc hA))
  have P2 := Lib.hid (fun W h => rput_any on A n c l p W h hm hp (by omega) (nn hc hA))
  have N1 := Lib.hid (fun W h => lnext_any on A n c l W h (by omega) hc)
  have N2 := Lib.hid (fun W h => rnext_any on A n c l W h (by omega) hc)
  have S1 := Lib.hid (fun W h => lset_any on A n c l x W h (by omega) (nn hc hA))
  have S2 := Lib.hid (fun W h => rset_any on A n c l x W h (by omega) (nn hc hA))
  have H1 := Lib.hid (fun W h => lhas_any on A n c l p W h (by omega))
  have H2 := Lib.hid (fun W h => rhas_any on A n c l p W h (by omega))
  generalize putB on l p = pb at *
  generalize putC on l p = C at *
  generalize putL on l p = L1 at *
  generalize nextB on l = nb at *
  generalize l.drop 1 = L3 at *
  generalize nextX l = nx at *
  generalize nextK l = nk at *
  generalize decide (p ∈ l) = hb at *
  clear h hm hp hA
  have B0 := Lib.hid (Bq.new w on (.slice A n c))
  have K := Lib.hid ((Kept.refl Old w).alloc (.cells #[.bool on, .slice A n c] 24))
  go_enter Try.func9, Try.ntmps9
  go_wp2_with fail
  generalize hs0 : w.heap.size = s0 at *
  refine (P1.out _ (HR.out.old K.out)).mono ?_
  rintro e w1 ⟨v, rfl, A1, n1, c1, rfl, T1, _, _, q⟩
  have q := q.alloc (.cells #[.bool pb, .slice A1 n1 c1] 24)
  have K := Lib.hid (K.out.trans q)
  have B0 := Lib.hid (B0.out.old q)
  have T1 := Lib.hid (T1.old ((Kept.refl Old w1).alloc (.cells #[.bool pb, .slice A1 n1 c1] 24)))
  have B1 := Lib.hid (Bq.new w1 pb (.slice A1 n1 c1))
  have a0 := B0.out.c0
  have a1 := B0.out.c1
  clear q
  go_wp2_with fail
  generalize hs1 : w1.heap.size = s1 at *
  generalize w1.alloc (.cells #[.bool pb, .slice A1 n1 c1] 24) = V1 at *
  refine (P2.out _ (HR.out.old K.out)).mono ?_
  rintro e w2 ⟨v, rfl, A2, n2, c2, rfl, T2, _, _, q⟩
  have q := q.alloc (.cells #[.bool pb, .slice A2 n2 c2] 24)
  have K := Lib.hid (K.out.trans q)
  have B0 := Lib.hid (B0.out.old q)
  have T1 := Lib.hid (T1.out.old q)
  have B1 := Lib.hid (B1.out.old q)
  have T2 := Lib.hid (T2.old ((Kept.refl Old w2).alloc (.cells #[.bool pb, .slice A2 n2 c2] 24)))
  have B2 := Lib.hid (Bq.new w2 pb (.slice A2 n2 c2))
  have a0 := B0.out.c0
  have a1 := B0.out.c1
  clear q
  go_wp2_with fail
  generalize hs2 : w2.heap.size = s2 at *
  generalize w2.alloc (.cells #[.bool pb, .slice A2 n2 c2] 24) = V2 at *
  refine (N1.out _ (HR.out.old K.out)).mono ?_
  rintro e w3 ⟨v, rfl, A3, n3, c3, rfl, T3, _, _, q⟩
  have q := q.alloc (.cells #[.bool nb, .slice A3 n3 c3] 24)
  have K := Lib.hid (K.out.trans q)
  have B0 := Lib.hid (B0.out.old q)
  have T1 := Lib.hid (T1.out.old q)
  have B1 := Lib.hid (B1.out.old q)
  have T2 := Lib.hid (T2.out.old q)
  have B2 := Lib.hid (B2.out.old q)
  have T3 := Lib.hid (T3.old ((Kept.refl Old w3).alloc (.cells #[.bool nb, .slice A3 n3 c3] 24)))
  have B3 := Lib.hid (Bq.new w3 nb (.slice A3 n3 c3))
  have a0 := B0.out.c0
  have a1 := B0.out.c1
  clear q
  go_wp2_with fail
  generalize hs3 : w3.heap.size = s3 at *
  generalize w3.alloc (.cells #[.bool nb, .slice A3 n3 c3] 24) = V3 at *
  refine (N2.out _ (HR.out.old K.out)).mono ?_
  rintro e w4 ⟨v, rfl, A4, n4, c4, rfl, T4, _, _, q⟩
  have q := q.alloc (.cells #[.bool nb, .slice A4 n4 c4] 24)
  have K := Lib.hid (K.out.trans q)
  have B0 := Lib.hid (B0.out.old q)
  have T1 := Lib.hid (T1.out.old q)
  have B1 := Lib.hid (B1.out.old q)
  have T2 := Lib.hid (T2.out.old q)
  have B2 := Lib.hid (B2.out.old q)
  have T3 := Lib.hid (T3.out.old q)
  have B3 := Lib.hid (B3.out.old q)
  have T4 := Lib.hid (T4.old ((Kept.refl Old w4).alloc (.cells #[.bool nb, .slice A4 n4 c4] 24)))
  have B4 := Lib.hid (Bq.new w4 nb (.slice A4 n4 c4))
  have a0 := B0.out.c0
  have a1 := B0.out.c1
  clear q
  go_wp2_with fail
  generalize hs4 : w4.heap.size = s4 at *
  generalize w4.alloc (.cells #[.bool nb, .slice A4 n4 c4] 24) = V4 at *
  clear a0 a1
  obtain rfl : n2 = n1 := by have := T1.out.len; have := T2.out.len; omega
  obtain rfl : n4 = n3 := by have := T3.out.len; have := T4.out.len; omega
  have x0 := B0.out.c0
  have y0 := B0.out.c1
  have x1 := B1.out.c0
  have y1 := B1.out.c1
  have x2 := B2.out.c0
  have y2 := B2.out.c1
  have x3 := B3.out.c0
  have y3 := B3.out.c1
  have x4 := B4.out.c0
  have y4 := B4.out.c1
  have K := Lib.hid K.out.drew
  have T1 := Lib.hid T1.out.drew
  have T2 := Lib.hid T2.out.drew
  have T3 := Lib.hid T3.out.drew
  have T4 := Lib.hid T4.out.drew
  have B0 := Lib.hid B0.out.drew
  have B1 := Lib.hid B1.out.drew
  have B2 := Lib.hid B2.out.drew
  have B3 := Lib.hid B3.out.drew
  have B4 := Lib.hid B4.out.drew
  go_region_held3 (fun w' => w'.cell? ⟨s0, 0, none⟩ = some (.bool on) ∧ w'.cell? ⟨s0, 1, none⟩ = some (.slice A n c) ∧ w'.cell? ⟨s1, 0, none⟩ = some (.bool pb) ∧ w'.cell? ⟨s1, 1, none⟩ = some (.slice A1 n2 c1) ∧ w'.cell? ⟨s2, 0, none⟩ = some (.bool pb) ∧ w'.cell? ⟨s2, 1, none⟩ = some (.slice A2 n2 c2) ∧ w'.cell? ⟨s3, 0, none⟩ = some (.bool nb) ∧ w'.cell? ⟨s3, 1, none⟩ = some (.slice A3 n4 c3) ∧ w'.cell? ⟨s4, 0, none⟩ = some (.bool nb) ∧ w'.cell? ⟨s4, 1, none⟩ = some (.slice A4 n4 c4))
    (first
      | (exact ⟨‹_›, ‹_›, ‹_›, ‹_›, ‹_›, ‹_›, ‹_›, ‹_›, ‹_›, ‹_›⟩)
      | (go_split_ands; exact ⟨cell_on k ‹_›, cell_on k ‹_›, cell_on k ‹_›, cell_on k ‹_›, cell_on k ‹_›, cell_on k ‹_›, cell_on k ‹_›, cell_on k ‹_›, cell_on k ‹_›, cell_on k ‹_›⟩)
      | go_keep)
    (first
      | (go_at_call 10; go_loud (refine (S1.out _ (HR.out.old K.out)).mono ?_; rintro e w' ⟨v, rfl, A5, n5, c5, rfl, R5, _, _, k⟩; obtain rfl : n = n5 := (by have := R5.len; have := HL.out; omega); have R5 := Lib.hid R5; have K := Lib.hid (K.out.trans k); have T1 := Lib.hid (T1.out.old k); have T2 := Lib.hid (T2.out.old k); have T3 := Lib.hid (T3.out.old k); have T4 := Lib.hid (T4.out.old k)))
      | (go_at_call 19; refine (S2.out _ (HR.out.old K.out)).mono ?_; rintro e w' ⟨v, rfl, A6, n6, c6, rfl, R6, _, _, k⟩; obtain rfl : n = n6 := (by have := R6.len; have := HL.out; omega); have R6 := Lib.hid R6; have K := Lib.hid (K.out.trans k); have T1 := Lib.hid (T1.out.old k); have T2 := Lib.hid (T2.out.old k); have T3 := Lib.hid (T3.out.old k); have T4 := Lib.hid (T4.out.old k); have R5 := Lib.hid (R5.out.old k))
      | (go_at_call 16; (with_reducible refine (same_yes x A5 A6 _ c5 c6 l _ R5.out R6.out (by omega)).mono ?_); rintro e w' ⟨rfl, k⟩; have K := Lib.hid (K.out.trans k); have T1 := Lib.hid (T1.out.old k); have T2 := Lib.hid (T2.out.old k); have T3 := Lib.hid (T3.out.old k); have T4 := Lib.hid (T4.out.old k))
      | (go_at_call 16; (with_reducible refine (same_yes pb A1 A2 _ c1 c2 L1 _ T1.out T2.out (by have := T1.out.len; have := lp.out; have := HL.out; omega)).mono ?_); rintro e w' ⟨rfl, k⟩; have K := Lib.hid (K.out.trans k); have T1 := Lib.hid (T1.out.old k); have T2 := Lib.hid (T2.out.old k); have T3 := Lib.hid (T3.out.old k); have T4 := Lib.hid (T4.out.old k))
      | (go_at_call 16; (with_reducible refine (same_yes nb A3 A4 _ c3 c4 L3 _ T3.out T4.out (by have := T3.out.len; have := ld.out; have := HL.out; omega)).mono ?_); rintro e w' ⟨rfl, k⟩; have K := Lib.hid (K.out.trans k); have T1 := Lib.hid (T1.out.old k); have T2 := Lib.hid (T2.out.old k); have T3 := Lib.hid (T3.out.old k); have T4 := Lib.hid (T4.out.old k))
      | (go_at_call 13; refine (H1.out _ (HR.out.old K.out)).mono ?_; rintro e w' ⟨rfl, k⟩; have K := Lib.hid (K.out.trans k))
      | (go_at_call 20; refine (H2.out _ (HR.out.old K.out)).mono ?_; rintro e w' ⟨rfl, k⟩; have K := Lib.hid (K.out.trans k)))
  go_wp2
  go_ret
  exact ⟨rfl, K.out⟩
end Go.Proofs.Ytjchdkjncfjibaa.Lq
