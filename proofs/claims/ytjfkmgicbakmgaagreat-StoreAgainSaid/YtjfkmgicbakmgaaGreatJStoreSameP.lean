/-
  The laws' own compares of pieces: lists that are alike, parts that are alike; whether a piece of so many words is there; how many words pieces have. Own work; each is proved by a walk through the landed text.
-/
import Derived.Test.YtjfkmgicbakmgaaGreatRows
import Derived.WalkKit
import Derived.ProofKit
import Derived.OpenShut
import Derived.Outline
import Derived.Deep.Light
import Derived.Deep.QuietTactic
import Derived.BigQuiet
import Derived.IntWalk
import Derived.StillTailTactics
import Derived.RegionTactic
import Derived.Deep.RegionLaw
import Derived.Deep.RegionHeld3
import Derived.Test.YtjfkmgicbakmgaaGreatJPieces
namespace Go.Proofs.YtjfkmgicbakmgaaGreat.Sto
open Go.ChangeShapes Go.WideShapes Go.ChangeAt Go.RowKit
set_option maxRecDepth 100000

theorem pieces_yes (A B : Option Addr) (n c d : Nat) (l : List Pc) (w : World) (ha : Pc.Rs w A n l) (hb : Pc.Rs w B n l) (hn : n ≤ 20000) :
    Calls Tryz.prog 76 #[.slice A n c, .slice B n d] w fun e w' => e = .returned (.bool true) ∧ Kept Old w w' := by
  have HA := Lib.hid ha
  have HB := Lib.hid hb
  clear ha hb
  go_enter Tryz.func76, Tryz.ntmps76
  go_wp2
  go_loopw [5] (fun i wr => ∃ k : Nat, k ≤ n ∧ i = .int .i64 (k : Int) ∧ Hid (Kept Old w wr)) (fun i _ => n - (intOf i).toNat)
  case atStart => exact ⟨0, by omega, rfl, Lib.hid (Kept.refl _ _)⟩
  case round =>
    obtain ⟨k, hk, rfl, K⟩ := hrel
    rename World => W
    by_cases c : k < n
    · obtain ⟨g, o, x, rfl, _, hx, _, _, c0, c1⟩ := (HA.out.old K.out).get c
      obtain ⟨g', o', y, rfl, _, hy, _, _, e0, e1⟩ := (HB.out.old K.out).get c
      obtain rfl : x = y := by rw [hx] at hy; injection hy
      clear hx hy
      go_wp2_with fail
      go_quiet (fail)
      go_wp2
      refine ⟨⟨k + 1, by omega, by go_num, Lib.hid (K.out.drewN _)⟩, ?_⟩
      simp [intOf]; omega
    · go_wp2
      go_ret
      exact ⟨rfl, K.out⟩
theorem reads_yes {l : List Pc} {v v' : Value} {w : World} (ha : Reads w v l) (hb : Reads w v' l) (hn : l.length ≤ 20000) : Calls Tryz.prog 76 #[v, v'] w fun e w' => e = .returned (.bool true) ∧ Kept Old w w' := by
  obtain ⟨A, n, c, rfl, r, _⟩ := ha
  obtain ⟨B, m, d, rfl, q, _⟩ := hb
  obtain rfl : n = m := r.len.symm.trans q.len
  exact pieces_yes A B n c d l w r q (by have := r.len; omega)
set_option maxHeartbeats 4000000 in
/-- Two that tell the same are alike. -/
theorem parts_yes {l0 l1 l2 l3 l4 l5 l6 : List Pc} {v v' : Value} (w : World) (ha : PartsAt w v l0 l1 l2 l3 l4 l5 l6) (hb : PartsAt w v' l0 l1 l2 l3 l4 l5 l6) (h0 : l0.length ≤ 20000) (h1 : l1.length ≤ 20000) (h2 : l2.length ≤ 20000) (h3 : l3.length ≤ 20000) (h4 : l4.length ≤ 20000) (h5 : l5.length ≤ 20000) (h6 : l6.length ≤ 20000) :
    Calls Tryz.prog 27 #[v, v'] w fun e w' => e = .returned (.bool true) ∧ Kept Old w w' := by
  obtain ⟨_, _, _, _, _, _, _, rfl, ⟨A0, n0, c0, rfl, r0, q0⟩, ⟨A1, n1, c1, rfl, r1, q1⟩, ⟨A2, n2, c2, rfl, r2, q2⟩, ⟨A3, n3, c3, rfl, r3, q3⟩, ⟨A4, n4, c4, rfl, r4, q4⟩, ⟨A5, n5, c5, rfl, r5, q5⟩, ⟨A6, n6, c6, rfl, r6, q6⟩⟩ := ha
  obtain ⟨_, _, _, _, _, _, _, rfl, ⟨B0, m0, d0, rfl, s0, p0⟩, ⟨B1, m1, d1, rfl, s1, p1⟩, ⟨B2, m2, d2, rfl, s2, p2⟩, ⟨B3, m3, d3, rfl, s3, p3⟩, ⟨B4, m4, d4, rfl, s4, p4⟩, ⟨B5, m5, d5, rfl, s5, p5⟩, ⟨B6, m6, d6, rfl, s6, p6⟩⟩ := hb
  have Y0 := Lib.hid (fun X (k : Kept Old w X) => reads_yes (w := X) ⟨_, _, _, rfl, r0.old k, q0⟩ ⟨_, _, _, rfl, s0.old k, p0⟩ h0)
  have Y1 := Lib.hid (fun X (k : Kept Old w X) => reads_yes (w := X) ⟨_, _, _, rfl, r1.old k, q1⟩ ⟨_, _, _, rfl, s1.old k, p1⟩ h1)
  have Y2 := Lib.hid (fun X (k : Kept Old w X) => reads_yes (w := X) ⟨_, _, _, rfl, r2.old k, q2⟩ ⟨_, _, _, rfl, s2.old k, p2⟩ h2)
  have Y3 := Lib.hid (fun X (k : Kept Old w X) => reads_yes (w := X) ⟨_, _, _, rfl, r3.old k, q3⟩ ⟨_, _, _, rfl, s3.old k, p3⟩ h3)
  have Y4 := Lib.hid (fun X (k : Kept Old w X) => reads_yes (w := X) ⟨_, _, _, rfl, r4.old k, q4⟩ ⟨_, _, _, rfl, s4.old k, p4⟩ h4)
  have Y5 := Lib.hid (fun X (k : Kept Old w X) => reads_yes (w := X) ⟨_, _, _, rfl, r5.old k, q5⟩ ⟨_, _, _, rfl, s5.old k, p5⟩ h5)
  have Y6 := Lib.hid (fun X (k : Kept Old w X) => reads_yes (w := X) ⟨_, _, _, rfl, r6.old k, q6⟩ ⟨_, _, _, rfl, s6.old k, p6⟩ h6)
  clear r0 r1 r2 r3 r4 r5 r6 s0 s1 s2 s3 s4 s5 s6 q0 q1 q2 q3 q4 q5 q6 p0 p1 p2 p3 p4 p5 p6 h0 h1 h2 h3 h4 h5 h6
  obtain ⟨W, hW⟩ : ∃ W, W = (w.alloc (.cells #[.slice A0 n0 c0, .slice A1 n1 c1, .slice A2 n2 c2, .slice A3 n3 c3, .slice A4 n4 c4, .slice A5 n5 c5, .slice A6 n6 c6] 44)).alloc (.cells #[.slice B0 m0 d0, .slice B1 m1 d1, .slice B2 m2 d2, .slice B3 m3 d3, .slice B4 m4 d4, .slice B5 m5 d5, .slice B6 m6 d6] 44) := ⟨_, rfl⟩
  have K0 := Lib.hid (show Kept Old w W from hW ▸ ((Kept.refl Old w).alloc _).alloc _)
  have X1 : Blk W w.heap.size 44 [.slice A0 n0 c0, .slice A1 n1 c1, .slice A2 n2 c2, .slice A3 n3 c3, .slice A4 n4 c4, .slice A5 n5 c5, .slice A6 n6 c6] := hW ▸ (Blk.new w _ _).alloc _
  have X2 : Blk W (w.heap.size + 1) 44 [.slice B0 m0 d0, .slice B1 m1 d1, .slice B2 m2 d2, .slice B3 m3 d3, .slice B4 m4 d4, .slice B5 m5 d5, .slice B6 m6 d6] := by
    have := Blk.new (w.alloc (.cells #[.slice A0 n0 c0, .slice A1 n1 c1, .slice A2 n2 c2, .slice A3 n3 c3, .slice A4 n4 c4, .slice A5 n5 c5, .slice A6 n6 c6] 44)) 44 [.slice B0 m0 d0, .slice B1 m1 d1, .slice B2 m2 d2, .slice B3 m3 d3, .slice B4 m4 d4, .slice B5 m5 d5, .slice B6 m6 d6]
    rw [hW]
    simpa using this
  have X1 := Lib.hid X1
  have X2 := Lib.hid X2
  subst hW
  have c1 := X1.out.cell 0
  have c2 := X2.out.cell 0
  simp only [List.getElem?_cons_zero] at c1 c2
  go_enter Tryz.func27, Tryz.ntmps27
  go_wp2_with fail
  refine (Y0.out _ K0.out).mono ?_
  rintro e V0 ⟨rfl, k0⟩
  have X1 := Lib.hid (X1.out.kept k0 (fun z => z))
  have X2 := Lib.hid (X2.out.kept k0 (fun z => z))
  have K0 := Lib.hid (K0.out.trans k0)
  clear k0 Y0 c1 c2
  have c1 := X1.out.cell 1
  have c2 := X2.out.cell 1
  simp only [List.getElem?_cons_succ, List.getElem?_cons_zero] at c1 c2
  go_wp2_with fail
  refine (Y1.out _ K0.out).mono ?_
  rintro e V1 ⟨rfl, k1⟩
  have X1 := Lib.hid (X1.out.kept k1 (fun z => z))
  have X2 := Lib.hid (X2.out.kept k1 (fun z => z))
  have K0 := Lib.hid (K0.out.trans k1)
  clear k1 Y1 c1 c2
  have c1 := X1.out.cell 2
  have c2 := X2.out.cell 2
  simp only [List.getElem?_cons_succ, List.getElem?_cons_zero] at c1 c2
  go_wp2_with fail
  refine (Y2.out _ K0.out).mono ?_
  rintro e V2 ⟨rfl, k2⟩
  have X1 := Lib.hid (X1.out.kept k2 (fun z => z))
  have X2 := Lib.hid (X2.out.kept k2 (fun z => z))
  have K0 := Lib.hid (K0.out.trans k2)
  clear k2 Y2 c1 c2
  have c1 := X1.out.cell 3
  have c2 := X2.out.cell 3
  simp only [List.getElem?_cons_succ, List.getElem?_cons_zero] at c1 c2
  go_wp2_with fail
  refine (Y3.out _ K0.out).mono ?_
  rintro e V3 ⟨rfl, k3⟩
  have X1 := Lib.hid (X1.out.kept k3 (fun z => z))
  have X2 := Lib.hid (X2.out.kept k3 (fun z => z))
  have K0 := Lib.hid (K0.out.trans k3)
  clear k3 Y3 c1 c2
  have c1 := X1.out.cell 4
  have c2 := X2.out.cell 4
  simp only [List.getElem?_cons_succ, List.getElem?_cons_zero] at c1 c2
  go_wp2_with fail
  refine (Y4.out _ K0.out).mono ?_
  rintro e V4 ⟨rfl, k4⟩
  have X1 := Lib.hid (X1.out.kept k4 (fun z => z))
  have X2 := Lib.hid (X2.out.kept k4 (fun z => z))
  have K0 := Lib.hid (K0.out.trans k4)
  clear k4 Y4 c1 c2
  have c1 := X1.out.cell 5
  have c2 := X2.out.cell 5
  simp only [List.getElem?_cons_succ, List.getElem?_cons_zero] at c1 c2
  go_wp2_with fail
  refine (Y5.out _ K0.out).mono ?_
  rintro e V5 ⟨rfl, k5⟩
  have X1 := Lib.hid (X1.out.kept k5 (fun z => z))
  have X2 := Lib.hid (X2.out.kept k5 (fun z => z))
  have K0 := Lib.hid (K0.out.trans k5)
  clear k5 Y5 c1 c2
  have c1 := X1.out.cell 6
  have c2 := X2.out.cell 6
  simp only [List.getElem?_cons_succ, List.getElem?_cons_zero] at c1 c2
  go_wp2_with fail
  refine (Y6.out _ K0.out).mono ?_
  rintro e V6 ⟨rfl, k6⟩
  have X1 := Lib.hid (X1.out.kept k6 (fun z => z))
  have X2 := Lib.hid (X2.out.kept k6 (fun z => z))
  have K0 := Lib.hid (K0.out.trans k6)
  clear k6 Y6 c1 c2
  go_wp2_with fail
  go_ret
  exact ⟨rfl, K0.out⟩
def hasP (l : List Pc) (n : Int) (least : Bool) : Bool := l.any fun x => decide (x.2 = n) || (least && decide (n < x.2))
theorem hasP_take {l : List Pc} {n : Int} {b : Bool} {k : Nat} {x : Pc} (h : hasP (l.take k) n b = false) (hx : l[k]? = some x) (h1 : (decide (x.2 = n) || (b && decide (n < x.2))) = false) : hasP (l.take (k + 1)) n b = false := by
  unfold hasP at *
  rw [Prt.take_at hx, List.any_append, h]
  simp only [List.any_cons, List.any_nil, Bool.or_false, Bool.false_or]
  exact h1
theorem hasP_at {l : List Pc} {n : Int} {b : Bool} {k : Nat} {x : Pc} (hx : l[k]? = some x) (h1 : (decide (x.2 = n) || (b && decide (n < x.2))) = true) : hasP l n b = true := List.any_eq_true.2 ⟨x, List.mem_of_getElem? hx, h1⟩
set_option maxHeartbeats 2000000 in
theorem has_any (A : Option Addr) (m c : Nat) (l : List Pc) (n : Int) (b : Bool) (w : World) (h : Pc.Rs w A m l) (hm : m ≤ 20000) : Calls Tryz.prog 29 #[.slice A m c, .int .i64 n, .bool b] w fun e w' => e = .returned (.bool (hasP l n b)) ∧ Kept Old w w' := by
  have HR := Lib.hid h
  have hlen := h.len
  generalize hB : hasP l n b = R
  have hB := Lib.hid hB
  clear h
  go_enter Tryz.func29, Tryz.ntmps29
  go_wp2
  go_loopw [7] (fun i wr => ∃ k : Nat, k ≤ m ∧ i = .int .i64 (k : Int) ∧ Hid (hasP (l.take k) n b = false) ∧ Hid (Kept Old w wr)) (fun i _ => m - (intOf i).toNat)
  case atStart => exact ⟨0, by omega, rfl, Lib.hid (by rw [List.take_zero]; rfl), Lib.hid (Kept.refl _ _)⟩
  case round =>
    obtain ⟨k, hk, rfl, N, K⟩ := hrel
    rename World => W
    by_cases ck : k < m
    · obtain ⟨g, o, x, rfl, _, hx, _, _, c0, c1⟩ := (HR.out.old K.out).get ck
      have wk : IntKind.i64.wrap ((k : Int) + 1) = (k : Int) + 1 := IntWalk.i64_in _ (by omega)
      have ck' : (k : Int) < (m : Int) := by omega
      have k0 : ¬ (k : Int) < 0 := by omega
      have NX := Lib.hid (fun h1 => hasP_take (x := x) N.out hx h1)
      have YX := Lib.hid (fun h1 => hasP_at (n := n) (b := b) (x := x) hx h1)
      clear hx
      by_cases e : x.2 = n
      · have R1 := Lib.hid (show R = true from hB.out.symm.trans (YX.out (by rw [decide_eq_true e]; rfl)))
        go_wp2_with fail
        go_ret
        exact ⟨by rw [R1.out]; rfl, K.out⟩
      · cases b with
        | false =>
          have NY := Lib.hid (NX.out (by rw [decide_eq_false e]; rfl))
          go_wp2_with fail
          exact ⟨⟨k + 1, by omega, by go_num, NY, K⟩, by simp [intOf] <;> omega⟩
        | true =>
          by_cases d : n < x.2
          · have R1 := Lib.hid (show R = true from hB.out.symm.trans (YX.out (by rw [decide_eq_true d, Bool.true_and, Bool.or_true])))
            go_wp2_with fail
            go_ret
            exact ⟨by rw [R1.out]; rfl, K.out⟩
          · have NY := Lib.hid (NX.out (by rw [decide_eq_false e, decide_eq_false d]; rfl))
            go_wp2_with fail
            exact ⟨⟨k + 1, by omega, by go_num, NY, K⟩, by simp [intOf] <;> omega⟩
    · have ck' : ¬ (k : Int) < (m : Int) := by omega
      have R1 := Lib.hid (show R = false from hB.out.symm.trans (by have h := N.out; rwa [List.take_of_length_le (by omega)] at h))
      go_wp2
      go_ret
      exact ⟨by rw [R1.out]; rfl, K.out⟩
theorem sumP_take {l : List Pc} {k : Nat} {x : Pc} (hx : l[k]? = some x) : sumP (l.take (k + 1)) = sumP (l.take k) + x.2 := by
  rw [Prt.take_at hx, sumP_append]
  show _ + (x.2 + 0) = _
  omega
theorem total_any (A : Option Addr) (m c : Nat) (l : List Pc) (w : World) (h : Pc.Rs w A m l) (hm : m ≤ 20000) (hb : ∀ k, k ≤ m → 0 ≤ sumP (l.take k) ∧ sumP (l.take k) ≤ 1000000) : Calls Tryz.prog 37 #[.slice A m c] w fun e w' => e = .returned (.int .i64 (sumP l)) ∧ Kept Old w w' := by
  have HR := Lib.hid h
  have HB := Lib.hid hb
  have hlen := h.len
  clear h hb
  generalize hT : sumP l = T
  have hT := Lib.hid hT
  go_enter Tryz.func37, Tryz.ntmps37
  go_wp2
  go_loopw [3, 4] (fun s3 i wr => ∃ k : Nat, k ≤ m ∧ i = .int .i64 (k : Int) ∧ s3 = .int .i64 (sumP (l.take k)) ∧ Hid (Kept Old w wr)) (fun _ i _ => m - (intOf i).toNat)
  case atStart => exact ⟨0, by omega, rfl, by rw [List.take_zero]; rfl, Lib.hid (Kept.refl _ _)⟩
  case round =>
    obtain ⟨k, hk, rfl, rfl, K⟩ := hrel
    rename World => W
    by_cases ck : k < m
    · obtain ⟨g, o, x, rfl, _, hx, _, _, c0, c1⟩ := (HR.out.old K.out).get ck
      have wk : IntKind.i64.wrap ((k : Int) + 1) = (k : Int) + 1 := IntWalk.i64_in _ (by omega)
      have ck' : (k : Int) < (m : Int) := by omega
      have b1 := HB.out (k + 1) (by omega)
      have tk := sumP_take hx
      rw [tk] at b1
      have tk := Lib.hid tk
      have ws : IntKind.i64.wrap (sumP (l.take k) + x.2) = sumP (l.take k) + x.2 := IntWalk.i64_in _ (by omega)
      clear hx
      go_wp2_with fail
      exact ⟨⟨k + 1, by omega, by go_num, by rw [tk.out], K⟩, by simp [intOf] <;> omega⟩
    · have ck' : ¬ (k : Int) < (m : Int) := by omega
      have e : sumP (l.take k) = T := by rw [List.take_of_length_le (by omega)]; exact hT.out
      go_wp2
      go_ret
      exact ⟨rfl, K.out⟩
end Go.Proofs.YtjfkmgicbakmgaaGreat.Sto
