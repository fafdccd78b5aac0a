/-
  Joined texts of ShpH; own work.
-/
import Derived.Test.YtcndilpaijapkaaGreatRows
import Derived.WalkKit
import Derived.ProofKit
import Derived.OpenShut
import Derived.Outline
import Derived.Deep.Light
import Derived.Deep.QuietTactic
import Derived.BigQuiet
import Derived.IntWalk
import Derived.StillTailTactics
import Derived.RegionTactic
import Derived.Deep.RegionLaw
import Derived.Deep.RegionHeld3
import Derived.Test.YtcndilpaijapkaaGreatJShpCovP
import Derived.Test.YtcndilpaijapkaaGreatJShpF
/- The laws' own compares of pieces: lists that are alike, parts that are alike; whether a piece of so many words is there; how many words pieces have. Own work; each is proved by a walk through the landed text. -/
namespace Go.Proofs.YtcndilpaijapkaaGreat.Shp
open Sto
open Go.ChangeShapes Go.WideShapes Go.ChangeAt Go.RowKit
set_option maxRecDepth 100000

theorem pieces_yes (A B : Option Addr) (n c d : Nat) (l : List Pc) (w : World) (ha : Pc.Rs w A n l) (hb : Pc.Rs w B n l) (hn : n ≤ 20000) :
    Calls Tryz.prog 81 #[.slice A n c, .slice B n d] w fun e w' => e = .returned (.bool true) ∧ Kept Old w w' := by
  have HA := Lib.hid ha
  have HB := Lib.hid hb
  clear ha hb
  go_enter Tryz.func81, Tryz.ntmps81
  go_wp2
  go_loopw [5] (fun i wr => ∃ k : Nat, k ≤ n ∧ i = .int .i64 (k : Int) ∧ Hid (Kept Old w wr)) (fun i _ => n - (intOf i).toNat)
  case atStart => exact ⟨0, by omega, rfl, Lib.hid (Kept.refl _ _)⟩
  case round =>
    obtain ⟨k, hk, rfl, K⟩ := hrel
    rename World => W
    by_cases c : k < n
    · obtain ⟨g, o, x, rfl, _, hx, _, _, c0, c1⟩ := (HA.out.old K.out).get c
      obtain ⟨g', o', y, rfl, _, hy, _, _, e0, e1⟩ := (HB.out.old K.out).get c
      obtain rfl : x = y := by rw [hx] at hy; injection hy
      clear hx hy
      go_wp2_with fail
      go_quiet (fail)
      go_wp2
      refine ⟨⟨k + 1, by omega, by go_num, Lib.hid (K.out.drewN _)⟩, ?_⟩
      simp [intOf]; omega
    · go_wp2
      go_ret
      exact ⟨rfl, K.out⟩
theorem reads_yes {l : List Pc} {v v' : Value} {w : World} (ha : Reads w v l) (hb : Reads w v' l) (hn : l.length ≤ 20000) : Calls Tryz.prog 81 #[v, v'] w fun e w' => e = .returned (.bool true) ∧ Kept Old w w' := by
  obtain ⟨A, n, c, rfl, r, _⟩ := ha
  obtain ⟨B, m, d, rfl, q, _⟩ := hb
  obtain rfl : n = m := r.len.symm.trans q.len
  exact pieces_yes A B n c d l w r q (by have := r.len; omega)
set_option maxHeartbeats 4000000 in
/-- Two that tell the same are alike. -/
theorem parts_yes {l0 l1 l2 l3 l4 l5 l6 : List Pc} {v v' : Value} (w : World) (ha : PartsAt w v l0 l1 l2 l3 l4 l5 l6) (hb : PartsAt w v' l0 l1 l2 l3 l4 l5 l6) (h0 : l0.length ≤ 20000) (h1 : l1.length ≤ 20000) (h2 : l2.length ≤ 20000) (h3 : l3.length ≤ 20000) (h4 : l4.length ≤ 20000) (h5 : l5.length ≤ 20000) (h6 : l6.length ≤ 20000) :
    Calls Tryz.prog 30 #[v, v'] w fun e w' => e = .returned (.bool true) ∧ Kept Old w w' := by
  obtain ⟨_, _, _, _, _, _, _, rfl, ⟨A0, n0, c0, rfl, r0, q0⟩, ⟨A1, n1, c1, rfl, r1, q1⟩, ⟨A2, n2, c2, rfl, r2, q2⟩, ⟨A3, n3, c3, rfl, r3, q3⟩, ⟨A4, n4, c4, rfl, r4, q4⟩, ⟨A5, n5, c5, rfl, r5, q5⟩, ⟨A6, n6, c6, rfl, r6, q6⟩⟩ := ha
  obtain ⟨_, _, _, _, _, _, _, rfl, ⟨B0, m0, d0, rfl, s0, p0⟩, ⟨B1, m1, d1, rfl, s1, p1⟩, ⟨B2, m2, d2, rfl, s2, p2⟩, ⟨B3, m3, d3, rfl, s3, p3⟩, ⟨B4, m4, d4, rfl, s4, p4⟩, ⟨B5, m5, d5, rfl, s5, p5⟩, ⟨B6, m6, d6, rfl, s6, p6⟩⟩ := hb
  have Y0 := Lib.hid (fun X (k : Kept Old w X) => reads_yes (w := X) ⟨_, _, _, rfl, r0.old k, q0⟩ ⟨_, _, _, rfl, s0.old k, p0⟩ h0)
  have Y1 := Lib.hid (fun X (k : Kept Old w X) => reads_yes (w := X) ⟨_, _, _, rfl, r1.old k, q1⟩ ⟨_, _, _, rfl, s1.old k, p1⟩ h1)
  have Y2 := Lib.hid (fun X (k : Kept Old w X) => reads_yes (w := X) ⟨_, _, _, rfl, r2.old k, q2⟩ ⟨_, _, _, rfl, s2.old k, p2⟩ h2)
  have Y3 := Lib.hid (fun X (k : Kept Old w X) => reads_yes (w := X) ⟨_, _, _, rfl, r3.old k, q3⟩ ⟨_, _, _, rfl, s3.old k, p3⟩ h3)
  have Y4 := Lib.hid (fun X (k : Kept Old w X) => reads_yes (w := X) ⟨_, _, _, rfl, r4.old k, q4⟩ ⟨_, _, _, rfl, s4.old k, p4⟩ h4)
  have Y5 := Lib.hid (fun X (k : Kept Old w X) => reads_yes (w := X) ⟨_, _, _, rfl, r5.old k, q5⟩ ⟨_, _, _, rfl, s5.old k, p5⟩ h5)
  have Y6 := Lib.hid (fun X (k : Kept Old w X) => reads_yes (w := X) ⟨_, _, _, rfl, r6.old k, q6⟩ ⟨_, _, _, rfl, s6.old k, p6⟩ h6)
  clear r0 r1 r2 r3 r4 r5 r6 s0 s1 s2 s3 s4 s5 s6 q0 q1 q2 q3 q4 q5 q6 p0 p1 p2 p3 p4 p5 p6 h0 h1 h2 h3 h4 h5 h6
  obtain ⟨W, hW⟩ : ∃ W, W = (w.alloc (.cells #[.slice A0 n0 c0, .slice A1 n1 c1, .slice A2 n2 c2, .slice A3 n3 c3, .slice A4 n4 c4, .slice A5 n5 c5, .slice A6 n6 c6] 44)).alloc (.cells #[.slice B0 m0 d0, .slice B1 m1 d1, .slice B2 m2 d2, .slice B3 m3 d3, .slice B4 m4 d4, .slice B5 m5 d5, .slice B6 m6 d6] 44) := ⟨_, rfl⟩
  have K0 := Lib.hid (show Kept Old w W from hW ▸ ((Kept.refl Old w).alloc _).alloc _)
  have X1 : Blk W w.heap.size 44 [.slice A0 n0 c0, .slice A1 n1 c1, .slice A2 n2 c2, .slice A3 n3 c3, .slice A4 n4 c4, .slice A5 n5 c5, .slice A6 n6 c6] := hW ▸ (Blk.new w _ _).alloc _
  have X2 : Blk W (w.heap.size + 1) 44 [.slice B0 m0 d0, .slice B1 m1 d1, .slice B2 m2 d2, .slice B3 m3 d3, .slice B4 m4 d4, .slice B5 m5 d5, .slice B6 m6 d6] := by
    have := Blk.new (w.alloc (.cells #[.slice A0 n0 c0, .slice A1 n1 c1, .slice A2 n2 c2, .slice A3 n3 c3, .slice A4 n4 c4, .slice A5 n5 c5, .slice A6 n6 c6] 44)) 44 [.slice B0 m0 d0, .slice B1 m1 d1, .slice B2 m2 d2, .slice B3 m3 d3, .slice B4 m4 d4, .slice B5 m5 d5, .slice B6 m6 d6]
    rw [hW]
    simpa using this
  have X1 := Lib.hid X1
  have X2 := Lib.hid X2
  subst hW
  have c1 := X1.out.cell 0
  have c2 := X2.out.cell 0
  simp only [List.getElem?_cons_zero] at c1 c2
  go_enter Tryz.func30, Tryz.ntmps30
  go_wp2_with fail
  refine (Y0.out _ K0.out).mono ?_
  rintro e V0 ⟨rfl, k0⟩
  have X1 := Lib.hid (X1.out.kept k0 (fun z => z))
  have X2 := Lib.hid (X2.out.kept k0 (fun z => z))
  have K0 := Lib.hid (K0.out.trans k0)
  clear k0 Y0 c1 c2
  have c1 := X1.out.cell 1
  have c2 := X2.out.cell 1
  simp only [List.getElem?_cons_succ, List.getElem?_cons_zero] at c1 c2
  go_wp2_with fail
  refine (Y1.out _ K0.out).mono ?_
  rintro e V1 ⟨rfl, k1⟩
  have X1 := Lib.hid (X1.out.kept k1 (fun z => z))
  have X2 := Lib.hid (X2.out.kept k1 (fun z => z))
  have K0 := Lib.hid (K0.out.trans k1)
  clear k1 Y1 c1 c2
  have c1 := X1.out.cell 2
  have c2 := X2.out.cell 2
  simp only [List.getElem?_cons_succ, List.getElem?_cons_zero] at c1 c2
  go_wp2_with fail
  refine (Y2.out _ K0.out).mono ?_
  rintro e V2 ⟨rfl, k2⟩
  have X1 := Lib.hid (X1.out.kept k2 (fun z => z))
  have X2 := Lib.hid (X2.out.kept k2 (fun z => z))
  have K0 := Lib.hid (K0.out.trans k2)
  clear k2 Y2 c1 c2
  have c1 := X1.out.cell 3
  have c2 := X2.out.cell 3
  simp only [List.getElem?_cons_succ, List.getElem?_cons_zero] at c1 c2
  go_wp2_with fail
  refine (Y3.out _ K0.out).mono ?_
  rintro e V3 ⟨rfl, k3⟩
  have X1 := Lib.hid (X1.out.kept k3 (fun z => z))
  have X2 := Lib.hid (X2.out.kept k3 (fun z => z))
  have K0 := Lib.hid (K0.out.trans k3)
  clear k3 Y3 c1 c2
  have c1 := X1.out.cell 4
  have c2 := X2.out.cell 4
  simp only [List.getElem?_cons_succ, List.getElem?_cons_zero] at c1 c2
  go_wp2_with fail
  refine (Y4.out _ K0.out).mono ?_
  rintro e V4 ⟨rfl, k4⟩
  have X1 := Lib.hid (X1.out.kept k4 (fun z => z))
  have X2 := Lib.hid (X2.out.kept k4 (fun z => z))
  have K0 := Lib.hid (K0.out.trans k4)
  clear k4 Y4 c1 c2
  have c1 := X1.out.cell 5
  have c2 := X2.out.cell 5
  simp only [List.getElem?_cons_succ, List.getElem?_cons_zero] at c1 c2
  go_wp2_with fail
  refine (Y5.out _ K0.out).mono ?_
  rintro e V5 ⟨rfl, k5⟩
  have X1 := Lib.hid (X1.out.kept k5 (fun z => z))
  have X2 := Lib.hid (X2.out.kept k5 (fun z => z))
  have K0 := Lib.hid (K0.out.trans k5)
  clear k5 Y5 c1 c2
  have c1 := X1.out.cell 6
  have c2 := X2.out.cell 6
  simp only [List.getElem?_cons_succ, List.getElem?_cons_zero] at c1 c2
  go_wp2_with fail
  refine (Y6.out _ K0.out).mono ?_
  rintro e V6 ⟨rfl, k6⟩
  have X1 := Lib.hid (X1.out.kept k6 (fun z => z))
  have X2 := Lib.hid (X2.out.kept k6 (fun z => z))
  have K0 := Lib.hid (K0.out.trans k6)
  clear k6 Y6 c1 c2
  go_wp2_with fail
  go_ret
  exact ⟨rfl, K0.out⟩
def hasP (l : List Pc) (n : Int) (least : Bool) : Bool := l.any fun x => decide (x.2 = n) || (least && decide (n < x.2))
theorem hasP_take {l : List Pc} {n : Int} {b : Bool} {k : Nat} {x : Pc} (h : hasP (l.take k) n b = false) (hx : l[k]? = some x) (h1 : (decide (x.2 = n) || (b && decide (n < x.2))) = false) : hasP (l.take (k + 1)) n b = false := by
  unfold hasP at *
  rw [Prt.take_at hx, List.any_append, h]
  simp only [List.any_cons, List.any_nil, Bool.or_false, Bool.false_or]
  exact h1
theorem hasP_at {l : List Pc} {n : Int} {b : Bool} {k : Nat} {x : Pc} (hx : l[k]? = some x) (h1 : (decide (x.2 = n) || (b && decide (n < x.2))) = true) : hasP l n b = true := List.any_eq_true.2 ⟨x, List.mem_of_getElem? hx, h1⟩
set_option maxHeartbeats 2000000 in
theorem has_any (A : Option Addr) (m c : Nat) (l : List Pc) (n : Int) (b : Bool) (w : World) (h : Pc.Rs w A m l) (hm : m ≤ 20000) : Calls Tryz.prog 37 #[.slice A m c, .int .i64 n, .bool b] w fun e w' => e = .returned (.bool (hasP l n b)) ∧ Kept Old w w' := by
  have HR := Lib.hid h
  have hlen := h.len
  generalize hB : hasP l n b = R
  have hB := Lib.hid hB
  clear h
  go_enter Tryz.func37, Tryz.ntmps37
  go_wp2
  go_loopw [7] (fun i wr => ∃ k : Nat, k ≤ m ∧ i = .int .i64 (k : Int) ∧ Hid (hasP (l.take k) n b = false) ∧ Hid (Kept Old w wr)) (fun i _ => m - (intOf i).toNat)
  case atStart => exact ⟨0, by omega, rfl, Lib.hid (by rw [List.take_zero]; rfl), Lib.hid (Kept.refl _ _)⟩
  case round =>
    obtain ⟨k, hk, rfl, N, K⟩ := hrel
    rename World => W
    by_cases ck : k < m
    · obtain ⟨g, o, x, rfl, _, hx, _, _, c0, c1⟩ := (HR.out.old K.out).get ck
      have wk : IntKind.i64.wrap ((k : Int) + 1) = (k : Int) + 1 := IntWalk.i64_in _ (by omega)
      have ck' : (k : Int) < (m : Int) := by omega
      have k0 : ¬ (k : Int) < 0 := by omega
      have NX := Lib.hid (fun h1 => hasP_take (x := x) N.out hx h1)
      have YX := Lib.hid (fun h1 => hasP_at (n := n) (b := b) (x := x) hx h1)
      clear hx
      by_cases e : x.2 = n
      · have R1 := Lib.hid (show R = true from hB.out.symm.trans (YX.out (by rw [decide_eq_true e]; rfl)))
        go_wp2_with fail
        go_ret
        exact ⟨by rw [R1.out]; rfl, K.out⟩
      · cases b with
        | false =>
          have NY := Lib.hid (NX.out (by rw [decide_eq_false e]; rfl))
          go_wp2_with fail
          exact ⟨⟨k + 1, by omega, by go_num, NY, K⟩, by simp [intOf] <;> omega⟩
        | true =>
          by_cases d : n < x.2
          · have R1 := Lib.hid (show R = true from hB.out.symm.trans (YX.out (by rw [decide_eq_true d, Bool.true_and, Bool.or_true])))
            go_wp2_with fail
            go_ret
            exact ⟨by rw [R1.out]; rfl, K.out⟩
          · have NY := Lib.hid (NX.out (by rw [decide_eq_false e, decide_eq_false d]; rfl))
            go_wp2_with fail
            exact ⟨⟨k + 1, by omega, by go_num, NY, K⟩, by simp [intOf] <;> omega⟩
    · have ck' : ¬ (k : Int) < (m : Int) := by omega
      have R1 := Lib.hid (show R = false from hB.out.symm.trans (by have h := N.out; rwa [List.take_of_length_le (by omega)] at h))
      go_wp2
      go_ret
      exact ⟨by rw [R1.out]; rfl, K.out⟩
end Go.Proofs.YtcndilpaijapkaaGreat.Shp
/- When a shop has room for what a worker asks: just if its cache, the pool, or the large ones that wait, have a stack of the class, or a run is long enough; what is told then. Own work; no program is walked here. -/
namespace Go.Proofs.YtcndilpaijapkaaGreat.Shp
open Sto
open Go.RowKit

theorem words_inj {c d : Int} (c0 : 0 ≤ c) (c7 : c ≤ 7) (d0 : 0 ≤ d) (d7 : d ≤ 7) (h : wordsI c = wordsI d) : c = d := by
  have a : c = 0 ∨ c = 1 ∨ c = 2 ∨ c = 3 ∨ c = 4 ∨ c = 5 ∨ c = 6 ∨ c = 7 := by omega
  have b : d = 0 ∨ d = 1 ∨ d = 2 ∨ d = 3 ∨ d = 4 ∨ d = 5 ∨ d = 6 ∨ d = 7 := by omega
  rcases a with rfl | rfl | rfl | rfl | rfl | rfl | rfl | rfl <;> rcases b with rfl | rfl | rfl | rfl | rfl | rfl | rfl | rfl <;> first | rfl | (exfalso; revert h; decide)
theorem hasP_perm {l m : List Pc} (p : l.Perm m) (n : Int) (b : Bool) : hasP l n b = hasP m n b := by
  unfold hasP
  rw [Bool.eq_iff_iff, List.any_eq_true, List.any_eq_true]
  constructor
  · rintro ⟨x, hx, h⟩; exact ⟨x, p.mem_iff.1 hx, h⟩
  · rintro ⟨x, hx, h⟩; exact ⟨x, p.mem_iff.2 hx, h⟩
theorem has_runs (rl : List R) (n : Int) : hasP (runsP rl) (n * 64) true = fitB rl n := by
  unfold hasP runsP fitB
  rw [List.any_map]
  congr 1
  funext y
  show (decide (y.2 * 64 = n * 64) || (true && decide (n * 64 < y.2 * 64))) = decide (n ≤ y.2)
  rw [Bool.true_and]
  by_cases c : n ≤ y.2
  · rw [decide_eq_true c]
    by_cases d : y.2 * 64 = n * 64
    · rw [decide_eq_true d]; rfl
    · rw [decide_eq_false d, decide_eq_true (by omega)]; rfl
  · rw [decide_eq_false c, decide_eq_false (by omega), decide_eq_false (by omega)]; rfl
theorem alloc_fit {rl : List R} {sl : List S} {n cl : Int} (h : 0 ≤ cl ∧ cl < 8 ∧ 1 ≤ n) : (allocA rl sl n cl).e = 0 ↔ fitB rl n = true := by
  cases f : fitAt rl n with
  | none =>
    rw [allocA_full h f, fit_at_none f]
    simp
  | some ix =>
    obtain ⟨i, x⟩ := ix
    rw [allocA_ok h f]
    have g := fit_at_some f
    have : fitB rl n = true := List.any_eq_true.2 ⟨x, List.mem_of_getElem? g.at_, decide_eq_true g.big⟩
    simp [this]
variable {P : Nat} {k : K} {live : List Lm.S}
theorem has_pool {c : Nat} (hc : c < 4) : hasP (poolP k.p) (wordsI (c : Int)) false = true ↔ Prt.takeC (k.p c) = 0 := by
  constructor
  · intro h
    obtain ⟨y, hy, e⟩ := List.any_eq_true.1 h
    obtain ⟨d, hd, x, hx, a, ha, rfl⟩ := mem_poolP hy
    simp only [Bool.false_and, Bool.or_false, decide_eq_true_eq] at e
    obtain rfl : d = c := by have := words_inj (by omega) (by omega) (by omega) (by omega) e; omega
    unfold Prt.takeC
    rcases Prt.takeQ_ways (k.p d) with ⟨_, none_⟩ | ⟨_, _, _, _, _, _, e⟩
    · rw [none_ x hx] at ha; cases ha
    · rw [e]
  · intro h
    unfold Prt.takeC at h
    rcases Prt.takeQ_ways (k.p c) with ⟨e, _⟩ | ⟨i, pg, a, r, _, hx, _⟩
    · rw [e] at h; simp at h
    · refine List.any_eq_true.2 ⟨_, poolP_mem hc (List.mem_of_getElem? hx) (a := a) (List.mem_cons_self), ?_⟩
      simp
theorem has_big {nw : Nat} {ca : Ca} (v : Sq P nw k ca live) {c : Int} (c4 : 4 ≤ c) (c7 : c ≤ 7) : hasP (outP k.big) (wordsI c) false = true ↔ Bg.takeC k.big c = 0 := by
  constructor
  · intro h
    obtain ⟨y, hy, e⟩ := List.any_eq_true.1 h
    obtain ⟨b, hb, rfl⟩ := List.mem_map.1 hy
    simp only [Bool.false_and, Bool.or_false, decide_eq_true_eq] at e
    have m := Bg.may_of ((Bg.right_pw.1 v.iq.inv.right).1 b hb)
    have m0 := m.c0
    have m1 := m.c1
    have ec := words_inj (by omega) (by omega) (by omega) (by omega) e
    rcases Bg.take_ways k.big c with ⟨none_, _⟩ | ⟨_, _, _, _, t, _⟩
    · exact absurd ec (none_ b hb)
    · exact t
  · intro h
    rcases Bg.take_ways k.big c with ⟨_, _, t, _⟩ | ⟨x, hx, ec, _⟩
    · omega
    · refine List.any_eq_true.2 ⟨_, List.mem_map.2 ⟨x, List.mem_of_getElem? hx, rfl⟩, ?_⟩
      simp [ec]
variable {nw : Nat} {ca : Ca}
theorem took_small {w : Nat} {c : Int} {l0 l1 l2 l3 l4 l5 : List Pc} (po : PartsOf nw k ca live l0 l1 l2 l3 l4 l5) (s : smallB c = true) (c0 : 0 ≤ c) (c4 : c < 4) : (takeWR P k ca w c).2.2.2 = 0 ↔ (hasP l0 (pagesI c * 64) true || (hasP l1 (wordsI c) false || decide (0 < (ca w c.toNat).length))) = true := by
  obtain ⟨n, rfl⟩ : ∃ n : Nat, c = (n : Int) := ⟨c.toNat, by omega⟩
  rw [po.r, has_runs, hasP_perm po.p.perm, pages_small (by omega) (by omega), Bool.or_eq_true, Bool.or_eq_true, has_pool (by omega), decide_eq_true_iff]
  unfold takeWR
  rw [if_pos s, Int.toNat_natCast]
  cases q : ca w n with
  | cons a t => exact ⟨fun _ => .inr (.inr (by simp)), fun _ => rfl⟩
  | nil =>
    have e : (takeSR P k n).2.2 = 0 ↔ (fitB k.rl 8 = true ∨ Prt.takeC (k.p n) = 0) := by
      unfold takeSR
      by_cases h : Prt.takeC (k.p n) = 0
      · rw [if_pos h]
        exact ⟨fun _ => .inr h, fun _ => rfl⟩
      · rw [if_neg h]
        have f := alloc_fit (rl := k.rl) (sl := k.sl) (n := 8) (cl := (n : Int)) ⟨by omega, by omega, by omega⟩
        by_cases g : (allocA k.rl k.sl 8 (n : Int)).e = 0
        · rw [if_pos g]
          exact ⟨fun _ => .inl (f.1 g), fun _ => rfl⟩
        · rw [if_neg g]
          exact ⟨fun q => absurd q (show ¬ (3 : Int) = 0 by decide), fun q => q.elim (fun q => absurd (f.2 q) g) (fun q => absurd q h)⟩
    by_cases z : (takeSR P k n).2.2 = 0
    · simp only [if_pos z]
      exact ⟨fun _ => (e.1 z).elim .inl (fun h => .inr (.inl h)), fun _ => trivial⟩
    · simp only [if_neg z]
      refine ⟨fun q => absurd q (show ¬ (3 : Int) = 0 by decide), fun q => absurd (e.2 ?_) z⟩
      rcases q with q | q | q
      · exact .inl q
      · exact .inr q
      · simp at q
theorem took_large (v : Sq P nw k ca live) {w : Nat} {c : Int} {l0 l1 l2 l3 l4 l5 : List Pc} (po : PartsOf nw k ca live l0 l1 l2 l3 l4 l5) (s : smallB c = false) (c4 : 4 ≤ c) (c7 : c ≤ 7) : (takeWR P k ca w c).2.2.2 = 0 ↔ (hasP l0 (pagesI c * 64) true || hasP l3 (wordsI c) false) = true := by
  rw [po.r, has_runs, hasP_perm po.b.perm, Bool.or_eq_true, has_big v c4 c7]
  unfold takeWR
  rw [if_neg (by rw [s]; simp)]
  unfold takeLR
  have w := pages_large c4 c7
  by_cases h : Bg.takeC k.big c = 0
  · rw [if_pos h]
    exact ⟨fun _ => .inr h, fun _ => rfl⟩
  · rw [if_neg h]
    have f := alloc_fit (rl := k.rl) (sl := k.sl) (n := pagesI c) (cl := c) ⟨by omega, by omega, by omega⟩
    by_cases g : (allocA k.rl k.sl (pagesI c) c).e = 0
    · rw [if_pos g]
      exact ⟨fun _ => .inl (f.1 g), fun _ => rfl⟩
    · rw [if_neg g]
      exact ⟨fun q => absurd q (show ¬ (3 : Int) = 0 by decide), fun q => q.elim (fun q => absurd (f.2 q) g) (fun q => absurd q h)⟩
theorem alloc_no {w : Nat} {n : Int} (hn : classB n = true) (h : (takeWR P k ca w (classI n)).2.2.2 ≠ 0) : allocW P k ca live w n = (k, ca, live, 0, 3) := by
  unfold allocW
  rw [if_pos hn, if_neg h]
theorem alloc_yes {w : Nat} {n : Int} (hn : classB n = true) (h : (takeWR P k ca w (classI n)).2.2.2 = 0) : allocW P k ca live w n = ((takeWR P k ca w (classI n)).1, (takeWR P k ca w (classI n)).2.1, Lm.insL live (Lm.newS n (takeWR P k ca w (classI n)).2.2.1), (takeWR P k ca w (classI n)).2.2.1, 0) := by
  unfold allocW
  rw [if_pos hn, if_pos h]
theorem ins_len (l : List Lm.S) (x : Lm.S) : (Lm.insL l x).length = l.length + 1 := by
  unfold Lm.insL
  rw [List.length_append, List.length_take, List.length_cons, List.length_drop]
  omega
/-- What is told is a unit's address, apart from all that is live. -/
theorem took_at (v : Sq P nw k ca live) {w : Nat} (hw : w < nw) {n : Int} (hn : classB n = true) (h : (takeWR P k ca w (classI n)).2.2.2 = 0) : 0 ≤ (takeWR P k ca w (classI n)).2.2.1 ∧ (takeWR P k ca w (classI n)).2.2.1 % 32 = 0 ∧ (takeWR P k ca w (classI n)).2.2.1 ≤ 16384 ∧ ∀ x ∈ live, ¬ (x.a < (takeWR P k ca w (classI n)).2.2.1 + wordsI (classI n) ∧ (takeWR P k ca w (classI n)).2.2.1 < x.a + wordsI x.n) := by
  have r := (v.alloc hw hn h).1
  unfold Lm.roomB Lm.fitB at r
  simp only [Bool.and_eq_true, Bool.not_eq_true'] at r
  obtain ⟨⟨_, l⟩, a⟩ := r
  have ly := Lm.lies_of l
  have hP := v.iq.inv.pages
  have f := ly.fit
  have w := ly.w0
  refine ⟨ly.a0, ly.a1, by omega, fun x hx q => ?_⟩
  unfold Lm.anyB at a
  rw [List.any_eq_false] at a
  have z := a x hx
  unfold Lm.hitB at z
  simp only [decide_eq_true_eq] at z
  unfold Lm.endI at z
  omega
theorem parts_len {l0 l1 l2 l3 l4 l5 : List Pc} (v : Sq P nw k ca live) (po : PartsOf nw k ca live l0 l1 l2 l3 l4 l5) : l0.length ≤ 20000 ∧ l1.length ≤ 20000 ∧ l2.length ≤ 20000 ∧ l3.length ≤ 20000 ∧ l4.length ≤ 20000 ∧ l5.length ≤ 20000 := by
  have c := cov_parts v po
  have hP := v.iq.inv.pages
  have a0 := c.len (show 0 < 7 by omega)
  have a1 := c.len (show 1 < 7 by omega)
  have a2 := c.len (show 2 < 7 by omega)
  have a3 := c.len (show 3 < 7 by omega)
  have a4 := c.len (show 4 < 7 by omega)
  have a5 := c.len (show 5 < 7 by omega)
  simp only [seq7] at a0 a1 a2 a3 a4 a5
  omega
theorem pc_fr {D : Nat → Prop} {W W' : World} {A : Option Addr} {n : Nat} {l : List Pc} (h : Pc.Rs W A n l) (k : Kept D W W') (hd : ∀ b, b < W.heap.size → FR A n b → ¬ D b) : Pc.Rs W' A n l := by
  by_cases hn : 0 < n
  · obtain ⟨g, o, rfl, hg, _⟩ := h.lies hn
    exact h.kept k (fun ad e => by injection e with e; subst e; exact hd _ hg ⟨hn, _, rfl, rfl⟩)
  · obtain rfl : n = 0 := by omega
    obtain rfl : l = [] := List.eq_nil_of_length_eq_zero h.len
    exact Pc.Rs.nil _ _
theorem pages_lim (c : Int) : 0 ≤ pagesI c ∧ pagesI c ≤ 64 := by
  by_cases a : 0 ≤ c ∧ c ≤ 7
  · have : c = 0 ∨ c = 1 ∨ c = 2 ∨ c = 3 ∨ c = 4 ∨ c = 5 ∨ c = 6 ∨ c = 7 := by omega
    rcases this with rfl | rfl | rfl | rfl | rfl | rfl | rfl | rfl <;> decide
  · rw [pagesI_out c (by omega)]; omega
end Go.Proofs.YtcndilpaijapkaaGreat.Shp
