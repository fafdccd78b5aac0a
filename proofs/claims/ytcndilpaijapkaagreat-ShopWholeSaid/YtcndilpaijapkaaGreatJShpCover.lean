/-
  The law's own Cover, Has and total: pieces that are apart from each other and together are all words cover them. Own work; each is proved by a walk through the landed text.
-/
import Derived.Test.YtcndilpaijapkaaGreatRows
import Derived.WalkKit
import Derived.ProofKit
import Derived.OpenShut
import Derived.Outline
import Derived.Deep.Light
import Derived.Deep.QuietTactic
import Derived.BigQuiet
import Derived.IntWalk
import Derived.StillTailTactics
import Derived.RegionTactic
import Derived.Deep.RegionLaw
import Derived.Deep.RegionHeld3
import Derived.Test.YtcndilpaijapkaaGreatJBoolRow
import Derived.Test.YtcndilpaijapkaaGreatJShpF
namespace Go.Proofs.YtcndilpaijapkaaGreat.Shp
open Sto
open Go.ChangeShapes Go.WideShapes Go.ChangeAt Go.RowKit
set_option maxRecDepth 100000

/-- The lists ahead of the n-th. -/
def upTo (L : Nat → List Pc) : Nat → List Pc
  | 0 => []
  | n + 1 => upTo L n ++ L n
def hasF (D : List Pc) (q : Nat) : Bool := D.any fun x => decide (x.1 ≤ (q : Int) ∧ (q : Int) < x.1 + x.2)
def hasJ (D : List Pc) (a j : Nat) (q : Nat) : Bool := hasF D q || decide (a ≤ q ∧ q < j)
theorem hasJ_start (D : List Pc) (a : Nat) : hasJ D a a = hasF D := by
  funext q
  unfold hasJ
  rw [decide_eq_false (by omega), Bool.or_false]
theorem hasJ_step (D : List Pc) (a j : Nat) (h : a ≤ j) : Br.updB (hasJ D a j) j true = hasJ D a (j + 1) := by
  funext q
  unfold Br.updB hasJ
  by_cases e : q = j
  · subst e
    rw [if_pos rfl, decide_eq_true (show a ≤ q ∧ q < q + 1 by omega), Bool.or_true]
  · rw [if_neg e]
    by_cases c : a ≤ q ∧ q < j
    · rw [decide_eq_true c, decide_eq_true (show a ≤ q ∧ q < j + 1 by omega)]
    · rw [decide_eq_false c, decide_eq_false (show ¬ (a ≤ q ∧ q < j + 1) by omega)]
theorem hasJ_done (D : List Pc) (x : Pc) (a n : Nat) (e1 : x.1 = (a : Int)) (e2 : x.2 = (n : Int)) : hasJ D a (a + n) = hasF (D ++ [x]) := by
  funext q
  unfold hasJ hasF
  rw [List.any_append]
  simp only [List.any_cons, List.any_nil, Bool.or_false]
  congr 1
  by_cases c : a ≤ q ∧ q < a + n
  · rw [decide_eq_true c, decide_eq_true (by omega)]
  · rw [decide_eq_false c, decide_eq_false (by omega)]
/-- None of the words of a piece is one of those apart from it. -/
theorem hasF_free {D : List Pc} {x : Pc} (h : ∀ y ∈ D, Dis y x) {q : Nat} (h1 : x.1 ≤ (q : Int)) (h2 : (q : Int) < x.1 + x.2) : hasF D q = false := by
  unfold hasF
  rw [List.any_eq_false]
  intro y hy
  have : y.1 + y.2 ≤ x.1 ∨ x.1 + x.2 ≤ y.1 := h y hy
  simp only [decide_eq_true_eq]
  omega
structure CovL (N : Nat) (L : Nat → List Pc) : Prop where
  pw : (upTo L 7).Pairwise Dis
  fit : ∀ x ∈ upTo L 7, 0 ≤ x.1 ∧ 1 ≤ x.2 ∧ x.1 + x.2 ≤ (N : Int)
  sum : sumP (upTo L 7) = (N : Int)
  asc : ∀ i, i < 7 → (L i).Pairwise (fun x y => x.1 < y.1)
theorem upTo_pre (L : Nat → List Pc) : ∀ (n : Nat) (i : Nat), i ≤ n → ∃ t, upTo L n = upTo L i ++ t
  | 0, i, h => ⟨[], by obtain rfl : i = 0 := by omega
                       simp⟩
  | n + 1, i, h => by
    by_cases e : i = n + 1
    · exact ⟨[], by rw [e]; simp⟩
    · obtain ⟨t, ht⟩ := upTo_pre L n i (by omega)
      exact ⟨t ++ L n, by show upTo L n ++ L n = _; rw [ht, List.append_assoc]⟩
/-- The piece at place k of list i: what is so of it. -/
theorem CovL.at_ {N : Nat} {L : Nat → List Pc} (h : CovL N L) {i k : Nat} (hi : i < 7) {x : Pc} (hx : (L i)[k]? = some x) :
    (0 ≤ x.1 ∧ 1 ≤ x.2 ∧ x.1 + x.2 ≤ (N : Int)) ∧ (∀ y ∈ upTo L i ++ (L i).take k, Dis y x) ∧ 0 ≤ sumP (upTo L i ++ (L i).take k) ∧ sumP (upTo L i ++ (L i).take (k + 1)) ≤ (N : Int) := by
  obtain ⟨t, ht⟩ := upTo_pre L 7 (i + 1) (by omega)
  have e : upTo L 7 = (upTo L i ++ (L i).take k) ++ (x :: ((L i).drop (k + 1) ++ t)) := by
    rw [ht]
    show (upTo L i ++ L i) ++ t = _
    have s : L i = (L i).take k ++ x :: (L i).drop (k + 1) := split_at hx
    conv => lhs; rw [s]
    simp [List.append_assoc]
  have pos : ∀ l : List Pc, (∀ y ∈ l, 1 ≤ y.2) → 0 ≤ sumP l := by
    intro l
    induction l with
    | nil => intro _; exact Int.le_refl _
    | cons y t ih =>
      intro hy
      have := ih (fun z hz => hy z (List.mem_cons_of_mem _ hz))
      have := hy y List.mem_cons_self
      show 0 ≤ y.2 + sumP t
      omega
  have pw := h.pw
  have fit := h.fit
  have sum := h.sum
  rw [e] at pw fit sum
  obtain ⟨_, _, p3⟩ := List.pairwise_append.1 pw
  rw [sumP_append] at sum
  have hx2 : sumP (x :: ((L i).drop (k + 1) ++ t)) = x.2 + sumP ((L i).drop (k + 1) ++ t) := rfl
  have r1 := pos ((L i).drop (k + 1) ++ t) (fun y hy => (fit y (List.mem_append_right _ (List.mem_cons_of_mem _ hy))).2.1)
  have r2 := pos (upTo L i ++ (L i).take k) (fun y hy => (fit y (List.mem_append_left _ hy)).2.1)
  have tk : (L i).take (k + 1) = (L i).take k ++ [x] := Prt.take_at hx
  refine ⟨fit x (List.mem_append_right _ List.mem_cons_self), fun y hy => p3 y hy x List.mem_cons_self, r2, ?_⟩
  rw [tk, ← List.append_assoc, sumP_append]
  show _ + (x.2 + 0) ≤ _
  omega
theorem len_sum : ∀ {l : List Pc}, (∀ x ∈ l, 1 ≤ x.2) → (l.length : Int) ≤ sumP l
  | [], _ => Int.le_refl _
  | x :: t, h => by
    have a := len_sum (l := t) (fun y hy => h y (List.mem_cons_of_mem _ hy))
    have b := h x List.mem_cons_self
    show ((t.length + 1 : Nat) : Int) ≤ x.2 + sumP t
    omega
theorem CovL.len {N : Nat} {L : Nat → List Pc} (h : CovL N L) {i : Nat} (hi : i < 7) : (L i).length ≤ N := by
  obtain ⟨t, ht⟩ := upTo_pre L 7 (i + 1) (by omega)
  have a := len_sum (l := upTo L 7) (fun x hx => (h.fit x hx).2.1)
  rw [h.sum, ht] at a
  have e : ((upTo L (i + 1)) ++ t).length = (upTo L i).length + (L i).length + t.length := by
    show ((upTo L i ++ L i) ++ t).length = _
    simp only [List.length_append]
  rw [e] at a
  omega
theorem seven {α : Type} {V : Nat → α} {i : Nat} (h : i < 7) : ([V 0, V 1, V 2, V 3, V 4, V 5, V 6] : List α)[i]? = some (V i) := by
  rcases (show i = 0 ∨ i = 1 ∨ i = 2 ∨ i = 3 ∨ i = 4 ∨ i = 5 ∨ i = 6 by omega) with rfl | rfl | rfl | rfl | rfl | rfl | rfl <;> rfl
theorem upTo_take (L : Nat → List Pc) (i : Nat) : upTo L i ++ (L i).take (L i).length = upTo L (i + 1) := by rw [List.take_length]; rfl
set_option maxHeartbeats 8000000 in
/-- Pieces in seven lists, apart from each other, that are all words. -/
theorem cover_any (N : Nat) (hN : N ≤ 16384) (L : Nat → List Pc) (h : CovL N L) (A : Nat → Option Addr) (n c : Nat → Nat) (w : World) (hR : ∀ i, i < 7 → Pc.Rs w (A i) (n i) (L i)) :
    Calls Tryz.prog 26 #[.agg #[.slice (A 0) (n 0) (c 0), .slice (A 1) (n 1) (c 1), .slice (A 2) (n 2) (c 2), .slice (A 3) (n 3) (c 3), .slice (A 4) (n 4) (c 4), .slice (A 5) (n 5) (c 5), .slice (A 6) (n 6) (c 6)], .int .i64 (N : Int)] w fun e w' => e = .returned (.bool true) ∧ Kept Old w w' := by
  obtain ⟨P, hP⟩ : ∃ P : List Value, P = [.slice (A 0) (n 0) (c 0), .slice (A 1) (n 1) (c 1), .slice (A 2) (n 2) (c 2), .slice (A 3) (n 3) (c 3), .slice (A 4) (n 4) (c 4), .slice (A 5) (n 5) (c 5), .slice (A 6) (n 6) (c 6)] := ⟨_, rfl⟩
  have KP : Kept Old w (w.alloc (.cells P.toArray 44)) := (Kept.refl Old w).alloc _
  obtain ⟨W1, hmk, hbr, K1, hlt⟩ := Br.make_bools (w.alloc (.cells P.toArray 44)) N (by omega)
  have KW := Lib.hid (KP.trans K1)
  have b2 := (Blk.new w 44 P).kept K1 (fun x => x)
  subst hP
  have p0 := b2.cell 0
  have p1 := b2.cell 1
  have p2 := b2.cell 2
  have p3 := b2.cell 3
  have p4 := b2.cell 4
  have p5 := b2.cell 5
  have p6 := b2.cell 6
  simp only [List.getElem?_cons_succ, List.getElem?_cons_zero] at p0 p1 p2 p3 p4 p5 p6
  have hR := Lib.hid hR
  have HC := Lib.hid h
  have HB := Lib.hid hbr
  clear h b2 KP K1 hbr
  go_enter Tryz.func26, Tryz.ntmps26
  go_wp2_with fail
  have B2 := HB.out.alloc (.cells #[.slice (A 0) (n 0) (c 0), .slice (A 1) (n 1) (c 1), .slice (A 2) (n 2) (c 2), .slice (A 3) (n 3) (c 3), .slice (A 4) (n 4) (c 4), .slice (A 5) (n 5) (c 5), .slice (A 6) (n 6) (c 6)] 42)
  have LB := Blk.new W1 42 [.slice (A 0) (n 0) (c 0), .slice (A 1) (n 1) (c 1), .slice (A 2) (n 2) (c 2), .slice (A 3) (n 3) (c 3), .slice (A 4) (n 4) (c 4), .slice (A 5) (n 5) (c 5), .slice (A 6) (n 6) (c 6)]
  have K2 := KW.out.alloc (.cells #[.slice (A 0) (n 0) (c 0), .slice (A 1) (n 1) (c 1), .slice (A 2) (n 2) (c 2), .slice (A 3) (n 3) (c 3), .slice (A 4) (n 4) (c 4), .slice (A 5) (n 5) (c 5), .slice (A 6) (n 6) (c 6)] 42)
  have hbw : w.heap.size ≤ (w.alloc (.cells #[.slice (A 0) (n 0) (c 0), .slice (A 1) (n 1) (c 1), .slice (A 2) (n 2) (c 2), .slice (A 3) (n 3) (c 3), .slice (A 4) (n 4) (c 4), .slice (A 5) (n 5) (c 5), .slice (A 6) (n 6) (c 6)] 44)).heap.size := by simp
  clear hmk p0 p1 p2 p3 p4 p5 p6
  have hbe : (w.alloc (.cells #[.slice (A 0) (n 0) (c 0), .slice (A 1) (n 1) (c 1), .slice (A 2) (n 2) (c 2), .slice (A 3) (n 3) (c 3), .slice (A 4) (n 4) (c 4), .slice (A 5) (n 5) (c 5), .slice (A 6) (n 6) (c 6)] 44)).heap.size = w.heap.size + 1 := by simp
  rw [hbe] at hlt B2 hbw
  clear hbe
  generalize w.heap.size + 1 = hb at *
  generalize hlb : W1.heap.size = lb at *
  generalize W1.alloc (.cells #[.slice (A 0) (n 0) (c 0), .slice (A 1) (n 1) (c 1), .slice (A 2) (n 2) (c 2), .slice (A 3) (n 3) (c 3), .slice (A 4) (n 4) (c 4), .slice (A 5) (n 5) (c 5), .slice (A 6) (n 6) (c 6)] 42) = W2 at *
  have B2 := Lib.hid (show Br.BR W2 hb N (hasF (upTo L 0)) from B2)
  have LC := Lib.hid (fun (X : World) (q : Kept (Only hb) W2 X) (i : Nat) (hi : i < 7) => (show X.cell? ⟨lb, i, none⟩ = some (.slice (A i) (n i) (c i)) from ((LB.kept q (fun e => by have e : lb = hb := e; omega)).cell i).trans (seven (V := fun i => (.slice (A i) (n i) (c i) : Value)) hi)))
  have KK := Lib.hid (fun (X : World) (q : Kept (Only hb) W2 X) => (show Kept Old w X from K2.join q (fun i hi e => by have e : i = hb := e; omega)))
  have hlt := Lib.hid hlt
  clear LB K2 hlb HB KW hbw
  go_loopw [7, 8] (fun s7 s8 wr => ∃ i : Nat, i ≤ 7 ∧ s8 = .int .i64 (i : Int) ∧ s7 = .int .i64 (sumP (upTo L i)) ∧ Hid (Br.BR wr hb N (hasF (upTo L i))) ∧ Hid (Kept (Only hb) W2 wr)) (fun _ s8 _ => 8 - (intOf s8).toNat)
  case atStart => exact ⟨0, by omega, rfl, rfl, B2, Lib.hid (Kept.refl _ _)⟩
  case round =>
    clear B2
    obtain ⟨i, hi, rfl, rfl, B1, K1⟩ := hrel
    rename World => V
    have wi : IntKind.i64.wrap ((i : Int) + 1) = (i : Int) + 1 := IntWalk.i64_in _ (by omega)
    by_cases ci : i < 7
    · have ci' : (i : Int) < 7 := by omega
      have len := (hR.out i ci).len
      have ni : n i ≤ 16384 := by have := HC.out.len ci; omega
      go_wp2_with fail
      go_loopw [7, 9] (fun s7 s9 wr => ∃ k : Nat, k ≤ n i ∧ s9 = .int .i64 (k : Int) ∧ s7 = .int .i64 (sumP (upTo L i ++ (L i).take k)) ∧ Hid (Br.BR wr hb N (hasF (upTo L i ++ (L i).take k))) ∧ Hid (Kept (Only hb) W2 wr)) (fun _ s9 _ => n i + 1 - (intOf s9).toNat)
      case atStart => exact ⟨0, Nat.zero_le _, rfl, by rw [List.take_zero, List.append_nil], by rw [List.take_zero, List.append_nil]; exact B1, K1⟩
      case round =>
        clear B1 K1
        obtain ⟨k, hk, rfl, rfl, B1, K1⟩ := hrel
        rename World => V
        have wk : IntKind.i64.wrap ((k : Int) + 1) = (k : Int) + 1 := IntWalk.i64_in _ (by omega)
        have lc := LC.out V K1.out i ci
        have i0 : ¬ (i : Int) < 0 := by omega
        by_cases ck : k < n i
        · have ck' : (k : Int) < (n i : Int) := by omega
          obtain ⟨g, o, x, eA, hg, hx, _, _, x0, x1⟩ := ((hR.out i ci).old (KK.out V K1.out)).get ck
          rw [eA] at lc
          obtain ⟨⟨f0, f1, f2⟩, fD, s0, s1⟩ := HC.out.at_ ci hx
          obtain ⟨a, m, rfl⟩ : ∃ a m : Nat, x = ((a : Int), (m : Int)) := ⟨x.1.toNat, x.2.toNat, Prod.ext (by show x.1 = _; omega) (by show x.2 = _; omega)⟩
          simp only at f0 f1 f2 x0 x1
          have tk : upTo L i ++ (L i).take (k + 1) = (upTo L i ++ (L i).take k) ++ [((a : Int), (m : Int))] := by rw [Prt.take_at hx, List.append_assoc]
          rw [tk, sumP_append] at s1
          have s1 : sumP (upTo L i ++ (L i).take k) + ((m : Int) + 0) ≤ (N : Int) := s1
          generalize hD : upTo L i ++ (L i).take k = D at *
          have hD := Lib.hid hD
          have tk := Lib.hid tk
          have XB := Blk.new V 54 [.int .i64 (a : Int), .int .i64 (m : Int)]
          have xc0 := XB.cell 0
          have xc1 := XB.cell 1
          simp only [List.getElem?_cons_succ, List.getElem?_cons_zero] at xc0 xc1
          have B2 := Lib.hid (B1.out.kept (D := Old) ((Kept.refl Old V).alloc (.cells #[.int .i64 (a : Int), .int .i64 (m : Int)] 54)) (fun z => z))
          have lc2 := Bg.cell_on ((Kept.refl Old V).alloc (.cells #[.int .i64 (a : Int), .int .i64 (m : Int)] 54)) lc
          have K2 := Lib.hid (K1.out.alloc (.cells #[.int .i64 (a : Int), .int .i64 (m : Int)] 54))
          have nf0 : ¬ (a : Int) < 0 := by omega
          have nf1 : ¬ (m : Int) < 1 := by omega
          have hN2 : a ≤ N := by omega
          have nf2 : ¬ (N : Int) < (a : Int) := by omega
          have nf3 : ¬ (N : Int) - (a : Int) < (m : Int) := by omega
          have ws : IntKind.i64.wrap ((N : Int) - (a : Int)) = (N : Int) - (a : Int) := IntWalk.i64_in _ (by omega)
          have xlt := Lib.hid (show hb < V.heap.size from Blk.lt B1.out)
          have PY := Lib.hid (fun (k' : Nat) (e : k = k' + 1) => (show ∃ y : Pc, y.1 < (a : Int) ∧ (V.alloc (.cells #[.int .i64 (a : Int), .int .i64 (m : Int)] 54)).cell? ⟨g, o + k' * 2, none⟩ = some (.int .i64 y.1) from by
            obtain ⟨g2, o2, y, e2, _, hy, _, _, y0, _⟩ := ((hR.out i ci).old (KK.out V K1.out)).get (show k' < n i by omega)
            rw [eA] at e2
            injection e2 with e2
            injection e2 with e3 e4
            subst e3
            subst e4
            have hasc := HC.out.asc i ci
            rw [List.pairwise_iff_getElem] at hasc
            obtain ⟨j1, j2⟩ := List.getElem?_eq_some_iff.1 hy
            obtain ⟨j3, j4⟩ := List.getElem?_eq_some_iff.1 hx
            have q := hasc k' k j1 j3 (by omega)
            rw [j2, j4] at q
            exact ⟨y, q, Bg.cell_on ((Kept.refl Old V).alloc _) y0⟩))
          clear XB
          go_wp2_with fail
          generalize hxb : V.heap.size = xb at *
          generalize V.alloc (.cells #[.int .i64 (a : Int), .int .i64 (m : Int)] 54) = V2 at *
          clear B1 K1 lc x0 x1
          cases k with
          | zero =>
            have PY := PY
            clear PY
            refine wp_region_held_drew (S := (fun w' => w'.cell? ⟨xb, 0, none⟩ = some (.int .i64 (a : Int)) ∧ w'.cell? ⟨xb, 1, none⟩ = some (.int .i64 (m : Int)) ∧ w'.cell? ⟨lb, i, none⟩ = some (.slice (some ⟨g, o, none⟩) (n i) (c i)))) (by kernel_rfl) ⟨xc0, xc1, lc2⟩ (fun hHeld => ?_)
            refine wpAnyH_take (i := 0) (v := .pointer (some ⟨xb, 0, none⟩)) rfl (by kernel_rfl) (by decide +kernel) (by decide +kernel) (fun _ _ _ h => h) (Or.inl ⟨by rfl, fun w' hSw => ?_⟩) hHeld ?_
            · (go_simp)
            simp only [Act.put, List.getElem_toArray, List.getElem_cons_zero, List.setIfInBounds_toArray, List.set_cons_zero, List.set_cons_succ]
            refine wpAnyH_take (i := 1) (v := .int .i64 (a : Int)) rfl (by kernel_rfl) (by decide +kernel) (by decide +kernel) (fun _ _ _ h => h) (Or.inl ⟨by rfl, fun w' hSw => ?_⟩) hHeld ?_
            · (go_simp)
            simp only [Act.put, List.getElem_toArray, List.getElem_cons_succ, List.getElem_cons_zero, List.setIfInBounds_toArray, List.set_cons_zero, List.set_cons_succ]
            refine wpAnyH_take (i := 2) (v := .bool false) rfl (by kernel_rfl) (by decide +kernel) (by decide +kernel) (fun _ _ _ h => h) (Or.inl ⟨by rfl, fun w' hSw => ?_⟩) hHeld ?_
            · (go_simp)
            simp only [Act.put, List.getElem_toArray, List.getElem_cons_succ, List.getElem_cons_zero, List.setIfInBounds_toArray, List.set_cons_zero, List.set_cons_succ]
            refine wpAnyH_take (i := 3) (v := .bool false) rfl (by kernel_rfl) (by decide +kernel) (by decide +kernel) (fun _ _ _ h => h) (Or.inl ⟨by rfl, fun w' hSw => ?_⟩) hHeld ?_
            · (go_simp)
            simp only [Act.put, List.getElem_toArray, List.getElem_cons_succ, List.getElem_cons_zero, List.setIfInBounds_toArray, List.set_cons_zero, List.set_cons_succ]
            refine wpAnyH_take (i := 4) (v := .pointer (some ⟨xb, 1, none⟩)) rfl (by kernel_rfl) (by decide +kernel) (by decide +kernel) (fun _ _ _ h => h) (Or.inl ⟨by rfl, fun w' hSw => ?_⟩) hHeld ?_
            · (go_simp)
            simp only [Act.put, List.getElem_toArray, List.getElem_cons_succ, List.getElem_cons_zero, List.setIfInBounds_toArray, List.set_cons_zero, List.set_cons_succ]
            refine wpAnyH_take (i := 5) (v := .int .i64 (m : Int)) rfl (by kernel_rfl) (by decide +kernel) (by decide +kernel) (fun _ _ _ h => h) (Or.inl ⟨by rfl, fun w' hSw => ?_⟩) hHeld ?_
            · (go_simp)
            simp only [Act.put, List.getElem_toArray, List.getElem_cons_succ, List.getElem_cons_zero, List.setIfInBounds_toArray, List.set_cons_zero, List.set_cons_succ]
            refine wpAnyH_take (i := 6) (v := .bool false) rfl (by kernel_rfl) (by decide +kernel) (by decide +kernel) (fun _ _ _ h => h) (Or.inl ⟨by rfl, fun w' hSw => ?_⟩) hHeld ?_
            · (go_simp)
            simp only [Act.put, List.getElem_toArray, List.getElem_cons_succ, List.getElem_cons_zero, List.setIfInBounds_toArray, List.set_cons_zero, List.set_cons_succ]
            refine wpAnyH_take (i := 7) (v := .bool false) rfl (by kernel_rfl) (by decide +kernel) (by decide +kernel) (fun _ _ _ h => h) (Or.inl ⟨by rfl, fun w' hSw => ?_⟩) hHeld ?_
            · (go_simp)
            simp only [Act.put, List.getElem_toArray, List.getElem_cons_succ, List.getElem_cons_zero, List.setIfInBounds_toArray, List.set_cons_zero, List.set_cons_succ]
            refine wpAnyH_take (i := 8) (v := .bool false) rfl (by kernel_rfl) (by decide +kernel) (by decide +kernel) (fun _ _ _ h => h) (Or.inl ⟨by rfl, fun w' hSw => ?_⟩) hHeld ?_
            · (go_simp)
            simp only [Act.put, List.getElem_toArray, List.getElem_cons_succ, List.getElem_cons_zero, List.setIfInBounds_toArray, List.set_cons_zero, List.set_cons_succ]
            refine wpAnyH_take (i := 9) (v := .pointer (some ⟨xb, 0, none⟩)) rfl (by kernel_rfl) (by decide +kernel) (by decide +kernel) (fun _ _ _ h => h) (Or.inl ⟨by rfl, fun w' hSw => ?_⟩) hHeld ?_
            · (go_simp)
            simp only [Act.put, List.getElem_toArray, List.getElem_cons_succ, List.getElem_cons_zero, List.setIfInBounds_toArray, List.set_cons_zero, List.set_cons_succ]
            refine wpAnyH_take (i := 10) (v := .int .i64 (a : Int)) rfl (by kernel_rfl) (by decide +kernel) (by decide +kernel) (fun _ _ _ h => h) (Or.inl ⟨by rfl, fun w' hSw => ?_⟩) hHeld ?_
            · (go_simp)
            simp only [Act.put, List.getElem_toArray, List.getElem_cons_succ, List.getElem_cons_zero, List.setIfInBounds_toArray, List.set_cons_zero, List.set_cons_succ]
            refine wpAnyH_take (i := 11) (v := .int .i64 (N : Int)) rfl (by kernel_rfl) (by decide +kernel) (by decide +kernel) (fun _ _ _ h => h) (Or.inl ⟨by rfl, fun w' hSw => ?_⟩) hHeld ?_
            · (go_simp)
            simp only [Act.put, List.getElem_toArray, List.getElem_cons_succ, List.getElem_cons_zero, List.setIfInBounds_toArray, List.set_cons_zero, List.set_cons_succ]
            refine wpAnyH_take (i := 12) (v := .bool false) rfl (by kernel_rfl) (by decide +kernel) (by decide +kernel) (fun _ _ _ h => h) (Or.inl ⟨by rfl, fun w' hSw => ?_⟩) hHeld ?_
            · (go_simp)
            simp only [Act.put, List.getElem_toArray, List.getElem_cons_succ, List.getElem_cons_zero, List.setIfInBounds_toArray, List.set_cons_zero, List.set_cons_succ]
            refine wpAnyH_take (i := 13) (v := .bool false) rfl (by kernel_rfl) (by decide +kernel) (by decide +kernel) (fun _ _ _ h => h) (Or.inl ⟨by rfl, fun w' hSw => ?_⟩) hHeld ?_
            · (go_simp)
            simp only [Act.put, List.getElem_toArray, List.getElem_cons_succ, List.getElem_cons_zero, List.setIfInBounds_toArray, List.set_cons_zero, List.set_cons_succ]
            refine wpAnyH_take (i := 14) (v := .bool false) rfl (by kernel_rfl) (by decide +kernel) (by decide +kernel) (fun _ _ _ h => h) (Or.inl ⟨by rfl, fun w' hSw => ?_⟩) hHeld ?_
            · (go_simp)
            simp only [Act.put, List.getElem_toArray, List.getElem_cons_succ, List.getElem_cons_zero, List.setIfInBounds_toArray, List.set_cons_zero, List.set_cons_succ]
            refine wpAnyH_take (i := 15) (v := .pointer (some ⟨xb, 1, none⟩)) rfl (by kernel_rfl) (by decide +kernel) (by decide +kernel) (fun _ _ _ h => h) (Or.inl ⟨by rfl, fun w' hSw => ?_⟩) hHeld ?_
            · (go_simp)
            simp only [Act.put, List.getElem_toArray, List.getElem_cons_succ, List.getElem_cons_zero, List.setIfInBounds_toArray, List.set_cons_zero, List.set_cons_succ]
            refine wpAnyH_take (i := 16) (v := .int .i64 (m : Int)) rfl (by kernel_rfl) (by decide +kernel) (by decide +kernel) (fun _ _ _ h => h) (Or.inl ⟨by rfl, fun w' hSw => ?_⟩) hHeld ?_
            · (go_simp)
            simp only [Act.put, List.getElem_toArray, List.getElem_cons_succ, List.getElem_cons_zero, List.setIfInBounds_toArray, List.set_cons_zero, List.set_cons_succ]
            refine wpAnyH_take (i := 17) (v := .int .i64 (N : Int)) rfl (by kernel_rfl) (by decide +kernel) (by decide +kernel) (fun _ _ _ h => h) (Or.inl ⟨by rfl, fun w' hSw => ?_⟩) hHeld ?_
            · (go_simp)
            simp only [Act.put, List.getElem_toArray, List.getElem_cons_succ, List.getElem_cons_zero, List.setIfInBounds_toArray, List.set_cons_zero, List.set_cons_succ]
            refine wpAnyH_take (i := 18) (v := .pointer (some ⟨xb, 0, none⟩)) rfl (by kernel_rfl) (by decide +kernel) (by decide +kernel) (fun _ _ _ h => h) (Or.inl ⟨by rfl, fun w' hSw => ?_⟩) hHeld ?_
            · (go_simp)
            simp only [Act.put, List.getElem_toArray, List.getElem_cons_succ, List.getElem_cons_zero, List.setIfInBounds_toArray, List.set_cons_zero, List.set_cons_succ]
            refine wpAnyH_take (i := 19) (v := .int .i64 (a : Int)) rfl (by kernel_rfl) (by decide +kernel) (by decide +kernel) (fun _ _ _ h => h) (Or.inl ⟨by rfl, fun w' hSw => ?_⟩) hHeld ?_
            · (go_simp)
            simp only [Act.put, List.getElem_toArray, List.getElem_cons_succ, List.getElem_cons_zero, List.setIfInBounds_toArray, List.set_cons_zero, List.set_cons_succ]
            refine wpAnyH_take (i := 20) (v := .int .i64 ((N : Int) - (a : Int))) rfl (by kernel_rfl) (by decide +kernel) (by decide +kernel) (fun _ _ _ h => h) (Or.inl ⟨by rfl, fun w' hSw => ?_⟩) hHeld ?_
            · (go_simp)
            simp only [Act.put, List.getElem_toArray, List.getElem_cons_succ, List.getElem_cons_zero, List.setIfInBounds_toArray, List.set_cons_zero, List.set_cons_succ]
            refine wpAnyH_take (i := 21) (v := .bool false) rfl (by kernel_rfl) (by decide +kernel) (by decide +kernel) (fun _ _ _ h => h) (Or.inl ⟨by rfl, fun w' hSw => ?_⟩) hHeld ?_
            · (go_simp)
            simp only [Act.put, List.getElem_toArray, List.getElem_cons_succ, List.getElem_cons_zero, List.setIfInBounds_toArray, List.set_cons_zero, List.set_cons_succ]
            refine wpAnyH_take (i := 22) (v := .bool false) rfl (by kernel_rfl) (by decide +kernel) (by decide +kernel) (fun _ _ _ h => h) (Or.inl ⟨by rfl, fun w' hSw => ?_⟩) hHeld ?_
            · (go_simp)
            simp only [Act.put, List.getElem_toArray, List.getElem_cons_succ, List.getElem_cons_zero, List.setIfInBounds_toArray, List.set_cons_zero, List.set_cons_succ]
            refine wpAnyH_take (i := 23) (v := .bool false) rfl (by kernel_rfl) (by decide +kernel) (by decide +kernel) (fun _ _ _ h => h) (Or.inl ⟨by rfl, fun w' hSw => ?_⟩) hHeld ?_
            · (go_simp)
            simp only [Act.put, List.getElem_toArray, List.getElem_cons_succ, List.getElem_cons_zero, List.setIfInBounds_toArray, List.set_cons_zero, List.set_cons_succ]
            refine wpAnyH_take (i := 24) (v := .int .i64 0) rfl (by kernel_rfl) (by decide +kernel) (by decide +kernel) (fun _ _ _ h => h) (Or.inl ⟨by rfl, fun w' hSw => ?_⟩) hHeld ?_
            · (go_simp)
            simp only [Act.put, List.getElem_toArray, List.getElem_cons_succ, List.getElem_cons_zero, List.setIfInBounds_toArray, List.set_cons_zero, List.set_cons_succ]
            refine wpAnyH_take (i := 25) (v := .bool false) rfl (by kernel_rfl) (by decide +kernel) (by decide +kernel) (fun _ _ _ h => h) (Or.inl ⟨by rfl, fun w' hSw => ?_⟩) hHeld ?_
            · (go_simp)
            simp only [Act.put, List.getElem_toArray, List.getElem_cons_succ, List.getElem_cons_zero, List.setIfInBounds_toArray, List.set_cons_zero, List.set_cons_succ]
            refine wpAnyH_take (i := 26) (v := .bool false) rfl (by kernel_rfl) (by decide +kernel) (by decide +kernel) (fun _ _ _ h => h) (Or.inl ⟨by rfl, fun w' hSw => ?_⟩) hHeld ?_
            · (go_simp)
            simp only [Act.put, List.getElem_toArray, List.getElem_cons_succ, List.getElem_cons_zero, List.setIfInBounds_toArray, List.set_cons_zero, List.set_cons_succ]
            refine wpAnyH_take (i := 27) (v := undef) rfl (by kernel_rfl) (by decide +kernel) (by decide +kernel) (fun _ _ _ h => h) (Or.inr ⟨by rfl, rfl⟩) hHeld ?_
            simp only [Act.put, List.getElem_toArray, List.getElem_cons_succ, List.getElem_cons_zero, List.setIfInBounds_toArray, List.set_cons_zero, List.set_cons_succ]
            refine wpAnyH_take (i := 28) (v := undef) rfl (by kernel_rfl) (by decide +kernel) (by decide +kernel) (fun _ _ _ h => h) (Or.inr ⟨by rfl, rfl⟩) hHeld ?_
            simp only [Act.put, List.getElem_toArray, List.getElem_cons_succ, List.getElem_cons_zero, List.setIfInBounds_toArray, List.set_cons_zero, List.set_cons_succ]
            refine wpAnyH_take (i := 29) (v := undef) rfl (by kernel_rfl) (by decide +kernel) (by decide +kernel) (fun _ _ _ h => h) (Or.inr ⟨by rfl, rfl⟩) hHeld ?_
            simp only [Act.put, List.getElem_toArray, List.getElem_cons_succ, List.getElem_cons_zero, List.setIfInBounds_toArray, List.set_cons_zero, List.set_cons_succ]
            refine wpAnyH_take (i := 30) (v := undef) rfl (by kernel_rfl) (by decide +kernel) (by decide +kernel) (fun _ _ _ h => h) (Or.inr ⟨by rfl, rfl⟩) hHeld ?_
            simp only [Act.put, List.getElem_toArray, List.getElem_cons_succ, List.getElem_cons_zero, List.setIfInBounds_toArray, List.set_cons_zero, List.set_cons_succ]
            refine wpAnyH_take (i := 31) (v := undef) rfl (by kernel_rfl) (by decide +kernel) (by decide +kernel) (fun _ _ _ h => h) (Or.inr ⟨by rfl, rfl⟩) hHeld ?_
            simp only [Act.put, List.getElem_toArray, List.getElem_cons_succ, List.getElem_cons_zero, List.setIfInBounds_toArray, List.set_cons_zero, List.set_cons_succ]
            refine wpAnyH_take (i := 32) (v := undef) rfl (by kernel_rfl) (by decide +kernel) (by decide +kernel) (fun _ _ _ h => h) (Or.inr ⟨by rfl, rfl⟩) hHeld ?_
            simp only [Act.put, List.getElem_toArray, List.getElem_cons_succ, List.getElem_cons_zero, List.setIfInBounds_toArray, List.set_cons_zero, List.set_cons_succ]
            refine wpAnyH_take (i := 33) (v := undef) rfl (by kernel_rfl) (by decide +kernel) (by decide +kernel) (fun _ _ _ h => h) (Or.inr ⟨by rfl, rfl⟩) hHeld ?_
            simp only [Act.put, List.getElem_toArray, List.getElem_cons_succ, List.getElem_cons_zero, List.setIfInBounds_toArray, List.set_cons_zero, List.set_cons_succ]
            refine wpAnyH_take (i := 34) (v := undef) rfl (by kernel_rfl) (by decide +kernel) (by decide +kernel) (fun _ _ _ h => h) (Or.inr ⟨by rfl, rfl⟩) hHeld ?_
            simp only [Act.put, List.getElem_toArray, List.getElem_cons_succ, List.getElem_cons_zero, List.setIfInBounds_toArray, List.set_cons_zero, List.set_cons_succ]
            refine wpAnyH_take (i := 35) (v := undef) rfl (by kernel_rfl) (by decide +kernel) (by decide +kernel) (fun _ _ _ h => h) (Or.inr ⟨by rfl, rfl⟩) hHeld ?_
            simp only [Act.put, List.getElem_toArray, List.getElem_cons_succ, List.getElem_cons_zero, List.setIfInBounds_toArray, List.set_cons_zero, List.set_cons_succ]
            refine wpAnyH_take (i := 36) (v := undef) rfl (by kernel_rfl) (by decide +kernel) (by decide +kernel) (fun _ _ _ h => h) (Or.inr ⟨by rfl, rfl⟩) hHeld ?_
            simp only [Act.put, List.getElem_toArray, List.getElem_cons_succ, List.getElem_cons_zero, List.setIfInBounds_toArray, List.set_cons_zero, List.set_cons_succ]
            refine wpAnyH_take (i := 37) (v := undef) rfl (by kernel_rfl) (by decide +kernel) (by decide +kernel) (fun _ _ _ h => h) (Or.inr ⟨by rfl, rfl⟩) hHeld ?_
            simp only [Act.put, List.getElem_toArray, List.getElem_cons_succ, List.getElem_cons_zero, List.setIfInBounds_toArray, List.set_cons_zero, List.set_cons_succ]
            refine wpAnyH_take (i := 38) (v := undef) rfl (by kernel_rfl) (by decide +kernel) (by decide +kernel) (fun _ _ _ h => h) (Or.inr ⟨by rfl, rfl⟩) hHeld ?_
            simp only [Act.put, List.getElem_toArray, List.getElem_cons_succ, List.getElem_cons_zero, List.setIfInBounds_toArray, List.set_cons_zero, List.set_cons_succ]
            refine wpAnyH_take (i := 39) (v := .bool false) rfl (by kernel_rfl) (by decide +kernel) (by decide +kernel) (fun _ _ _ h => h) (Or.inl ⟨by rfl, fun w' hSw => ?_⟩) hHeld ?_
            · (go_simp)
            simp only [Act.put, List.getElem_toArray, List.getElem_cons_succ, List.getElem_cons_zero, List.setIfInBounds_toArray, List.set_cons_zero, List.set_cons_succ]
            refine wpAnyH_take (i := 40) (v := .bool false) rfl (by kernel_rfl) (by decide +kernel) (by decide +kernel) (fun _ _ _ h => h) (Or.inl ⟨by rfl, fun w' hSw => ?_⟩) hHeld ?_
            · (go_simp)
            simp only [Act.put, List.getElem_toArray, List.getElem_cons_succ, List.getElem_cons_zero, List.setIfInBounds_toArray, List.set_cons_zero, List.set_cons_succ]
            refine wpAnyH_done (by decide +kernel) ?_ _
            go_wp2_with fail
            go_loopw [11] (fun s11 wr => ∃ j : Nat, a ≤ j ∧ j ≤ a + m ∧ s11 = .int .i64 (j : Int) ∧ Hid (Br.BR wr hb N (hasJ D a j)) ∧ Hid (Kept (Only hb) V2 wr)) (fun s11 _ => a + m + 1 - (intOf s11).toNat)
            case atStart => exact ⟨a, Nat.le_refl _, Nat.le_add_right _ _, rfl, by rw [hasJ_start]; exact B2, Lib.hid (Kept.refl _ _).drew⟩
            case round =>
              obtain ⟨j, j1, j2, rfl, B3, K3⟩ := hrel
              rename World => U
              have xd0 : U.cell? ⟨xb, 0, none⟩ = some (.int .i64 (a : Int)) := (K3.out.cell (p := ⟨xb, 0, none⟩) (block_lt_of_cell xc0) (fun e => by have e : xb = hb := e; have := xlt.out; omega)).trans xc0
              have xd1 : U.cell? ⟨xb, 1, none⟩ = some (.int .i64 (m : Int)) := (K3.out.cell (p := ⟨xb, 1, none⟩) (block_lt_of_cell xc1) (fun e => by have e : xb = hb := e; have := xlt.out; omega)).trans xc1
              have wj : IntKind.i64.wrap ((j : Int) + 1) = (j : Int) + 1 := IntWalk.i64_in _ (by omega)
              have wx : IntKind.i64.wrap ((a : Int) + (m : Int)) = (a : Int) + (m : Int) := IntWalk.i64_in _ (by omega)
              by_cases cj : j < a + m
              · have cj' : (j : Int) < (a : Int) + (m : Int) := by omega
                have cj2 : (j : Int) < (N : Int) := by omega
                have cj3 : ¬ (j : Int) < 0 := by omega
                have hj : hasJ D a j j = false := by
                  unfold hasJ
                  rw [decide_eq_false (by omega), Bool.or_false]
                  exact hasF_free fD (by omega) cj'
                have hc : U.cell? ⟨hb, j, none⟩ = some (.bool false) := by have := B3.out.cell (i := j) (by omega); rwa [hj] at this
                have hf := B3.out.frozen j
                have B4 := B3.out.put j true
                rw [hasJ_step D a j j1] at B4
                have B4 := Lib.hid B4
                have K4 := Lib.hid (K3.out.trans (only_setCell U hb j (.bool true)))
                clear hj
                go_wp2_with fail
                exact ⟨⟨j + 1, by omega, by omega, by go_num, B4, K4⟩, by simp [intOf]; omega⟩
              · have cj' : ¬ (j : Int) < (a : Int) + (m : Int) := by omega
                obtain rfl : j = a + m := by omega
                have B4 := B3.out
                rw [hasJ_done D ((a : Int), (m : Int)) a m rfl rfl, ← tk.out] at B4
                have B4 := Lib.hid B4
                have K4 := Lib.hid (K2.out.trans K3.out)
                have wn : IntKind.i64.wrap (sumP D + (m : Int)) = sumP D + (m : Int) := IntWalk.i64_in _ (by omega)
                have sx : sumP (upTo L i ++ (L i).take (0 + 1)) = sumP D + (m : Int) := by rw [tk.out, sumP_append]; show sumP D + ((m : Int) + 0) = _; omega
                have sx := Lib.hid sx
                go_wp2_with fail
                exact ⟨⟨0 + 1, by omega, by go_num, by rw [sx.out], B4, K4⟩, by simp [intOf] <;> omega⟩
          | succ k' =>
            obtain ⟨y, yx, y0⟩ := PY.out k' rfl
            have nf4 : ¬ (a : Int) ≤ y.1 := by omega
            have wk1 : IntKind.i64.wrap (k' : Int) = (k' : Int) := IntWalk.i64_in _ (by omega)
            have kn : ¬ n i ≤ k' := by omega
            clear PY
            refine wp_region_held_drew (S := (fun w' => w'.cell? ⟨xb, 0, none⟩ = some (.int .i64 (a : Int)) ∧ w'.cell? ⟨xb, 1, none⟩ = some (.int .i64 (m : Int)) ∧ w'.cell? ⟨lb, i, none⟩ = some (.slice (some ⟨g, o, none⟩) (n i) (c i)) ∧ w'.cell? ⟨g, o + k' * 2, none⟩ = some (.int .i64 y.1))) (by kernel_rfl) ⟨xc0, xc1, lc2, y0⟩ (fun hHeld => ?_)
            refine wpAnyH_take (i := 0) (v := .pointer (some ⟨xb, 0, none⟩)) rfl (by kernel_rfl) (by decide +kernel) (by decide +kernel) (fun _ _ _ h => h) (Or.inl ⟨by rfl, fun w' hSw => ?_⟩) hHeld ?_
            · (go_simp)
            simp only [Act.put, List.getElem_toArray, List.getElem_cons_zero, List.setIfInBounds_toArray, List.set_cons_zero, List.set_cons_succ]
            refine wpAnyH_take (i := 1) (v := .int .i64 (a : Int)) rfl (by kernel_rfl) (by decide +kernel) (by decide +kernel) (fun _ _ _ h => h) (Or.inl ⟨by rfl, fun w' hSw => ?_⟩) hHeld ?_
            · (go_simp)
            simp only [Act.put, List.getElem_toArray, List.getElem_cons_succ, List.getElem_cons_zero, List.setIfInBounds_toArray, List.set_cons_zero, List.set_cons_succ]
            refine wpAnyH_take (i := 2) (v := .bool false) rfl (by kernel_rfl) (by decide +kernel) (by decide +kernel) (fun _ _ _ h => h) (Or.inl ⟨by rfl, fun w' hSw => ?_⟩) hHeld ?_
            · (go_simp)
            simp only [Act.put, List.getElem_toArray, List.getElem_cons_succ, List.getElem_cons_zero, List.setIfInBounds_toArray, List.set_cons_zero, List.set_cons_succ]
            refine wpAnyH_take (i := 3) (v := .bool false) rfl (by kernel_rfl) (by decide +kernel) (by decide +kernel) (fun _ _ _ h => h) (Or.inl ⟨by rfl, fun w' hSw => ?_⟩) hHeld ?_
            · (go_simp)
            simp only [Act.put, List.getElem_toArray, List.getElem_cons_succ, List.getElem_cons_zero, List.setIfInBounds_toArray, List.set_cons_zero, List.set_cons_succ]
            refine wpAnyH_take (i := 4) (v := .pointer (some ⟨xb, 1, none⟩)) rfl (by kernel_rfl) (by decide +kernel) (by decide +kernel) (fun _ _ _ h => h) (Or.inl ⟨by rfl, fun w' hSw => ?_⟩) hHeld ?_
            · (go_simp)
            simp only [Act.put, List.getElem_toArray, List.getElem_cons_succ, List.getElem_cons_zero, List.setIfInBounds_toArray, List.set_cons_zero, List.set_cons_succ]
            refine wpAnyH_take (i := 5) (v := .int .i64 (m : Int)) rfl (by kernel_rfl) (by decide +kernel) (by decide +kernel) (fun _ _ _ h => h) (Or.inl ⟨by rfl, fun w' hSw => ?_⟩) hHeld ?_
            · (go_simp)
            simp only [Act.put, List.getElem_toArray, List.getElem_cons_succ, List.getElem_cons_zero, List.setIfInBounds_toArray, List.set_cons_zero, List.set_cons_succ]
            refine wpAnyH_take (i := 6) (v := .bool false) rfl (by kernel_rfl) (by decide +kernel) (by decide +kernel) (fun _ _ _ h => h) (Or.inl ⟨by rfl, fun w' hSw => ?_⟩) hHeld ?_
            · (go_simp)
            simp only [Act.put, List.getElem_toArray, List.getElem_cons_succ, List.getElem_cons_zero, List.setIfInBounds_toArray, List.set_cons_zero, List.set_cons_succ]
            refine wpAnyH_take (i := 7) (v := .bool false) rfl (by kernel_rfl) (by decide +kernel) (by decide +kernel) (fun _ _ _ h => h) (Or.inl ⟨by rfl, fun w' hSw => ?_⟩) hHeld ?_
            · (go_simp)
            simp only [Act.put, List.getElem_toArray, List.getElem_cons_succ, List.getElem_cons_zero, List.setIfInBounds_toArray, List.set_cons_zero, List.set_cons_succ]
            refine wpAnyH_take (i := 8) (v := .bool false) rfl (by kernel_rfl) (by decide +kernel) (by decide +kernel) (fun _ _ _ h => h) (Or.inl ⟨by rfl, fun w' hSw => ?_⟩) hHeld ?_
            · (go_simp)
            simp only [Act.put, List.getElem_toArray, List.getElem_cons_succ, List.getElem_cons_zero, List.setIfInBounds_toArray, List.set_cons_zero, List.set_cons_succ]
            refine wpAnyH_take (i := 9) (v := .pointer (some ⟨xb, 0, none⟩)) rfl (by kernel_rfl) (by decide +kernel) (by decide +kernel) (fun _ _ _ h => h) (Or.inl ⟨by rfl, fun w' hSw => ?_⟩) hHeld ?_
            · (go_simp)
            simp only [Act.put, List.getElem_toArray, List.getElem_cons_succ, List.getElem_cons_zero, List.setIfInBounds_toArray, List.set_cons_zero, List.set_cons_succ]
            refine wpAnyH_take (i := 10) (v := .int .i64 (a : Int)) rfl (by kernel_rfl) (by decide +kernel) (by decide +kernel) (fun _ _ _ h => h) (Or.inl ⟨by rfl, fun w' hSw => ?_⟩) hHeld ?_
            · (go_simp)
            simp only [Act.put, List.getElem_toArray, List.getElem_cons_succ, List.getElem_cons_zero, List.setIfInBounds_toArray, List.set_cons_zero, List.set_cons_succ]
            refine wpAnyH_take (i := 11) (v := .int .i64 (N : Int)) rfl (by kernel_rfl) (by decide +kernel) (by decide +kernel) (fun _ _ _ h => h) (Or.inl ⟨by rfl, fun w' hSw => ?_⟩) hHeld ?_
            · (go_simp)
            simp only [Act.put, List.getElem_toArray, List.getElem_cons_succ, List.getElem_cons_zero, List.setIfInBounds_toArray, List.set_cons_zero, List.set_cons_succ]
            refine wpAnyH_take (i := 12) (v := .bool false) rfl (by kernel_rfl) (by decide +kernel) (by decide +kernel) (fun _ _ _ h => h) (Or.inl ⟨by rfl, fun w' hSw => ?_⟩) hHeld ?_
            · (go_simp)
            simp only [Act.put, List.getElem_toArray, List.getElem_cons_succ, List.getElem_cons_zero, List.setIfInBounds_toArray, List.set_cons_zero, List.set_cons_succ]
            refine wpAnyH_take (i := 13) (v := .bool false) rfl (by kernel_rfl) (by decide +kernel) (by decide +kernel) (fun _ _ _ h => h) (Or.inl ⟨by rfl, fun w' hSw => ?_⟩) hHeld ?_
            · (go_simp)
            simp only [Act.put, List.getElem_toArray, List.getElem_cons_succ, List.getElem_cons_zero, List.setIfInBounds_toArray, List.set_cons_zero, List.set_cons_succ]
            refine wpAnyH_take (i := 14) (v := .bool false) rfl (by kernel_rfl) (by decide +kernel) (by decide +kernel) (fun _ _ _ h => h) (Or.inl ⟨by rfl, fun w' hSw => ?_⟩) hHeld ?_
            · (go_simp)
            simp only [Act.put, List.getElem_toArray, List.getElem_cons_succ, List.getElem_cons_zero, List.setIfInBounds_toArray, List.set_cons_zero, List.set_cons_succ]
            refine wpAnyH_take (i := 15) (v := .pointer (some ⟨xb, 1, none⟩)) rfl (by kernel_rfl) (by decide +kernel) (by decide +kernel) (fun _ _ _ h => h) (Or.inl ⟨by rfl, fun w' hSw => ?_⟩) hHeld ?_
            · (go_simp)
            simp only [Act.put, List.getElem_toArray, List.getElem_cons_succ, List.getElem_cons_zero, List.setIfInBounds_toArray, List.set_cons_zero, List.set_cons_succ]
            refine wpAnyH_take (i := 16) (v := .int .i64 (m : Int)) rfl (by kernel_rfl) (by decide +kernel) (by decide +kernel) (fun _ _ _ h => h) (Or.inl ⟨by rfl, fun w' hSw => ?_⟩) hHeld ?_
            · (go_simp)
            simp only [Act.put, List.getElem_toArray, List.getElem_cons_succ, List.getElem_cons_zero, List.setIfInBounds_toArray, List.set_cons_zero, List.set_cons_succ]
            refine wpAnyH_take (i := 17) (v := .int .i64 (N : Int)) rfl (by kernel_rfl) (by decide +kernel) (by decide +kernel) (fun _ _ _ h => h) (Or.inl ⟨by rfl, fun w' hSw => ?_⟩) hHeld ?_
            · (go_simp)
            simp only [Act.put, List.getElem_toArray, List.getElem_cons_succ, List.getElem_cons_zero, List.setIfInBounds_toArray, List.set_cons_zero, List.set_cons_succ]
            refine wpAnyH_take (i := 18) (v := .pointer (some ⟨xb, 0, none⟩)) rfl (by kernel_rfl) (by decide +kernel) (by decide +kernel) (fun _ _ _ h => h) (Or.inl ⟨by rfl, fun w' hSw => ?_⟩) hHeld ?_
            · (go_simp)
            simp only [Act.put, List.getElem_toArray, List.getElem_cons_succ, List.getElem_cons_zero, List.setIfInBounds_toArray, List.set_cons_zero, List.set_cons_succ]
            refine wpAnyH_take (i := 19) (v := .int .i64 (a : Int)) rfl (by kernel_rfl) (by decide +kernel) (by decide +kernel) (fun _ _ _ h => h) (Or.inl ⟨by rfl, fun w' hSw => ?_⟩) hHeld ?_
            · (go_simp)
            simp only [Act.put, List.getElem_toArray, List.getElem_cons_succ, List.getElem_cons_zero, List.setIfInBounds_toArray, List.set_cons_zero, List.set_cons_succ]
            refine wpAnyH_take (i := 20) (v := .int .i64 ((N : Int) - (a : Int))) rfl (by kernel_rfl) (by decide +kernel) (by decide +kernel) (fun _ _ _ h => h) (Or.inl ⟨by rfl, fun w' hSw => ?_⟩) hHeld ?_
            · (go_simp)
            simp only [Act.put, List.getElem_toArray, List.getElem_cons_succ, List.getElem_cons_zero, List.setIfInBounds_toArray, List.set_cons_zero, List.set_cons_succ]
            refine wpAnyH_take (i := 21) (v := .bool false) rfl (by kernel_rfl) (by decide +kernel) (by decide +kernel) (fun _ _ _ h => h) (Or.inl ⟨by rfl, fun w' hSw => ?_⟩) hHeld ?_
            · (go_simp)
            simp only [Act.put, List.getElem_toArray, List.getElem_cons_succ, List.getElem_cons_zero, List.setIfInBounds_toArray, List.set_cons_zero, List.set_cons_succ]
            refine wpAnyH_take (i := 22) (v := .bool false) rfl (by kernel_rfl) (by decide +kernel) (by decide +kernel) (fun _ _ _ h => h) (Or.inl ⟨by rfl, fun w' hSw => ?_⟩) hHeld ?_
            · (go_simp)
            simp only [Act.put, List.getElem_toArray, List.getElem_cons_succ, List.getElem_cons_zero, List.setIfInBounds_toArray, List.set_cons_zero, List.set_cons_succ]
            refine wpAnyH_take (i := 23) (v := .bool false) rfl (by kernel_rfl) (by decide +kernel) (by decide +kernel) (fun _ _ _ h => h) (Or.inl ⟨by rfl, fun w' hSw => ?_⟩) hHeld ?_
            · (go_simp)
            simp only [Act.put, List.getElem_toArray, List.getElem_cons_succ, List.getElem_cons_zero, List.setIfInBounds_toArray, List.set_cons_zero, List.set_cons_succ]
            refine wpAnyH_take (i := 24) (v := .int .i64 ((k' + 1 : Nat) : Int)) rfl (by kernel_rfl) (by decide +kernel) (by decide +kernel) (fun _ _ _ h => h) (Or.inl ⟨by rfl, fun w' hSw => ?_⟩) hHeld ?_
            · (go_simp)
            simp only [Act.put, List.getElem_toArray, List.getElem_cons_succ, List.getElem_cons_zero, List.setIfInBounds_toArray, List.set_cons_zero, List.set_cons_succ]
            refine wpAnyH_take (i := 25) (v := .bool true) rfl (by kernel_rfl) (by decide +kernel) (by decide +kernel) (fun _ _ _ h => h) (Or.inl ⟨by rfl, fun w' hSw => ?_⟩) hHeld ?_
            · (go_simp)
            simp only [Act.put, List.getElem_toArray, List.getElem_cons_succ, List.getElem_cons_zero, List.setIfInBounds_toArray, List.set_cons_zero, List.set_cons_succ]
            refine wpAnyH_take (i := 26) (v := .bool true) rfl (by kernel_rfl) (by decide +kernel) (by decide +kernel) (fun _ _ _ h => h) (Or.inl ⟨by rfl, fun w' hSw => ?_⟩) hHeld ?_
            · (go_simp)
            simp only [Act.put, List.getElem_toArray, List.getElem_cons_succ, List.getElem_cons_zero, List.setIfInBounds_toArray, List.set_cons_zero, List.set_cons_succ]
            refine wpAnyH_take (i := 27) (v := .slice (some ⟨lb, 0, none⟩) 7 7) rfl (by kernel_rfl) (by decide +kernel) (by decide +kernel) (fun _ _ _ h => h) (Or.inl ⟨by rfl, fun w' hSw => ?_⟩) hHeld ?_
            · (go_simp)
            simp only [Act.put, List.getElem_toArray, List.getElem_cons_succ, List.getElem_cons_zero, List.setIfInBounds_toArray, List.set_cons_zero, List.set_cons_succ]
            refine wpAnyH_take (i := 28) (v := .int .i64 (i : Int)) rfl (by kernel_rfl) (by decide +kernel) (by decide +kernel) (fun _ _ _ h => h) (Or.inl ⟨by rfl, fun w' hSw => ?_⟩) hHeld ?_
            · (go_simp)
            simp only [Act.put, List.getElem_toArray, List.getElem_cons_succ, List.getElem_cons_zero, List.setIfInBounds_toArray, List.set_cons_zero, List.set_cons_succ]
            refine wpAnyH_take (i := 29) (v := .pointer (some ⟨lb, i, none⟩)) rfl (by kernel_rfl) (by decide +kernel) (by decide +kernel) (fun _ _ _ h => h) (Or.inl ⟨by rfl, fun w' hSw => ?_⟩) hHeld ?_
            · (go_simp)
            simp only [Act.put, List.getElem_toArray, List.getElem_cons_succ, List.getElem_cons_zero, List.setIfInBounds_toArray, List.set_cons_zero, List.set_cons_succ]
            refine wpAnyH_take (i := 30) (v := .slice (some ⟨g, o, none⟩) (n i) (c i)) rfl (by kernel_rfl) (by decide +kernel) (by decide +kernel) (fun _ _ _ h => h) (Or.inl ⟨by rfl, fun w' hSw => ?_⟩) hHeld ?_
            · (go_simp)
            simp only [Act.put, List.getElem_toArray, List.getElem_cons_succ, List.getElem_cons_zero, List.setIfInBounds_toArray, List.set_cons_zero, List.set_cons_succ]
            refine wpAnyH_take (i := 31) (v := .int .i64 ((k' + 1 : Nat) : Int)) rfl (by kernel_rfl) (by decide +kernel) (by decide +kernel) (fun _ _ _ h => h) (Or.inl ⟨by rfl, fun w' hSw => ?_⟩) hHeld ?_
            · (go_simp)
            simp only [Act.put, List.getElem_toArray, List.getElem_cons_succ, List.getElem_cons_zero, List.setIfInBounds_toArray, List.set_cons_zero, List.set_cons_succ]
            refine wpAnyH_take (i := 32) (v := .int .i64 (k' : Int)) rfl (by kernel_rfl) (by decide +kernel) (by decide +kernel) (fun _ _ _ h => h) (Or.inl ⟨by rfl, fun w' hSw => ?_⟩) hHeld ?_
            · (go_simp)
            simp only [Act.put, List.getElem_toArray, List.getElem_cons_succ, List.getElem_cons_zero, List.setIfInBounds_toArray, List.set_cons_zero, List.set_cons_succ]
            refine wpAnyH_take (i := 33) (v := .pointer (some ⟨g, o + k' * 2, none⟩)) rfl (by kernel_rfl) (by decide +kernel) (by decide +kernel) (fun _ _ _ h => h) (Or.inl ⟨by rfl, fun w' hSw => ?_⟩) hHeld ?_
            · (go_simp)
            simp only [Act.put, List.getElem_toArray, List.getElem_cons_succ, List.getElem_cons_zero, List.setIfInBounds_toArray, List.set_cons_zero, List.set_cons_succ]
            refine wpAnyH_take (i := 34) (v := .pointer (some ⟨g, o + k' * 2, none⟩)) rfl (by kernel_rfl) (by decide +kernel) (by decide +kernel) (fun _ _ _ h => h) (Or.inl ⟨by rfl, fun w' hSw => ?_⟩) hHeld ?_
            · (go_simp)
            simp only [Act.put, List.getElem_toArray, List.getElem_cons_succ, List.getElem_cons_zero, List.setIfInBounds_toArray, List.set_cons_zero, List.set_cons_succ]
            refine wpAnyH_take (i := 35) (v := .int .i64 y.1) rfl (by kernel_rfl) (by decide +kernel) (by decide +kernel) (fun _ _ _ h => h) (Or.inl ⟨by rfl, fun w' hSw => ?_⟩) hHeld ?_
            · (go_simp)
            simp only [Act.put, List.getElem_toArray, List.getElem_cons_succ, List.getElem_cons_zero, List.setIfInBounds_toArray, List.set_cons_zero, List.set_cons_succ]
            refine wpAnyH_take (i := 36) (v := .pointer (some ⟨xb, 0, none⟩)) rfl (by kernel_rfl) (by decide +kernel) (by decide +kernel) (fun _ _ _ h => h) (Or.inl ⟨by rfl, fun w' hSw => ?_⟩) hHeld ?_
            · (go_simp)
            simp only [Act.put, List.getElem_toArray, List.getElem_cons_succ, List.getElem_cons_zero, List.setIfInBounds_toArray, List.set_cons_zero, List.set_cons_succ]
            refine wpAnyH_take (i := 37) (v := .int .i64 (a : Int)) rfl (by kernel_rfl) (by decide +kernel) (by decide +kernel) (fun _ _ _ h => h) (Or.inl ⟨by rfl, fun w' hSw => ?_⟩) hHeld ?_
            · (go_simp)
            simp only [Act.put, List.getElem_toArray, List.getElem_cons_succ, List.getElem_cons_zero, List.setIfInBounds_toArray, List.set_cons_zero, List.set_cons_succ]
            refine wpAnyH_take (i := 38) (v := .bool false) rfl (by kernel_rfl) (by decide +kernel) (by decide +kernel) (fun _ _ _ h => h) (Or.inl ⟨by rfl, fun w' hSw => ?_⟩) hHeld ?_
            · (go_simp)
            simp only [Act.put, List.getElem_toArray, List.getElem_cons_succ, List.getElem_cons_zero, List.setIfInBounds_toArray, List.set_cons_zero, List.set_cons_succ]
            refine wpAnyH_take (i := 39) (v := .bool false) rfl (by kernel_rfl) (by decide +kernel) (by decide +kernel) (fun _ _ _ h => h) (Or.inl ⟨by rfl, fun w' hSw => ?_⟩) hHeld ?_
            · (go_simp)
            simp only [Act.put, List.getElem_toArray, List.getElem_cons_succ, List.getElem_cons_zero, List.setIfInBounds_toArray, List.set_cons_zero, List.set_cons_succ]
            refine wpAnyH_take (i := 40) (v := .bool false) rfl (by kernel_rfl) (by decide +kernel) (by decide +kernel) (fun _ _ _ h => h) (Or.inl ⟨by rfl, fun w' hSw => ?_⟩) hHeld ?_
            · (go_simp)
            simp only [Act.put, List.getElem_toArray, List.getElem_cons_succ, List.getElem_cons_zero, List.setIfInBounds_toArray, List.set_cons_zero, List.set_cons_succ]
            refine wpAnyH_done (by decide +kernel) ?_ _
            go_wp2_with fail
            go_loopw [11] (fun s11 wr => ∃ j : Nat, a ≤ j ∧ j ≤ a + m ∧ s11 = .int .i64 (j : Int) ∧ Hid (Br.BR wr hb N (hasJ D a j)) ∧ Hid (Kept (Only hb) V2 wr)) (fun s11 _ => a + m + 1 - (intOf s11).toNat)
            case atStart => exact ⟨a, Nat.le_refl _, Nat.le_add_right _ _, rfl, by rw [hasJ_start]; exact B2, Lib.hid (Kept.refl _ _).drew⟩
            case round =>
              obtain ⟨j, j1, j2, rfl, B3, K3⟩ := hrel
              rename World => U
              have xd0 : U.cell? ⟨xb, 0, none⟩ = some (.int .i64 (a : Int)) := (K3.out.cell (p := ⟨xb, 0, none⟩) (block_lt_of_cell xc0) (fun e => by have e : xb = hb := e; have := xlt.out; omega)).trans xc0
              have xd1 : U.cell? ⟨xb, 1, none⟩ = some (.int .i64 (m : Int)) := (K3.out.cell (p := ⟨xb, 1, none⟩) (block_lt_of_cell xc1) (fun e => by have e : xb = hb := e; have := xlt.out; omega)).trans xc1
              have wj : IntKind.i64.wrap ((j : Int) + 1) = (j : Int) + 1 := IntWalk.i64_in _ (by omega)
              have wx : IntKind.i64.wrap ((a : Int) + (m : Int)) = (a : Int) + (m : Int) := IntWalk.i64_in _ (by omega)
              by_cases cj : j < a + m
              · have cj' : (j : Int) < (a : Int) + (m : Int) := by omega
                have cj2 : (j : Int) < (N : Int) := by omega
                have cj3 : ¬ (j : Int) < 0 := by omega
                have hj : hasJ D a j j = false := by
                  unfold hasJ
                  rw [decide_eq_false (by omega), Bool.or_false]
                  exact hasF_free fD (by omega) cj'
                have hc : U.cell? ⟨hb, j, none⟩ = some (.bool false) := by have := B3.out.cell (i := j) (by omega); rwa [hj] at this
                have hf := B3.out.frozen j
                have B4 := B3.out.put j true
                rw [hasJ_step D a j j1] at B4
                have B4 := Lib.hid B4
                have K4 := Lib.hid (K3.out.trans (only_setCell U hb j (.bool true)))
                clear hj
                go_wp2_with fail
                exact ⟨⟨j + 1, by omega, by omega, by go_num, B4, K4⟩, by simp [intOf]; omega⟩
              · have cj' : ¬ (j : Int) < (a : Int) + (m : Int) := by omega
                obtain rfl : j = a + m := by omega
                have B4 := B3.out
                rw [hasJ_done D ((a : Int), (m : Int)) a m rfl rfl, ← tk.out] at B4
                have B4 := Lib.hid B4
                have K4 := Lib.hid (K2.out.trans K3.out)
                have wn : IntKind.i64.wrap (sumP D + (m : Int)) = sumP D + (m : Int) := IntWalk.i64_in _ (by omega)
                have sx : sumP (upTo L i ++ (L i).take ((k' + 1) + 1)) = sumP D + (m : Int) := by rw [tk.out, sumP_append]; show sumP D + ((m : Int) + 0) = _; omega
                have sx := Lib.hid sx
                go_wp2_with fail
                exact ⟨⟨(k' + 1) + 1, by omega, by go_num, by rw [sx.out], B4, K4⟩, by simp [intOf] <;> omega⟩
        · have ck' : ¬ (k : Int) < (n i : Int) := by omega
          obtain rfl : k = n i := by omega
          have B2 := B1.out
          have e1 : upTo L i ++ (L i).take (n i) = upTo L (i + 1) := by rw [← len]; exact upTo_take L i
          rw [e1] at B2
          have e1 := Lib.hid e1
          have B2 := Lib.hid B2
          go_wp2_with fail
          exact ⟨⟨i + 1, by omega, by go_num, by rw [e1.out], B2, K1⟩, by simp [intOf]; omega⟩
    · have ci' : ¬ (i : Int) < 7 := by omega
      obtain rfl : i = 7 := by omega
      have e7 := HC.out.sum
      go_wp2_with fail
      go_ret
      exact ⟨rfl, KK.out V K1.out⟩
end Go.Proofs.YtcndilpaijapkaaGreat.Shp
