/-
  What a store's Parts tells covers all words; the law's Cover of it. Own work; no program is walked here.
-/
import Derived.Test.YtcndilpaijapkaaGreatJShpCovL
import Derived.Test.YtcndilpaijapkaaGreatJShpPtA
namespace Go.Proofs.YtcndilpaijapkaaGreat.Shp
open Sto
open Go.ChangeShapes Go.WideShapes Go.ChangeAt Go.RowKit

def seq7 {α : Type} (l0 l1 l2 l3 l4 l5 l6 : α) : Nat → α
  | 0 => l0
  | 1 => l1
  | 2 => l2
  | 3 => l3
  | 4 => l4
  | 5 => l5
  | _ => l6
theorem dis_symm {x y : Pc} (h : Dis x y) : Dis y x := Dis.symm h
theorem runs_asc {rl : List R} {p : Int} (h : Right p 0 rl) : (runsP rl).Pairwise (fun x y => x.1 < y.1) := by
  unfold runsP
  rw [List.pairwise_map]
  refine (runs_pw h).imp_of_mem ?_
  intro x y hx hy e
  have := (h.mem hx).2.2.1
  show x.1 * 64 < y.1 * 64
  omega
theorem live_asc {Z : Int} {live : List Lm.S} (h : Lm.Valid Z live) : (liveP live).Pairwise (fun x y => x.1 < y.1) := by
  unfold liveP
  rw [List.pairwise_map]
  refine h.row.imp_of_mem ?_
  intro x y hx hy e
  have := (h.each x hx).w0
  unfold Lm.endI at e
  show x.a < y.a
  omega
theorem cov_parts {P nw : Nat} {k : K} {ca : Ca} {live : List Lm.S} {l0 l1 l2 l3 l4 l5 : List Pc} (v : Sq P nw k ca live) (h : PartsOf nw k ca live l0 l1 l2 l3 l4 l5) : CovL (P * 64) (seq7 l0 l1 l2 l3 l4 l5 []) := by
  have e : upTo (seq7 l0 l1 l2 l3 l4 l5 []) 7 = l0 ++ (l1 ++ (l2 ++ (l3 ++ (l4 ++ l5)))) := by
    show (((((([] ++ l0) ++ l1) ++ l2) ++ l3) ++ l4) ++ l5) ++ [] = _
    simp
  have p : (l0 ++ (l1 ++ (l2 ++ (l3 ++ (l4 ++ l5))))).Perm (allP k (outs nw ca live)) := by
    unfold allP outs
    rw [outP_app, h.r, h.v, liveP_out]
    refine (List.Perm.refl _).append (h.p.perm.append ?_)
    refine (h.c.perm.append (h.b.perm.append (h.t.perm.append (List.Perm.refl _)))).trans ?_
    refine (List.perm_append_comm_assoc _ _ _).trans ((List.Perm.refl _).append ?_)
    exact List.perm_append_comm_assoc _ _ _
  refine ⟨?_, fun x hx => ?_, ?_, fun i hi => ?_⟩
  · rw [e]
    exact (p.pairwise_iff (R := Dis) (fun h => dis_symm h)).2 (v.iq.inv.pieces v.outsO)
  · rw [e] at hx
    exact v.iq.inv.fits v.outsO x (p.mem_iff.1 hx)
  · rw [e, sumP_perm p]
    exact v.iq.inv.sums v.outsO
  · rcases (show i = 0 ∨ i = 1 ∨ i = 2 ∨ i = 3 ∨ i = 4 ∨ i = 5 ∨ i = 6 by omega) with rfl | rfl | rfl | rfl | rfl | rfl | rfl
    · show l0.Pairwise _; rw [h.r]; exact runs_asc v.iq.inv.whole.right
    · exact h.p.asc
    · exact h.c.asc
    · exact h.b.asc
    · exact h.t.asc
    · show l5.Pairwise _; rw [h.v]; exact live_asc v.val
    · exact .nil
end Go.Proofs.YtcndilpaijapkaaGreat.Shp
