/-
  Two locks that a law keeps in variables of its own: one that stays, and one that is written round by round. Own work.
-/
import Derived.Test.YtabfjdococmbkaaCellAwake
namespace Go.Proofs.Ytabfjdococmbkaa
open Go.ChangeShapes Go.WideShapes Go.ChangeAt Go.RowKit

/-- In W block l is the lock (n, t), block x, which the call made itself, the lock (N, T); what was there in w is as it was. -/
structure St (w : World) (l x : Nat) (n t N T : Int) (W : World) : Prop where
  kept : Kept Old w W
  bl : Box W l n t
  bx : Box W x N T
  own : w.heap.size ≤ x
  ne : l ≠ x
theorem St.call {w W W' : World} {l x : Nat} {n t N T : Int} (h : St w l x n t N T W) (k : Kept Old W W') : St w l x n t N T W' := ⟨h.kept.trans k, h.bl.old k, h.bx.old k, h.own, h.ne⟩
theorem St.lt {w W : World} {l x : Nat} {n t N T : Int} (h : St w l x n t N T W) : x < W.heap.size := Blk.lt h.bx
theorem St.ltl {w W : World} {l x : Nat} {n t N T : Int} (h : St w l x n t N T W) : l < W.heap.size := Blk.lt h.bl
theorem St.put {w W : World} {l x : Nat} {n t N T : Int} (h : St w l x n t N T W) (N' T' : Int) : St w l x n t N' T' ((W.setCell ⟨x, 0, none⟩ (.int .i64 N')).setCell ⟨x, 1, none⟩ (.int .i64 T')) :=
  ⟨Box.kept2 h.kept h.own _ _, (Blk.far (Blk.far h.bl (p := ⟨x, 0, none⟩) h.ne _) (p := ⟨x, 1, none⟩) h.ne _ : Blk _ _ _ _), h.bx.put2 _ _, h.own, h.ne⟩
theorem St.alloc {w W : World} {l x : Nat} {n t N T : Int} (h : St w l x n t N T W) (o : Obj) : St w l x n t N T (W.alloc o) := ⟨h.kept.alloc _, h.bl.alloc _, h.bx.alloc _, h.own, h.ne⟩
theorem held_in {n t : Int} (h0 : 0 ≤ t) (h1 : t < n) (h2 : n ≤ 2305843009213693952) : heldB n t = true := decide_eq_true ⟨h0, h1, h2⟩
theorem may_in {n t : Int} (h0 : 0 ≤ t) (h1 : t ≤ n) (h2 : n ≤ 2305843009213693952) : mayB n t = true := decide_eq_true ⟨h0, h1, h2⟩
theorem wait_in {n t : Int} (h : heldB n t = true) : waitN n t = n - t - 1 := by unfold waitN; rw [h]; rfl
end Go.Proofs.Ytabfjdococmbkaa
