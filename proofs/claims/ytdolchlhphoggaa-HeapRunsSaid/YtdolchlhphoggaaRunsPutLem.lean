/-
  What Put answers where the run may be put, way by way. Own work; each is proved by a walk through the landed text.
-/
import Derived.Test.YtdolchlhphoggaaRows
import Derived.Test.YtdolchlhphoggaaRunsMem
import Derived.Test.YtdolchlhphoggaaRunsCalls
import Derived.Test.YtdolchlhphoggaaRunsPut
import Derived.WalkKit
import Derived.ProofKit
import Derived.OpenShut
import Derived.Outline
import Derived.Deep.Light
import Derived.Deep.QuietTactic
import Derived.BigQuiet
import Derived.IntWalk
import Derived.StillTailTactics
import Derived.RegionTactic
import Derived.Deep.RegionLaw
import Derived.ChangeAlike
import Derived.Deep.RegionHeld3
import Derived.Deep.CutRange
namespace Go.Proofs.Ytdolchlhphoggaa
open Go.ChangeShapes Go.WideShapes Go.ChangeAt Go.RowKit
set_option maxRecDepth 100000

theorem Ow.stepB {w0 w w' : World} {B : Nat} {v : Value} {n : Nat} {l : List R} (h : Ow w B v n l) (hB : w0.heap.size ≤ B) (K : Kept Old w0 w) (k : Kept (fun k => some k = v.ownBlock) w w') : Kept Old w0 w' :=
  K.join k fun i hi e => by have := (h.own i e).1; omega
theorem Ow.box {w w' : World} {b : Nat} {v : Value} {n : Nat} {l : List R} {x : R} (h : Ow w (b + 1) v n l) (k : Kept (fun k => some k = v.ownBlock) w w') (z : Bx w b x) : Bx w' b x :=
  Blk.kept z k fun e => by have := (h.own b e).1; omega
theorem Bx.drew {w : World} {b : Nat} {x : R} (h : Bx w b x) : Bx w.drew b x := h
theorem Bx.drewN {w : World} {b : Nat} {x : R} (h : Bx w b x) (k : Nat) : Bx (w.drewN k) b x := h
theorem make_wp {ops : Array Oper} {rest : List Oper} {o : Oper} {a : Act} {Q : Exit → Act → World → Prop} {w : World} (hg : o.guard = none) (lo hi : Operand) (hop : o.op = Op.makeSlice 30 lo hi) (B n : Nat) (X : Int) (hl : a.eval lo = .int .i64 0) (hc : a.eval hi = .int .i64 X) (hX : X = (n : Int)) (hn : n ≤ 3000) (hb : B ≤ w.heap.size)
    (go : ∀ w', Hid (Ow w' B (.slice (some ⟨w.heap.size, 0, none⟩) 0 n) 0 []) → Hid (Kept Old w w') → wpList Try.prog ops Q rest (a.put o.dst (.slice (some ⟨w.heap.size, 0, none⟩) 0 n)) w') : wpList Try.prog ops Q (o :: rest) a w := by
  subst hX
  refine wpList_plain hg fun K hK => ?_
  obtain ⟨w', hrun, r1, r2⟩ := make_runs w B n hn hb
  unfold Oper.wp
  simp [execOp, hop, hl, hc, hrun, Result.andThen]
  exact hK _ _ (go w' r1 r2)
theorem Rs.dropTo {w : World} {A : Option Addr} {g o n m : Nat} {l : List R} (h : Rs w (some ⟨g, o, none⟩) n l) (i : Nat) (hm : n - i = m) (hA : i < n → A = some ⟨g, o + i * 2, none⟩) : Rs w A m (l.drop i) := by
  subst hm
  exact h.drop A hA
end Go.Proofs.Ytdolchlhphoggaa
