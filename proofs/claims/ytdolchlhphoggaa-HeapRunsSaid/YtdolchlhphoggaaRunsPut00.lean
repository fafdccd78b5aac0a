/-
  What Put answers where the run may be put, way by way. Own work; each is proved by a walk through the landed text.
-/
import Derived.Test.YtdolchlhphoggaaRows
import Derived.Test.YtdolchlhphoggaaRunsMem
import Derived.Test.YtdolchlhphoggaaRunsCalls
import Derived.Test.YtdolchlhphoggaaRunsPutLem
import Derived.WalkKit
import Derived.ProofKit
import Derived.OpenShut
import Derived.Outline
import Derived.Deep.Light
import Derived.Deep.QuietTactic
import Derived.BigQuiet
import Derived.IntWalk
import Derived.StillTailTactics
import Derived.RegionTactic
import Derived.Deep.RegionLaw
import Derived.ChangeAlike
import Derived.Deep.RegionHeld3
import Derived.Deep.CutRange
namespace Go.Proofs.Ytdolchlhphoggaa
open Go.ChangeShapes Go.WideShapes Go.ChangeAt Go.RowKit
set_option maxRecDepth 100000

set_option maxHeartbeats 8000000 in
theorem put_00 (A : Option Addr) (c : Nat) (r : R) (w : World) (hA : A = none → c = 0) (h0 : 0 ≤ r.1) (h1 : 1 ≤ r.2) (h2 : r.1 + r.2 ≤ 256) (L : List R) (hL : [r] = L) : Calls Try.prog 35 #[.slice A 0 c, run r] w (PutPost L w) := by
  have hL := Lib.hid hL
  have ir := Lib.hid (show in64 r.1 ∧ in64 r.2 from ⟨⟨by omega, by omega⟩, ⟨by omega, by omega⟩⟩)
  have hA' : (A = none ∧ c = 0) ∨ ∃ ad, A = some ad := by
    cases A with
    | none => exact .inl ⟨rfl, hA rfl⟩
    | some ad => exact .inr ⟨ad, rfl⟩
  clear hA
  rcases hA' with ⟨rfl, rfl⟩ | ⟨ad, rfl⟩
  all_goals
    go_enter Try.func35, Try.ntmps35
    go_wp2_with fail
    refine (lies_yes r _ h0 h1 h2).mono ?_
    rintro e w1 ⟨rfl, k1⟩
    have b := (Bx.new w r).old k1
    have x0 := b.c0
    have x1 := b.c1
    have B := Lib.hid b
    have K := Lib.hid (((Kept.refl Old w).alloc _).trans k1)
    clear k1 b
    go_wp2_with fail
    refine (place_ok _ 0 _ [] r 0 _ (Rs.nil _ _) trivial (by omega) h0 h1 h2 ⟨Nat.le_refl _, fun x hx => by simp at hx, fun x hx => by simp at hx⟩).mono ?_
    rintro e w2 ⟨rfl, k2⟩
    have B := Lib.hid (B.out.old k2)
    have K := Lib.hid (K.out.trans k2)
    clear k2 x0 x1
    generalize hs0 : w.heap.size = s0 at *
    go_wp2_with fail
    go_quiet (fail)
    have B := Lib.hid (B.out.drewN nq)
    have K := Lib.hid (K.out.drewN nq)
    generalize w2.drewN nq = V1 at *
    go_wp2_with fail
    go_quiet (fail)
    have B := Lib.hid (B.out.drewN nq)
    have K := Lib.hid (K.out.drewN nq)
    generalize V1.drewN nq = V2 at *
    go_wp2_with fail
    go_quiet (fail)
    have B := Lib.hid (B.out.drewN nq)
    have K := Lib.hid (K.out.drewN nq)
    generalize V2.drewN nq = U at *
    go_upto_region 13 with fail
    go_wp2_with (first | (at_make; refine make_wp rfl _ _ rfl (s0 + 1) 1 _ rfl rfl (by omega) (by omega) (Blk.lt B.out) ?_; intro w5 O5 k5; have B5 := Lib.hid (B.out.old k5.out); have K5 := Lib.hid (K.out.trans k5.out); have z5 := Lib.hid (Blk.lt B5.out); clear k5) | (at_builtin; refine app_wp rfl (.tmp 78) (.tmp 79) rfl rfl (s0 + 1) (.slice (some ⟨U.heap.size, 0, none⟩) 0 1) 0 [] rfl O5.out _ 0 _ [] rfl (Rs.nil _ _) (by intro h; first | exact ⟨rfl, rfl⟩ | cases h | (split at h <;> cases h)) (by omega) (by omega) z5.out 0 (by omega) [] rfl ?_; intro v6 w6 O6 k6 a6; have B6 := Lib.hid (O5.out.box k6.out B5.out); have K6 := Lib.hid (O5.out.stepB (by omega) K5.out k6.out); have X0 : w6.cell? ⟨s0, 0, none⟩ = some (.int .i64 r.1) := B6.out.c0; have X1 : w6.cell? ⟨s0, 1, none⟩ = some (.int .i64 r.2) := B6.out.c1; have z6 := Lib.hid (Blk.lt B6.out); clear k6 a6) | (at_builtin; refine app_wp rfl (.tmp 81) (.tmp 83) rfl rfl (s0 + 1) v6 0 [] rfl (O6.out.alloc _) (some ⟨w6.heap.size, 0, none⟩) 1 1 [r] rfl (Rs.one w6 r ir.out.1 ir.out.2 _ rfl) (by intro h; cases h) (by omega) (by omega) (Nat.le_trans z6.out ((Kept.refl Old w6).alloc _).size) 1 rfl [r] rfl ?_; intro v7 w7 O7 k7 a7; have K7 := Lib.hid ((O6.out.alloc _).stepB (by omega) (K6.out.alloc _) k7.out); have z7 := Lib.hid (Nat.le_trans (Nat.le_trans z6.out ((Kept.refl Old w6).alloc _).size) k7.out.size); clear k7 a7) | (at_builtin; refine app_wp rfl (.tmp 85) (.tmp 86) rfl rfl (s0 + 1) v7 1 [r] rfl O7.out _ 0 _ [] rfl (Rs.nil _ _) (by intro h; first | exact ⟨rfl, rfl⟩ | cases h | (split at h <;> cases h)) (by omega) (by omega) z7.out _ rfl L (by rw [List.append_nil]; exact hL.out) ?_; intro v8 w8 O8 k8 a8; have K8 := Lib.hid (O7.out.stepB (by omega) K7.out k8.out); have P := Lib.hid (show PutPost L w (.returned (.tuple #[v8, .int .i64 0])) w8 from ⟨v8, rfl, made_end O8.out K8.out⟩); clear k8 a8))
    go_ret2
    exact P.out
end Go.Proofs.Ytdolchlhphoggaa
