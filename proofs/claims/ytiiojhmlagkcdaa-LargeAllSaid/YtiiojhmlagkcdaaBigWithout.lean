/-
  A list without one of its stacks (large.without), as new memory. Own work; each is proved by a walk through the landed text.
-/
import Derived.Test.YtiiojhmlagkcdaaRows
import Derived.Test.YtiiojhmlagkcdaaBigApp
import Derived.Test.YtiiojhmlagkcdaaSizeCalls
import Derived.Test.YtiiojhmlagkcdaaBigCalls
import Derived.WalkKit
import Derived.ProofKit
import Derived.OpenShut
import Derived.Outline
import Derived.Deep.Light
import Derived.Deep.QuietTactic
import Derived.BigQuiet
import Derived.IntWalk
import Derived.StillTailTactics
import Derived.RegionTactic
import Derived.Deep.RegionLaw
import Derived.ChangeAlike
import Derived.Deep.RegionHeld3
import Derived.Deep.CutRange
namespace Go.Proofs.Ytiiojhmlagkcdaa.Bg
open Go.ChangeShapes Go.WideShapes Go.ChangeAt Go.RowKit
set_option maxRecDepth 100000


set_option maxHeartbeats 1000000 in
theorem without_ok (A : Option Addr) (n c i : Nat) (l : List R) (w : World) (h : Rs w A n l) (hi : i < n) (hn : n ≤ 900) (hc : n ≤ c) : Calls Try.prog 28 #[.slice A n c, .int .i64 (i : Int)] w fun e w' => ∃ v, e = .returned v ∧ Made1 (l.take i ++ l.drop (i + 1)) w v w' := by
  obtain ⟨g, o, _, rfl, _, _, _, _, _, _⟩ := h.get hi
  have HR := Lib.hid h
  have wi : IntKind.i64.wrap ((i : Int) + 1) = (i : Int) + 1 := IntWalk.i64_in _ (by omega)
  have hle : (i : Int) + 1 ≤ (n : Int) := by omega
  have hge : 0 ≤ (i : Int) + 1 := by omega
  have wn : IntKind.i64.wrap ((n : Int) - 1) = ((n - 1 : Nat) : Int) := by rw [IntWalk.i64_in _ (by omega)]; omega
  clear h
  go_enter Try.func28, Try.ntmps28
  go_wp2_with (first
    | (at_make; go_loud (refine make_wp rfl _ _ rfl w.heap.size (n - 1) _ rfl rfl (by omega) (by omega) (Nat.le_refl _) ?_); intro w1 O1 k1; have K1 := Lib.hid k1.out; clear k1)
    | (at_builtin; refine app_wp rfl (.tmp 10) (.tmp 13) rfl rfl w.heap.size _ 0 [] rfl O1.out (some ⟨g, o, none⟩) i c (l.take i) rfl ((HR.out.old K1.out).take (by omega)) (by intro h; cases h) (by omega) (by omega) K1.out.size i (by omega) (l.take i) rfl ?_; intro v2 w2 O2 k2 a2; have K2 := Lib.hid (O1.out.step K1.out k2.out); clear k2 a2)
    | (at_builtin; refine app_wp rfl (.tmp 15) (.tmp 19) rfl rfl w.heap.size v2 i (l.take i) rfl O2.out _ _ _ (l.drop (i + 1)) rfl (Rs.dropTo (HR.out.old K2.out) (i + 1) (by omega) (by intro h; exact if_neg (by omega))) (by intro h; first | cases h | (split at h <;> cases h)) (by omega) (by omega) K2.out.size _ rfl _ rfl ?_; intro v3 w3 O3 k3 a3; have K3 := Lib.hid (O2.out.step K2.out k3.out); clear k3 a3))
  all_goals
    go_ret
    exact ⟨_, rfl, made_end O3.out K3.out⟩
end Go.Proofs.Ytiiojhmlagkcdaa.Bg
