/-
  What the document's own RightRuns answers, of any runs. Own work; each is proved by a walk through the landed text.
-/
import Derived.Test.YtlicfegpdegamaaRows
import Derived.Test.YtlicfegpdegamaaRunsMem
import Derived.Test.YtlicfegpdegamaaRunsCalls
import Derived.Test.YtlicfegpdegamaaRunsRef
import Derived.WalkKit
import Derived.ProofKit
import Derived.OpenShut
import Derived.Outline
import Derived.Deep.Light
import Derived.Deep.QuietTactic
import Derived.BigQuiet
import Derived.IntWalk
import Derived.StillTailTactics
import Derived.RegionTactic
import Derived.Deep.RegionLaw
import Derived.ChangeAlike
import Derived.Deep.RegionHeld3
namespace Go.Proofs.Ytlicfegpdegamaa
open Go.ChangeShapes Go.WideShapes Go.ChangeAt Go.RowKit
set_option maxRecDepth 100000

set_option maxHeartbeats 4000000 in
theorem rright_any (A : Option Addr) (n c : Nat) (l : List R) (p : Int) (w : World) (h : Rs w A n l) (hn : n ≤ 1000) : Calls Try.prog 11 #[.slice A n c, .int .i64 p] w fun e w' => e = .returned (.bool (rightL p l)) ∧ Kept Old w w' := by
  by_cases hp0 : 0 ≤ p
  · by_cases hp1 : p ≤ 256
    · rw [show rightL p l = rightB p 0 l by unfold rightL; rw [decide_eq_true ⟨hp0, hp1⟩, Bool.true_and]]
      have HR := Lib.hid h
      clear h
      go_enter Try.func11, Try.ntmps11
      go_wp2
      go_loopw [5] (fun j wr => ∃ k : Nat, k ≤ n ∧ j = .int .i64 (k : Int) ∧ Hid (rightB p 0 l = rightB p (nextAt l k) (l.drop k)) ∧ Hid (∀ i y, k = i + 1 → l[i]? = some y → 0 ≤ y.1 ∧ 1 ≤ y.2 ∧ y.1 + y.2 ≤ p) ∧ Hid (Kept Old w wr)) (fun j _ => n - (intOf j).toNat)
      case atStart => exact ⟨0, by omega, rfl, Lib.hid rfl, Lib.hid (fun i y h => by omega), Lib.hid (Kept.refl _ _)⟩
      case round =>
        obtain ⟨k, hk, rfl, HB, HP, K⟩ := hrel
        rename World => W
        by_cases c : k < n
        · obtain ⟨g, o, x, rfl, _, hx, f1, f2, c0, c1⟩ := (HR.out.old K.out).get c
          have yes := Lib.hid (right_yes HB.out hx)
          have no := Lib.hid (right_no HB.out hx)
          have prev := Lib.hid (show ∀ y, 0 ≤ x.1 ∧ 1 ≤ x.2 ∧ x.1 + x.2 ≤ p → ∀ i, k + 1 = i + 1 → l[i]? = some y → 0 ≤ y.1 ∧ 1 ≤ y.2 ∧ y.1 + y.2 ≤ p from fun y q i e hy => by
            obtain rfl : i = k := by omega
            rw [hx] at hy
            obtain rfl := Option.some.inj hy
            exact q)
          clear hx HB f1 f2
          rcases rright_ways x p with ⟨d1, q⟩ | ⟨d1, d2, q⟩ | ⟨d1, d2, d3, q⟩ | ⟨d1, d2, d3, d4, q⟩ | ⟨d1, d2, d3, d4, q⟩
          · have P : rightB p 0 l = false := no.out (fun z => q ⟨z.1, z.2.1, z.2.2.1⟩)
            clear yes no prev HP q
            go_wp2_with fail
            go_quiet (fail)
            go_wp2
            go_ret
            exact ⟨by rw [P]; rfl, K.out.drewN _⟩
          · have P : rightB p 0 l = false := no.out (fun z => q ⟨z.1, z.2.1, z.2.2.1⟩)
            clear yes no prev HP q
            go_wp2_with fail
            go_quiet (fail)
            go_wp2
            go_ret
            exact ⟨by rw [P]; rfl, K.out.drewN _⟩
          · have P : rightB p 0 l = false := no.out (fun z => q ⟨z.1, z.2.1, z.2.2.1⟩)
            clear yes no prev HP q
            go_wp2_with fail
            go_quiet (fail)
            go_wp2
            go_ret
            exact ⟨by rw [P]; rfl, K.out.drewN _⟩
          · have P : rightB p 0 l = false := no.out (fun z => q ⟨z.1, z.2.1, z.2.2.1⟩)
            have wr : IntKind.i64.wrap (p - x.1) = p - x.1 := IntWalk.i64_in _ (by have := of_decide_eq_false d2; have := of_decide_eq_false d3; omega)
            clear yes no prev HP q
            go_wp2_with fail
            go_quiet (fail)
            go_wp2
            go_ret
            exact ⟨by rw [P]; rfl, K.out.drewN _⟩
          · obtain ⟨q1, q2, q3⟩ := q
            have wr : IntKind.i64.wrap (p - x.1) = p - x.1 := IntWalk.i64_in _ (by omega)
            have prev := Lib.hid (fun (i : Nat) (y : R) => prev.out y ⟨q1, q2, q3⟩ i)
            by_cases e : k = 0
            · have P := Lib.hid (yes.out ⟨q1, q2, q3, by rw [e]; exact q1⟩)
              have g0 : decide (0 < k) = false := decide_eq_false (by omega)
              clear yes no HP e
              go_wp2_with fail
              go_quiet (fail)
              go_wp2_with fail
              go_quiet (fail)
              go_wp2
              refine ⟨⟨k + 1, by omega, by go_num, P, prev, Lib.hid (K.out.drewN _)⟩, ?_⟩
              simp [intOf]; omega
            · obtain ⟨j, rfl⟩ : ∃ j, k = j + 1 := ⟨k - 1, by omega⟩
              obtain ⟨g', o', y, e', _, hy, _, _, y0, y1⟩ := (HR.out.old K.out).get (k := j) (by omega)
              injection e' with e'
              injection e' with e1 e2
              subst e1
              subst e2
              have by_ := HP.out j y rfl hy
              have nx := Lib.hid (nextAt_succ l j y hy)
              have wr2 : IntKind.i64.wrap (y.1 + y.2) = y.1 + y.2 := IntWalk.i64_in _ (by omega)
              have wr3 : IntKind.i64.wrap (((j + 1 : Nat) : Int) - 1) = (j : Int) := by rw [show (((j + 1 : Nat) : Int) - 1) = (j : Int) by omega]; exact IntWalk.i64_in _ (by omega)
              have g0 : decide ((0 : Int) < ((j + 1 : Nat) : Int)) = true := decide_eq_true (by omega)
              clear hy HP
              by_cases d : x.1 ≤ y.1 + y.2
              · have d' : decide (x.1 ≤ y.1 + y.2) = true := decide_eq_true d
                have P : rightB p 0 l = false := no.out (fun z => by have := z.2.2.2; rw [nx.out] at this; omega)
                clear yes no prev
                go_wp2_with fail
                go_quiet (fail)
                go_wp2_with fail
                go_quiet (fail)
                go_wp2
                go_ret
                exact ⟨by rw [P]; rfl, (K.out.drewN _).drewN _⟩
              · have d' : decide (x.1 ≤ y.1 + y.2) = false := decide_eq_false d
                have P := Lib.hid (yes.out ⟨q1, q2, q3, by rw [nx.out]; omega⟩)
                clear yes no
                go_wp2_with fail
                go_quiet (fail)
                go_wp2_with fail
                go_quiet (fail)
                go_wp2
                refine ⟨⟨j + 1 + 1, by omega, by go_num, P, prev, Lib.hid (K.out.drewN _)⟩, ?_⟩
                simp [intOf]; omega
        · have P : rightB p 0 l = true := right_end HB.out (by have := HR.out.len; omega)
          go_wp2
          go_ret
          exact ⟨by rw [P]; rfl, K.out⟩
    · rw [show rightL p l = false by unfold rightL; rw [decide_eq_false (by omega), Bool.false_and]]
      clear h
      go_enter Try.func11, Try.ntmps11
      go_wp2
      go_ret
      exact ⟨rfl, Kept.refl _ _⟩
  · rw [show rightL p l = false by unfold rightL; rw [decide_eq_false (by omega), Bool.false_and]]
    clear h
    go_enter Try.func11, Try.ntmps11
    go_wp2
    go_ret
    exact ⟨rfl, Kept.refl _ _⟩
end Go.Proofs.Ytlicfegpdegamaa
