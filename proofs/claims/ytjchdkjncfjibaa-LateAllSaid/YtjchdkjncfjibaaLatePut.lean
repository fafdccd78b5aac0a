/-
  What Put, Next and Has of package late answer. Own work; each is proved by a walk through the landed text.
-/
import Derived.Test.YtjchdkjncfjibaaRows
import Derived.Test.YtjchdkjncfjibaaLateCalls
import Derived.WalkKit
import Derived.ProofKit
import Derived.OpenShut
import Derived.Outline
import Derived.Deep.Light
import Derived.Deep.QuietTactic
import Derived.BigQuiet
import Derived.IntWalk
import Derived.StillTailTactics
import Derived.RegionTactic
import Derived.Deep.RegionLaw
import Derived.Deep.RegionHeld3
namespace Go.Proofs.Ytjchdkjncfjibaa.Lq
open Go.ChangeShapes Go.WideShapes Go.ChangeAt Go.RowKit
set_option maxRecDepth 100000

theorem kept2 (w : World) (x y : Obj) : Kept Old w ((w.alloc x).alloc y) := ((Kept.refl Old w).alloc x).alloc y
theorem lput_any (on : Bool) (A : Option Addr) (n c : Nat) (l : List Int) (p : Int) (w : World) (h : RsI w A n l) (hm : MayL l) (hp : inI p) (hn : n ≤ 9000) (hA : A = none → n = 0 ∧ c = 0) :
    Calls Try.prog 11 #[lt on A n c, .int .i64 p] w (PutPost (putB on l p) (putL on l p) (putC on l p) w) := by
  have HR := Lib.hid h
  have hA := Lib.hid hA
  have HM := Lib.hid hm
  have HP := Lib.hid hp
  have K1 := Lib.hid (kept2 w (.cells #[.bool on, .slice A n c] 24) (.cells #[.bool false, .slice none 0 0] 24))
  clear h hm hp
  rcases put_ways on l p with ⟨rfl, e1, e2, e3⟩ | ⟨rfl, m, e1, e2, e3⟩ | ⟨rfl, m, o, e1, e2, e3⟩ | ⟨rfl, m, o, e1, e2, e3⟩
  · rw [e1, e2, e3]
    clear e1 e2 e3
    have B1 := Lib.hid (Bq.new2 w (.cells #[.bool false, .slice A n c] 24) _ false (.slice none 0 0) rfl)
    go_enter Try.func11, Try.ntmps11
    go_wp2_with fail
    have r0 := B1.out.c0
    have r1 := B1.out.c1
    exact bodyPost_ret (v := .tuple #[.agg #[.bool false, .slice none 0 0], .int .i64 9]) (by simp [results, Try.results11, go_sem, r0, r1]) rfl ⟨_, rfl, MadeI.of_nil K1.out⟩
  · rw [e1, e2, e3]
    have q := may_no m
    clear e1 e2 e3 m
    have B1 := Lib.hid (Bq.new2 w (.cells #[.bool true, .slice A n c] 24) _ false (.slice none 0 0) rfl)
    rcases q with q | q
    · go_enter Try.func11, Try.ntmps11
      go_wp2_with fail
      have r0 := B1.out.c0
      have r1 := B1.out.c1
      exact bodyPost_ret (v := .tuple #[.agg #[.bool false, .slice none 0 0], .int .i64 1]) (by simp [results, Try.results11, go_sem, r0, r1]) rfl ⟨_, rfl, MadeI.of_nil K1.out⟩
    · have q' : ¬ p < 0 := by omega
      go_enter Try.func11, Try.ntmps11
      go_wp2_with fail
      have r0 := B1.out.c0
      have r1 := B1.out.c1
      exact bodyPost_ret (v := .tuple #[.agg #[.bool false, .slice none 0 0], .int .i64 1]) (by simp [results, Try.results11, go_sem, r0, r1]) rfl ⟨_, rfl, MadeI.of_nil K1.out⟩
  · rw [e1, e2, e3]
    obtain ⟨p0, p1⟩ := may_yes m
    have M := Lib.hid m
    have O := Lib.hid o
    clear e1 e2 e3 m o
    have B1 := Lib.hid (Bq.new2 w (.cells #[.bool true, .slice A n c] 24) _ false (.slice none 0 0) rfl)
    go_enter Try.func11, Try.ntmps11
    go_wp2_with fail
    refine (over_any A n c l p _ (HR.out.old K1.out) HM.out M.out (by omega)).mono ?_
    rw [O.out]
    rintro e w1 ⟨rfl, rfl⟩
    go_wp2_with fail
    have r0 := B1.out.c0
    have r1 := B1.out.c1
    exact bodyPost_ret (v := .tuple #[.agg #[.bool false, .slice none 0 0], .int .i64 4]) (by simp [results, Try.results11, go_sem, r0, r1]) rfl ⟨_, rfl, MadeI.of_nil K1.out⟩
  · rw [e1, e2, e3]
    obtain ⟨p0, p1⟩ := may_yes m
    have M := Lib.hid m
    have O := Lib.hid o
    clear e1 e2 e3 m o
    have B1 := Lib.hid (Bq.new2 w (.cells #[.bool true, .slice A n c] 24) _ false (.slice none 0 0) rfl)
    go_enter Try.func11, Try.ntmps11
    go_wp2_with fail
    refine (over_any A n c l p _ (HR.out.old K1.out) HM.out M.out (by omega)).mono ?_
    rw [O.out]
    rintro e w1 ⟨rfl, rfl⟩
    go_wp2_with fail
    have K2 := Lib.hid (K1.out.alloc (.cells #[.int .i64 p] 3))
    refine (joined_any A n c l _ 1 1 [p] _ (HR.out.old K2.out) (RsI.one _ p HP.out _ (by simp)) (by omega) (by omega) hA.out (fun h => by cases h)).mono ?_
    rintro e w1 ⟨v, rfl, M⟩
    obtain ⟨A2, n2, c2, rfl⟩ := M.form
    have b1 := (B1.out.alloc (.cells #[.int .i64 p] 3)).old M.kept
    have h0 := b1.c0
    have h1 := b1.c1
    have f0 := b1.f0
    have f1 := b1.f1
    have M := Lib.hid M
    have B1 := Lib.hid b1
    clear b1
    go_wp2_with fail
    obtain ⟨W, hW, r0, r1, K'⟩ := Bq.end2 B1.out M.out K2.out (by omega) (by simp) true
    rw [hW]
    exact bodyPost_ret (v := .tuple #[.agg #[.bool true, .slice A2 n2 c2], .int .i64 0]) (by simp [results, Try.results11, go_sem, r0, r1]) rfl ⟨_, rfl, K'⟩

theorem lhas_any (on : Bool) (A : Option Addr) (n c : Nat) (l : List Int) (p : Int) (w : World) (h : RsI w A n l) (hn : n ≤ 9000) :
    Calls Try.prog 13 #[lt on A n c, .int .i64 p] w fun e w' => e = .returned (.bool (decide (p ∈ l))) ∧ Kept Old w w' := by
  have K1 := Lib.hid ((Kept.refl Old w).alloc (.cells #[.bool on, .slice A n c] 24))
  have HC := Lib.hid (Fi.contains_any A n c l p _ (h.old K1.out) (by omega))
  clear h
  go_enter Try.func13, Try.ntmps13
  go_wp2_with fail
  refine HC.out.mono ?_
  rintro e w' ⟨rfl, rfl⟩
  go_wp2_with fail
  go_ret
  exact ⟨rfl, K1.out⟩

theorem lnext_none (on : Bool) (A : Option Addr) (c : Nat) (w : World) :
    Calls Try.prog 12 #[lt on A 0 c] w (NextPost false [] 0 false w) := by
  have K1 := Lib.hid (kept2 w (.cells #[.bool on, .slice A 0 c] 24) (.cells #[.bool false, .slice none 0 0] 24))
  have B1 := Lib.hid (Bq.new2 w (.cells #[.bool on, .slice A 0 c] 24) _ false (.slice none 0 0) rfl)
  go_enter Try.func12, Try.ntmps12
  go_wp2_with fail
  have r0 := B1.out.c0
  have r1 := B1.out.c1
  exact bodyPost_ret (v := .tuple #[.agg #[.bool false, .slice none 0 0], .int .i64 0, .bool false]) (by simp [results, Try.results12, go_sem, r0, r1]) rfl ⟨_, rfl, MadeI.of_nil K1.out⟩
end Go.Proofs.Ytjchdkjncfjibaa.Lq
