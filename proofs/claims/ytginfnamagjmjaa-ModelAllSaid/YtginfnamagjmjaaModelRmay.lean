/-
  Which models may be, by the document. Own work; proved by a walk through the landed text.
-/
import Derived.Test.YtginfnamagjmjaaRows
import Derived.Test.YtginfnamagjmjaaModelMay
import Derived.WalkKit
import Derived.ProofKit
import Derived.OpenShut
import Derived.Outline
import Derived.Deep.Light
import Derived.Deep.QuietTactic
import Derived.BigQuiet
import Derived.IntWalk
import Derived.StillTailTactics
import Derived.RegionTactic
import Derived.Deep.RegionLaw
import Derived.Deep.RegionHeld3
namespace Go.Proofs.Ytginfnamagjmjaa.Lm
open Go.ChangeShapes Go.WideShapes Go.ChangeAt Go.RowKit
set_option maxRecDepth 100000

theorem rone_ways (W e : Int) (x : S) : (wordsI x.n = 0 ∧ oneB W e x = false) ∨
    (32 ≤ wordsI x.n ∧ wordsI x.n ≤ 4096 ∧ ((x.a < 0 ∧ oneB W e x = false) ∨
      (¬ x.a < 0 ∧ x.a % 32 ≠ 0 ∧ oneB W e x = false) ∨
      (¬ x.a < 0 ∧ x.a % 32 = 0 ∧ x.c < -1 ∧ oneB W e x = false) ∨
      (¬ x.a < 0 ∧ x.a % 32 = 0 ∧ ¬ x.c < -1 ∧ W < x.a ∧ oneB W e x = false) ∨
      (¬ x.a < 0 ∧ x.a % 32 = 0 ∧ ¬ x.c < -1 ∧ ¬ W < x.a ∧ W - x.a < wordsI x.n ∧ oneB W e x = false) ∨
      (¬ x.a < 0 ∧ x.a % 32 = 0 ∧ ¬ x.c < -1 ∧ ¬ W < x.a ∧ ¬ W - x.a < wordsI x.n ∧ liesB W x.a x.n = true ∧ oneB W e x = decide (e ≤ x.a)))) := by
  have no : (wordsI x.n = 0 ∨ x.a < 0 ∨ x.a % 32 ≠ 0 ∨ W - x.a < wordsI x.n) → oneB W e x = false := fun h => by
    unfold oneB liesB
    rw [decide_eq_false (p := wordsI x.n ≠ 0 ∧ _) (by omega), Bool.and_false]
  have no2 : x.c < -1 → oneB W e x = false := fun h => by unfold oneB; rw [decide_eq_false (p := -1 ≤ x.c ∧ _) (by omega), Bool.false_and]
  rcases words_ways x.n with ⟨_, q⟩ | ⟨_, _, q1, q2, _⟩
  · exact .inl ⟨q, no (.inl q)⟩
  · refine .inr ⟨q1, q2, ?_⟩
    by_cases h : x.a < 0
    · exact .inl ⟨h, no (.inr (.inl h))⟩
    · by_cases h1 : x.a % 32 = 0
      · by_cases h2 : x.c < -1
        · exact .inr (.inr (.inl ⟨h, h1, h2, no2 h2⟩))
        · by_cases h3 : W - x.a < wordsI x.n
          · by_cases h4 : W < x.a
            · exact .inr (.inr (.inr (.inl ⟨h, h1, h2, h4, no (.inr (.inr (.inr h3)))⟩)))
            · exact .inr (.inr (.inr (.inr (.inl ⟨h, h1, h2, h4, h3, no (.inr (.inr (.inr h3)))⟩))))
          · have ly : liesB W x.a x.n = true := decide_eq_true (by omega)
            refine .inr (.inr (.inr (.inr (.inr ⟨h, h1, h2, by omega, h3, ly, ?_⟩))))
            unfold oneB
            rw [ly, Bool.and_true]
            exact decide_eq_decide.2 (by omega)
      · exact .inr (.inl ⟨h, h1, no (.inr (.inr (.inl h1)))⟩)
/-- Where the stack ahead of a place ends. -/
def endAt (l : List S) (k : Nat) : Int := if k = 0 then 0 else match l[k - 1]? with | some y => endI y | none => 0
theorem endAt_succ {l : List S} {k : Nat} {x : S} (h : l[k]? = some x) : endAt l (k + 1) = endI x := by
  unfold endAt
  rw [if_neg (by omega), Nat.add_sub_cancel, h]
set_option maxHeartbeats 1500000 in
theorem rmay_any (W : Int) (A : Option Addr) (n c : Nat) (l : List S) (w : World) (h : RsS w A n l) (hn : n ≤ 1000) :
    Calls Try.prog 11 #[md W A n c] w fun e w' => e = .returned (.bool (mayM W l)) ∧ Kept Old w w' := by
  have K1 := Lib.hid ((Kept.refl Old w).alloc (.cells #[.int .i64 W, .slice A n c] 24))
  have B1 := Lib.hid (Bm.new w W (.slice A n c))
  have HR := Lib.hid (h.old K1.out)
  have hlen := Lib.hid h.len
  have a0 := B1.out.c0
  have a1 := B1.out.c1
  have l1 := Blk.lt B1.out
  clear h
  rcases wide_ways W l with ⟨q, e⟩ | ⟨q, q1, e⟩ | ⟨q, q1, e⟩
  · rw [e]
    clear e
    go_enter Try.func11, Try.ntmps11
    go_wp2_with fail
    go_ret
    exact ⟨rfl, K1.out⟩
  · rw [e]
    clear e
    go_enter Try.func11, Try.ntmps11
    go_wp2_with fail
    go_ret
    exact ⟨rfl, K1.out⟩
  · rw [e]
    clear e
    obtain ⟨B, hB⟩ : ∃ B, mayFrom W 0 l = B := ⟨_, rfl⟩
    rw [hB]
    have HB := Lib.hid hB
    clear hB
    go_enter Try.func11, Try.ntmps11
    go_wp2_with fail
    generalize hW : (w.alloc (.cells #[.int .i64 W, .slice A n c] 24)) = V at *
    go_loopw [3] (fun ii wr => ∃ (k : Nat), k ≤ n ∧ ii = .int .i64 (k : Int) ∧ Hid (mayFrom W (endAt l k) (l.drop k) = B) ∧ Hid (∀ y, l[k - 1]? = some y → 0 < k → Lies W y.a y.n) ∧ Hid (Kept Old V wr)) (fun ii _ => n - (intOf ii).toNat)
    case atStart => exact ⟨0, by omega, rfl, Lib.hid (by rw [List.drop_zero]; exact HB.out), Lib.hid (fun _ _ h => absurd h (Nat.lt_irrefl 0)), Lib.hid (Kept.refl _ _)⟩
    case round =>
      obtain ⟨k, hk, rfl, NO, PR, KU⟩ := hrel
      rename World => U
      have hV := Blk.lt (B1.out.old KU.out)
      have a0 := (B1.out.old KU.out).c0
      have a1 := (B1.out.old KU.out).c1
      have HU := Lib.hid (HR.out.old KU.out)
      by_cases d : k < n
      · obtain ⟨g, o, x, rfl, hg, hx, _, cx0, cx1, cx2⟩ := HU.out.get d
        have kn : (k : Int) < (n : Int) := by omega
        have st := from_at (W := W) (e := endAt l k) hx
        rw [NO.out] at st
        have BX := Lib.hid (BxS.new U x)
        have KX := Lib.hid ((Kept.refl Old U).alloc (.cells #[.int .i64 x.a, .int .i64 x.n, .int .i64 x.c] 40))
        have WD := Lib.hid (fun X => rwords_any x.n X)
        have hx := Lib.hid hx
        have Y4 := Lib.hid (show endI x = x.a + wordsI x.n from rfl)
        rcases rone_ways W (endAt l k) x with ⟨m0, e1⟩ | ⟨m0, m1, ways⟩
        · rw [e1, Bool.false_and] at st
          have E := Lib.hid st
          rw [m0] at WD
          clear st e1 Y4
          go_wp2_with (go_at_call 18; refine (WD.out _).mono ?_; rintro e w' ⟨rfl, rfl⟩)
          go_ret
          exact ⟨by rw [E.out]; rfl, K1.out.trans (KU.out.trans KX.out)⟩
        · rcases ways with ⟨r1, e1⟩ | ⟨r1, r2, e1⟩ | ⟨r1, r2, r3, e1⟩ | ⟨r1, r2, r3, r4, e1⟩ | ⟨r1, r2, r3, r4, r5, e1⟩ | ⟨r1, r2, r3, r4, r5, ly, e1⟩
          · rw [e1, Bool.false_and] at st
            have E := Lib.hid st
            generalize wordsI x.n = m at *
            have nz : (m == 0) = false := beq_eq_false_iff_ne.2 (by omega)
            clear st e1
            go_wp2_with (go_at_call 18; refine (WD.out _).mono ?_; rintro e w' ⟨rfl, rfl⟩)
            go_ret
            exact ⟨by rw [E.out]; rfl, K1.out.trans (KU.out.trans KX.out)⟩
          · rw [e1, Bool.false_and] at st
            have E := Lib.hid st
            generalize wordsI x.n = m at *
            have nz : (m == 0) = false := beq_eq_false_iff_ne.2 (by omega)
            have q4 : (x.a % 32 != 0) = true := by simpa using r2
            clear st e1
            go_wp2_with (go_at_call 18; refine (WD.out _).mono ?_; rintro e w' ⟨rfl, rfl⟩)
            go_ret
            exact ⟨by rw [E.out]; rfl, K1.out.trans (KU.out.trans KX.out)⟩
          · rw [e1, Bool.false_and] at st
            have E := Lib.hid st
            generalize wordsI x.n = m at *
            have nz : (m == 0) = false := beq_eq_false_iff_ne.2 (by omega)
            have q4 : (x.a % 32 != 0) = false := by simp [r2]
            clear st e1
            go_wp2_with (go_at_call 18; refine (WD.out _).mono ?_; rintro e w' ⟨rfl, rfl⟩)
            go_ret
            exact ⟨by rw [E.out]; rfl, K1.out.trans (KU.out.trans KX.out)⟩
          · rw [e1, Bool.false_and] at st
            have E := Lib.hid st
            generalize wordsI x.n = m at *
            have nz : (m == 0) = false := beq_eq_false_iff_ne.2 (by omega)
            have q4 : (x.a % 32 != 0) = false := by simp [r2]
            clear st e1
            go_wp2_with (go_at_call 18; refine (WD.out _).mono ?_; rintro e w' ⟨rfl, rfl⟩)
            go_ret
            exact ⟨by rw [E.out]; rfl, K1.out.trans (KU.out.trans KX.out)⟩
          · rw [e1, Bool.false_and] at st
            have E := Lib.hid st
            generalize wordsI x.n = m at *
            have nz : (m == 0) = false := beq_eq_false_iff_ne.2 (by omega)
            have q4 : (x.a % 32 != 0) = false := by simp [r2]
            have q7 : IntKind.i64.wrap (W - x.a) = W - x.a := IntWalk.i64_in _ (by omega)
            clear st e1
            go_wp2_with (go_at_call 18; refine (WD.out _).mono ?_; rintro e w' ⟨rfl, rfl⟩)
            go_ret
            exact ⟨by rw [E.out]; rfl, K1.out.trans (KU.out.trans KX.out)⟩
          · rw [e1] at st
            have LX := Lib.hid (lies_of ly)
            have EA := Lib.hid (endAt_succ hx.out)
            generalize wordsI x.n = m at *
            have nz : (m == 0) = false := beq_eq_false_iff_ne.2 (by omega)
            have q4 : (x.a % 32 != 0) = false := by simp [r2]
            have q7 : IntKind.i64.wrap (W - x.a) = W - x.a := IntWalk.i64_in _ (by omega)
            have st := Lib.hid st
            clear e1 ly
            cases k with
            | zero =>
              have z0 : endAt l 0 = 0 := rfl
              have st := st.out
              rw [z0, decide_eq_true (by omega), Bool.true_and] at st
              have E := Lib.hid st
              simp only [Nat.zero_mul, Nat.add_zero] at cx0 cx1 cx2
              clear st z0
              go_wp2_with (go_at_call 18; refine (WD.out _).mono ?_; rintro e w' ⟨rfl, rfl⟩)
              go_quiet (fail)
              go_wp2_with fail
              refine ⟨⟨1, by omega, by go_num, Lib.hid (by rw [EA.out]; exact E.out.symm), Lib.hid (fun y hy _ => by rw [hx.out] at hy; obtain rfl := Option.some.inj hy; exact LX.out), Lib.hid ((KU.out.trans KX.out).drewN _)⟩, ?_⟩
              simp [intOf]; omega
            | succ j =>
              obtain ⟨g2, o2, y, eA, _, hy, _, cy0, cy1, cy2⟩ := HU.out.get (k := j) (by omega)
              injection eA with eA
              injection eA with eg eo
              subst eg
              subst eo
              have LY := Lib.hid (PR.out y hy (Nat.succ_pos _))
              have WY := Lib.hid (fun X => rwords_any y.n X)
              have j1 : (0 : Int) < (j : Int) + 1 := by omega
              have j2 : IntKind.i64.wrap ((j : Int) + 1 - 1) = (j : Int) := by rw [IntWalk.i64_in _ (by omega)]; omega
              have j3 : IntKind.i64.wrap (j : Int) = (j : Int) := IntWalk.i64_in _ (by omega)
              have j4 : (j : Int) < (n : Int) := by omega
              have j5 : ((j : Int) + 1).toNat = j + 1 := by omega
              have j6 : (0 : Int) ≤ (j : Int) + 1 := by omega
              have j7 : (j : Int) + 1 < (n : Int) := by omega
              have EY := endAt_succ hy
              have y0 := LY.out.a0
              have y1 := LY.out.fit
              have y2 := LY.out.w0
              have y3 := LY.out.w1
              have st := st.out
              rw [EY, show endI y = y.a + wordsI y.n from rfl] at st
              generalize wordsI y.n = my at *
              have wr : IntKind.i64.wrap (y.a + my) = y.a + my := IntWalk.i64_in _ (by omega)
              clear hy EY
              by_cases f : x.a < y.a + my
              · rw [decide_eq_false (by omega), Bool.false_and] at st
                have E := Lib.hid st
                clear st
                go_wp2_with (go_at_call 18; with_reducible refine (WD.out _).mono ?_; rintro e w' ⟨rfl, rfl⟩)
                go_quiet (first | (go_at_call 18; with_reducible exact Calls.quiet_of_same ((WY.out _).mono fun e w' h => ⟨h.1, h.2.symm⟩)))
                go_wp2_with fail
                go_ret
                exact ⟨by rw [E.out]; rfl, (K1.out.trans (KU.out.trans KX.out)).drewN _⟩
              · rw [decide_eq_true (by omega), Bool.true_and] at st
                have E := Lib.hid st
                clear st
                go_wp2_with (go_at_call 18; with_reducible refine (WD.out _).mono ?_; rintro e w' ⟨rfl, rfl⟩)
                go_quiet (first | (go_at_call 18; with_reducible exact Calls.quiet_of_same ((WY.out _).mono fun e w' h => ⟨h.1, h.2.symm⟩)))
                go_wp2_with fail
                refine ⟨⟨j + 1 + 1, by omega, by go_num, Lib.hid (by rw [EA.out]; exact E.out.symm), Lib.hid (fun y hy _ => by rw [show j + 1 + 1 - 1 = j + 1 from rfl, hx.out] at hy; obtain rfl := Option.some.inj hy; exact LX.out), Lib.hid ((KU.out.trans KX.out).drewN _)⟩, ?_⟩
                simp [intOf]; omega
      · obtain rfl : k = n := by omega
        have E := Lib.hid (show B = true from by rw [← NO.out, List.drop_eq_nil_of_le (by have := hlen.out; omega)]; rfl)
        go_wp2_with fail
        go_ret
        exact ⟨by rw [E.out]; rfl, K1.out.trans KU.out⟩
end Go.Proofs.Ytginfnamagjmjaa.Lm
