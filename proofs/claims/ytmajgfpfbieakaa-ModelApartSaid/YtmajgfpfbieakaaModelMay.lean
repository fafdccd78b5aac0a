/-
  Which models may be, by the program and by the document. Own work; each is proved by a walk through the landed text.
-/
import Derived.Test.YtmajgfpfbieakaaRows
import Derived.Test.YtmajgfpfbieakaaModelOver
import Derived.Test.YtmajgfpfbieakaaLiveApp
import Derived.WalkKit
import Derived.ProofKit
import Derived.OpenShut
import Derived.Outline
import Derived.Deep.Light
import Derived.Deep.QuietTactic
import Derived.BigQuiet
import Derived.IntWalk
import Derived.StillTailTactics
import Derived.RegionTactic
import Derived.Deep.RegionLaw
import Derived.Deep.RegionHeld3
namespace Go.Proofs.Ytmajgfpfbieakaa.Lm
open Go.ChangeShapes Go.WideShapes Go.ChangeAt Go.RowKit
set_option maxRecDepth 100000

theorem wide_ways (W : Int) (l : List S) : (W < 0 ∧ mayM W l = false) ∨ (¬ W < 0 ∧ 16384 < W ∧ mayM W l = false) ∨ (¬ W < 0 ∧ ¬ 16384 < W ∧ mayM W l = mayFrom W 0 l) := by
  unfold mayM wideB
  by_cases h : W < 0
  · exact .inl ⟨h, by rw [decide_eq_false (by omega)]; rfl⟩
  · by_cases h1 : 16384 < W
    · exact .inr (.inl ⟨h, h1, by rw [decide_eq_false (by omega)]; rfl⟩)
    · exact .inr (.inr ⟨h, h1, by rw [decide_eq_true (by omega)]; rfl⟩)
theorem from_at {W e : Int} {l : List S} {k : Nat} {x : S} (hx : l[k]? = some x) : mayFrom W e (l.drop k) = (oneB W e x && mayFrom W (endI x) (l.drop (k + 1))) := by
  obtain ⟨hk, hx⟩ := List.getElem?_eq_some_iff.1 hx
  rw [List.drop_eq_getElem_cons hk, hx]
  rfl
theorem one_ways (W e : Int) (x : S) : (x.c < -1 ∧ oneB W e x = false) ∨ (¬ x.c < -1 ∧ x.a < e ∧ oneB W e x = false) ∨ (¬ x.c < -1 ∧ ¬ x.a < e ∧ oneB W e x = liesB W x.a x.n) := by
  unfold oneB
  by_cases h : x.c < -1
  · exact .inl ⟨h, by rw [decide_eq_false (by omega)]; rfl⟩
  · by_cases h1 : x.a < e
    · exact .inr (.inl ⟨h, h1, by rw [decide_eq_false (by omega)]; rfl⟩)
    · exact .inr (.inr ⟨h, h1, by rw [decide_eq_true (by omega)]; rfl⟩)
set_option maxHeartbeats 1500000 in
theorem may_any (W : Int) (A : Option Addr) (n c : Nat) (l : List S) (w : World) (h : RsS w A n l) (hn : n ≤ 1000) :
    Calls Try.prog 10 #[md W A n c] w fun e w' => e = .returned (.bool (mayM W l)) ∧ Kept Old w w' := by
  have K1 := Lib.hid ((Kept.refl Old w).alloc (.cells #[.int .i64 W, .slice A n c] 24))
  have B1 := Lib.hid (Bm.new w W (.slice A n c))
  have HR := Lib.hid (h.old K1.out)
  have hlen := Lib.hid h.len
  have a0 := B1.out.c0
  have a1 := B1.out.c1
  have l1 := Blk.lt B1.out
  clear h
  rcases wide_ways W l with ⟨q, e⟩ | ⟨q, q1, e⟩ | ⟨q, q1, e⟩
  · rw [e]
    clear e
    go_enter Try.func10, Try.ntmps10
    go_wp2_with fail
    go_ret
    exact ⟨rfl, K1.out⟩
  · rw [e]
    clear e
    go_enter Try.func10, Try.ntmps10
    go_wp2_with fail
    go_ret
    exact ⟨rfl, K1.out⟩
  · rw [e]
    clear e
    obtain ⟨B, hB⟩ : ∃ B, mayFrom W 0 l = B := ⟨_, rfl⟩
    rw [hB]
    have HB := Lib.hid hB
    clear hB
    go_enter Try.func10, Try.ntmps10
    go_wp2_with fail
    generalize hW : (w.alloc (.cells #[.int .i64 W, .slice A n c] 24)) = V at *
    go_loopw [3, 17] (fun ee ii wr => ∃ (k : Nat) (en : Int), k ≤ n ∧ ee = .int .i64 en ∧ ii = .int .i64 (k : Int) ∧ 0 ≤ en ∧ en ≤ 16384 ∧ Hid (mayFrom W en (l.drop k) = B) ∧ Hid (Kept Old V wr)) (fun _ ii _ => n - (intOf ii).toNat)
    case atStart => exact ⟨0, 0, by omega, rfl, rfl, by omega, by omega, Lib.hid (by rw [List.drop_zero]; exact HB.out), Lib.hid (Kept.refl _ _)⟩
    case round =>
      obtain ⟨k, en, hk, rfl, rfl, en0, en1, NO, KU⟩ := hrel
      rename World => U
      have KU1 := Lib.hid (KU.out.alloc (.cells #[] 40))
      have hV := Blk.lt (B1.out.old KU.out)
      have a0 := (B1.out.old KU.out).c0
      have a1 := (B1.out.old KU.out).c1
      by_cases d : k < n
      · obtain ⟨g, o, x, rfl, hg, hx, _, cx0, cx1, cx2⟩ := (HR.out.old KU.out).get d
        have kn : (k : Int) < (n : Int) := by omega
        have st := from_at (W := W) (e := en) hx
        rw [NO.out] at st
        have BX := Lib.hid (BxS.new U x)
        have KX := Lib.hid ((Kept.refl Old U).alloc (.cells #[.int .i64 x.a, .int .i64 x.n, .int .i64 x.c] 40))
        have LI := Lib.hid (fun X => mlies_any W x.a x.n (some ⟨g, o, none⟩) n c X (by omega) (by omega))
        have WD := Lib.hid (fun X => words_any x.n X)
        clear hx
        rcases one_ways W en x with ⟨r, e1⟩ | ⟨r, r1, e1⟩ | ⟨r, r1, e1⟩
        · rw [e1, Bool.false_and] at st
          have E := Lib.hid st
          clear st e1
          go_wp2_with fail
          go_ret
          exact ⟨by rw [E.out]; rfl, K1.out.trans (KU.out.trans KX.out)⟩
        · rw [e1, Bool.false_and] at st
          have E := Lib.hid st
          clear st e1
          go_wp2_with fail
          go_ret
          exact ⟨by rw [E.out]; rfl, K1.out.trans (KU.out.trans KX.out)⟩
        · rw [e1] at st
          clear e1
          cases ly : liesB W x.a x.n with
          | false =>
            rw [ly, Bool.false_and] at st
            rw [ly] at LI
            have E := Lib.hid st
            clear st ly
            go_wp2_with (go_at_call 24; refine (LI.out _).mono ?_; rintro e w4 ⟨rfl, k4⟩; have K4 := Lib.hid k4; clear k4)
            go_ret
            exact ⟨by rw [E.out]; rfl, K1.out.trans (KU.out.trans (KX.out.trans K4.out))⟩
          | true =>
            rw [ly, Bool.true_and] at st
            rw [ly] at LI
            have E := Lib.hid st
            have L := lies_of ly
            have y0 := L.a0
            have y1 := L.fit
            have y2 := L.w0
            have y3 := L.w1
            clear st ly L
            have Y4 := Lib.hid (show endI x = x.a + wordsI x.n from rfl)
            generalize wordsI x.n = m at *
            have wr : IntKind.i64.wrap (x.a + m) = x.a + m := IntWalk.i64_in _ (by omega)
            go_wp2_with (go_at_call 24; refine (LI.out _).mono ?_; rintro e w4 ⟨rfl, k4⟩; have K4 := Lib.hid k4; have x0 := (BX.out.old k4).c0; have x1 := (BX.out.old k4).c1; clear k4)
            go_quiet (first | (go_at_call 25; exact Calls.quiet_of_same ((WD.out _).mono fun e w' h => ⟨h.1, h.2.symm⟩)))
            go_wp2_with fail
            refine ⟨⟨k + 1, x.a + m, by omega, rfl, by go_num, by omega, by omega, Lib.hid (by rw [← Y4.out]; exact E.out.symm), Lib.hid ((KU.out.trans (KX.out.trans K4.out)).drewN _)⟩, ?_⟩
            simp [intOf]; omega
      · obtain rfl : k = n := by omega
        have E := Lib.hid (show B = true from by rw [← NO.out, List.drop_eq_nil_of_le (by have := hlen.out; omega)]; rfl)
        go_wp2_with fail
        go_ret
        exact ⟨by rw [E.out]; rfl, K1.out.trans KU.out⟩
end Go.Proofs.Ytmajgfpfbieakaa.Lm
