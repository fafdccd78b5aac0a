/-
  What the document's own PutBig answers: the first error that applies, or the list with the stack in its place. Own work; proved by a walk through the landed text.
-/
import Derived.Test.YtiiojhmlagkcdaaRows
import Derived.Test.YtiiojhmlagkcdaaBigApp
import Derived.Test.YtiiojhmlagkcdaaSizeCalls
import Derived.Test.YtiiojhmlagkcdaaBigCalls
import Derived.Test.YtiiojhmlagkcdaaBigList
import Derived.Test.YtiiojhmlagkcdaaBigPut
import Derived.WalkKit
import Derived.ProofKit
import Derived.OpenShut
import Derived.Outline
import Derived.Deep.Light
import Derived.Deep.QuietTactic
import Derived.BigQuiet
import Derived.IntWalk
import Derived.StillTailTactics
import Derived.RegionTactic
import Derived.Deep.RegionLaw
import Derived.ChangeAlike
import Derived.Deep.RegionHeld3
import Derived.Deep.CutRange
namespace Go.Proofs.Ytiiojhmlagkcdaa.Bg
open Go.ChangeShapes Go.WideShapes Go.ChangeAt Go.RowKit
set_option maxRecDepth 100000




theorem rahead_lit {a b : R} {B : Bool} (h : aheadB a b = B) (w : World) : Calls Try.prog 22 #[run a, run b] w fun e w' => e = .returned (.bool B) ∧ Kept Old w w' := by
  subst h; exact rahead_any a b w
theorem rover_lit {a b : R} {B : Bool} (h : hitB a b = B) (w : World) (ha : mayB a = true) (hb : mayB b = true) : Calls Try.prog 23 #[run a, run b] w fun e w' => e = .returned (.bool B) ∧ Kept Old w w' := by
  subst h; exact rover_big a b w ha hb
theorem rmay_lit {b : R} {B : Bool} (q : mayB b = B) (w : World) (hb : in64 b.1 ∧ in64 b.2) : Calls Try.prog 21 #[run b] w fun e w' => e = .returned (.bool B) ∧ Kept Old w w' := by
  subst q; exact rmay_any b w hb
theorem putPost_end {L : List R} {w W w3 : World} {n : Nat} {v : Value} (K : Kept Old w W) (O : Ow w3 W.heap.size v n L) (K3 : Kept Old W w3) : PutPost L 0 w (.returned (.tuple #[v, .int .i64 0])) w3 :=
  ⟨v, rfl, made_end O (K.trans K3) K.size⟩
set_option maxHeartbeats 4000000 in
theorem rput_any (A : Option Addr) (n c : Nat) (l : List R) (b : R) (w : World) (h : Rs w A n l) (hr : RightL l) (hb : in64 b.1 ∧ in64 b.2) (hn : n ≤ 900) (hc : n ≤ c) (hA : A = none → c = 0) :
    Calls Try.prog 24 #[.slice A n c, run b] w (PutPost (putL l b) (putC l b) w) := by
  have HR := Lib.hid h
  have HT := Lib.hid (fun x hx => hr.may (x := x) hx)
  have HB := Lib.hid hb
  have hlen := h.len
  have hA := Lib.hid hA
  cases m : mayB b with
  | false =>
    have e1 : putC l b = 1 := by unfold putC; rw [m]; rfl
    have e2 : putL l b = [] := by unfold putL; rw [m]; rfl
    rw [e1, e2]
    clear e1 e2 h hr hb
    have M := Lib.hid m
    clear m
    go_enter Try.func24, Try.ntmps24
    go_wp2_with fail
    refine (rmay_lit M.out _ HB.out).mono ?_
    rintro e w1 ⟨rfl, k1⟩
    go_wp2
    go_ret2
    exact ⟨_, rfl, Made1.of_nil (((Kept.refl Old w).alloc _).trans k1)⟩
  | true =>
    have hp := place_le l b
    have LO := Lib.hid (fun i y => place_lo l b (i := i) (y := y))
    have HI := Lib.hid (fun i y => place_hi hr b (i := i) (y := y))
    have YES := Lib.hid (show anyB l b = true → putC l b = 4 ∧ putL l b = [] from fun q => by unfold putC putL; rw [m, q]; exact ⟨rfl, rfl⟩)
    have NO := Lib.hid (show anyB l b = false → putC l b = 0 ∧ putL l b = l.take (placeL l b) ++ b :: l.drop (placeL l b) from fun q => by unfold putC putL; rw [m, q]; exact ⟨rfl, rfl⟩)
    have M := Lib.hid m
    clear m h hr hb
    generalize placeL l b = p at *
    generalize hC : putC l b = C at *
    generalize hL : putL l b = L at *
    clear hC hL
    go_enter Try.func24, Try.ntmps24
    go_wp2_with fail
    refine (rmay_lit M.out _ HB.out).mono ?_
    rintro e w1 ⟨rfl, k1⟩
    have B1 := Lib.hid ((Bx.new w b).old k1)
    have K1 := Lib.hid (((Kept.refl Old w).alloc _).trans k1)
    clear k1
    generalize hs0 : w.heap.size = s0 at *
    go_wp2_with fail
    go_loopw [6, 7] (fun f j wr => ∃ k : Nat, k ≤ n ∧ f = .int .i64 ((if k ≤ p then k else p : Nat) : Int) ∧ j = .int .i64 (k : Int) ∧ Hid (anyB (l.take k) b = false) ∧ Hid (Bx wr s0 b) ∧ Hid (Kept Old w wr)) (fun _ j _ => n - (intOf j).toNat)
    case atStart => exact ⟨0, by omega, by simp, rfl, Lib.hid rfl, B1, K1⟩
    case round =>
      obtain ⟨k, hk, rfl, rfl, HL, B, K⟩ := hrel
      rename World => W
      clear B1 K1
      have x0 := B.out.c0
      have x1 := B.out.c1
      have bl := Blk.lt B.out
      by_cases d : k < n
      · obtain ⟨g, o, x, rfl, _, hx, f1, f2, c0, c1⟩ := (HR.out.old K.out).get d
        have mx := Lib.hid (HT.out x (List.mem_of_getElem? hx))
        cases q : hitB x b with
        | true =>
          obtain ⟨e1, e2⟩ := YES.out (any_true (List.mem_of_getElem? hx) q)
          subst e1
          subst e2
          have ov := Lib.hid (fun W => rover_lit q W mx.out M.out)
          generalize (if k ≤ p then k else p) = f
          clear q hx
          go_wp2_with fail
          go_still_tail 5, (by kernel_rfl)
          change wpList _ _ _ _ _ W.drew
          go_wp2_with fail
          refine (ov.out _).mono ?_
          rintro e w2 ⟨rfl, k2⟩
          go_wp2
          go_ret2
          exact ⟨_, rfl, Made1.of_nil (K.out.drew.trans k2)⟩
        | false =>
          have ov := Lib.hid (fun W => rover_lit q W mx.out M.out)
          have HL2 := Lib.hid (show anyB (l.take (k + 1)) b = false from by rw [any_take hx, HL.out, q]; rfl)
          clear q
          by_cases d2 : k < p
          · have bf := Lib.hid (fun W => rahead_lit (LO.out k x hx d2) W)
            rw [if_pos (by omega)]
            clear hx
            go_wp2_with fail
            go_still_tail 5, (by kernel_rfl)
            change wpList _ _ _ _ _ W.drew
            go_wp2_with fail
            refine (ov.out _).mono ?_
            rintro e w2 ⟨rfl, k2⟩
            have B2 := B.out.drew.old k2
            have K2 := Lib.hid (K.out.drew.trans k2)
            have y0 := B2.c0
            have y1 := B2.c1
            have g0 := cell_on (Kept.trans ((Kept.refl Old W).drew) k2) c0
            have g1 := cell_on (Kept.trans ((Kept.refl Old W).drew) k2) c1
            have B2 := Lib.hid B2
            clear k2 x0 x1 c0 c1
            go_wp2_with fail
            go_still_tail 5, (by kernel_rfl)
            change wpList _ _ _ _ _ w2.drew
            go_wp2_with fail
            refine (bf.out _).mono ?_
            rintro e w3 ⟨rfl, k3⟩
            go_wp2
            refine ⟨⟨k + 1, by omega, by rw [if_pos (by omega)]; go_num, by go_num, HL2, Lib.hid (B2.out.drew.old k3), Lib.hid (K2.out.drew.trans k3)⟩, ?_⟩
            simp [intOf]; omega
          · have bf := Lib.hid (fun W => rahead_lit (HI.out k x hx (by omega)) W)
            have e : (if k ≤ p then k else p) = p := by by_cases h : k ≤ p; rw [if_pos h]; omega; rw [if_neg h]
            rw [e]
            clear hx e
            go_wp2_with fail
            go_still_tail 5, (by kernel_rfl)
            change wpList _ _ _ _ _ W.drew
            go_wp2_with fail
            refine (ov.out _).mono ?_
            rintro e w2 ⟨rfl, k2⟩
            have B2 := B.out.drew.old k2
            have K2 := Lib.hid (K.out.drew.trans k2)
            have y0 := B2.c0
            have y1 := B2.c1
            have g0 := cell_on (Kept.trans ((Kept.refl Old W).drew) k2) c0
            have g1 := cell_on (Kept.trans ((Kept.refl Old W).drew) k2) c1
            have B2 := Lib.hid B2
            clear k2 x0 x1 c0 c1
            go_wp2_with fail
            go_still_tail 5, (by kernel_rfl)
            change wpList _ _ _ _ _ w2.drew
            go_wp2_with fail
            refine (bf.out _).mono ?_
            rintro e w3 ⟨rfl, k3⟩
            go_wp2
            refine ⟨⟨k + 1, by omega, by rw [if_neg (by omega)], by go_num, HL2, Lib.hid (B2.out.drew.old k3), Lib.hid (K2.out.drew.trans k3)⟩, ?_⟩
            simp [intOf]; omega
      · obtain rfl : k = n := by omega
        rw [show (if k ≤ p then k else p) = p from by by_cases h : k ≤ p; rw [if_pos h]; omega; rw [if_neg h]]
        obtain ⟨e1, e2⟩ := NO.out (by have := HL.out; rwa [List.take_of_length_le (by omega)] at this)
        subst e1
        subst e2
        have RW := Lib.hid (HR.out.old K.out)
        have hpc : p ≤ c := by omega
        have hpn : (p : Int) ≤ (k : Int) := by omega
        have E := Lib.hid (show ∀ A' c' w', Hid (Ow w' W.heap.size (.slice A' (p + 1 + (k - p)) c') (p + 1 + (k - p)) (l.take p ++ [b] ++ l.drop p)) → Hid (Kept Old W w') → PutPost (l.take p ++ b :: l.drop p) 0 w (.returned (.tuple #[.slice A' (p + 1 + (k - p)) c', .int .i64 0])) w' from fun A' c' w' O k3 => by
          have := O.out
          rw [List.append_assoc, List.singleton_append] at this
          exact putPost_end K.out this k3.out)
        clear HL LO HI YES NO
        by_cases z : k = 0
        · subst z
          obtain rfl : p = 0 := by omega
          obtain rfl : l = [] := List.eq_nil_of_length_eq_zero (by omega)
          have hA' : (A = none ∧ c = 0) ∨ ∃ ad, A = some ad := by
            cases A with
            | none => exact .inl ⟨rfl, hA.out rfl⟩
            | some ad => exact .inr ⟨ad, rfl⟩
          rcases hA' with ⟨rfl, rfl⟩ | ⟨ad, rfl⟩
          · go_wp2_with fail
            have bY := Lib.hid (show Bx ((W.alloc (.cells #[] 24)).alloc (.cells #[.int .i64 b.1, .int .i64 b.2] 24)) (W.heap.size + 1) b from by simpa using Bx.new (W.alloc (.cells #[] 24)) b)
            have eY := Lib.hid (show Blk ((W.alloc (.cells #[.int .i64 b.1, .int .i64 b.2] 24)).alloc (.cells #[] 24)) (W.heap.size + 1) 24 [] from by simpa using Blk.new (W.alloc (.cells #[.int .i64 b.1, .int .i64 b.2] 24)) 24 [])
            go_region_law (first
              | (refine em_step (W := W) rfl (.tmp 31) (.tmp 34) rfl rfl none 0 0 [] (by first | rfl | simp [Act.eval, Act.put]) (Rs.nil _ _) (fun _ => ⟨rfl, rfl⟩) (by omega) (by first | exact ((Kept.refl Old W).alloc _).drew | exact (((Kept.refl Old W).alloc _).alloc _).drew) (by first | exact ⟨W.heap.size, rfl, Blk.new W _ [], Nat.le_refl _⟩ | exact ⟨W.heap.size, rfl, Blk.alloc (Blk.new W _ []) _, Nat.le_refl _⟩ | exact ⟨W.heap.size + 1, rfl, eY.out, Nat.le_succ _⟩) ?_; intro v1 w1 O1 K1 pr; have z0 := (B.out.old K1.out).c0; have z1 := (B.out.old K1.out).c1)
              | (refine one_step (W := W) rfl (.tmp 35) (.tmp 37) rfl rfl v1 0 [] (by first | rfl | simp [Act.eval, Act.put]) b HB.out (by omega) (by first | exact O1.out | exact O1.out.alloc _) (by first | exact K1.out | exact K1.out.alloc _) (by first | exact ⟨w1.heap.size, rfl, Bx.new w1 b⟩ | exact ⟨W.heap.size + 1, rfl, pr.out _ _ bY.out⟩ | exact ⟨W.heap.size, rfl, pr.out _ _ (Bx.alloc (Bx.new W b) _)⟩) ?_; intro v2 w2 O2 K2)
              | (refine cut_step (W := W) rfl (.tmp 38) (.tmp 41) rfl rfl v2 (0 + 1) ([] ++ [b]) (by first | rfl | simp [Act.eval, Act.put]) none 0 0 [] (by first | rfl | simp [Act.eval, Act.put]) (Rs.nil _ _) (fun _ => ⟨rfl, rfl⟩) (by omega) (by omega) O2.out K2.out ?_; intro A3 c3 w3 O3 K3))
            all_goals
              have E := Lib.hid (E.out _ _ _ O3 K3)
              go_wp2
              go_ret2
              exact E.out
          · go_wp2_with fail
            have bY := Lib.hid (show Bx ((W.alloc (.cells #[] 24)).alloc (.cells #[.int .i64 b.1, .int .i64 b.2] 24)) (W.heap.size + 1) b from by simpa using Bx.new (W.alloc (.cells #[] 24)) b)
            have eY := Lib.hid (show Blk ((W.alloc (.cells #[.int .i64 b.1, .int .i64 b.2] 24)).alloc (.cells #[] 24)) (W.heap.size + 1) 24 [] from by simpa using Blk.new (W.alloc (.cells #[.int .i64 b.1, .int .i64 b.2] 24)) 24 [])
            go_region_law (first
              | (refine em_step (W := W) rfl (.tmp 31) (.tmp 34) rfl rfl _ 0 _ [] (by first | rfl | simp [Act.eval, Act.put]) (Rs.nil _ _) (by intro h; first | cases h | (split at h <;> cases h)) (by omega) (by first | exact ((Kept.refl Old W).alloc _).drew | exact (((Kept.refl Old W).alloc _).alloc _).drew) (by first | exact ⟨W.heap.size, rfl, Blk.new W _ [], Nat.le_refl _⟩ | exact ⟨W.heap.size, rfl, Blk.alloc (Blk.new W _ []) _, Nat.le_refl _⟩ | exact ⟨W.heap.size + 1, rfl, eY.out, Nat.le_succ _⟩) ?_; intro v1 w1 O1 K1 pr; have z0 := (B.out.old K1.out).c0; have z1 := (B.out.old K1.out).c1)
              | (refine one_step (W := W) rfl (.tmp 35) (.tmp 37) rfl rfl v1 0 [] (by first | rfl | simp [Act.eval, Act.put]) b HB.out (by omega) (by first | exact O1.out | exact O1.out.alloc _) (by first | exact K1.out | exact K1.out.alloc _) (by first | exact ⟨w1.heap.size, rfl, Bx.new w1 b⟩ | exact ⟨W.heap.size + 1, rfl, pr.out _ _ bY.out⟩ | exact ⟨W.heap.size, rfl, pr.out _ _ (Bx.alloc (Bx.new W b) _)⟩) ?_; intro v2 w2 O2 K2)
              | (refine cut_step (W := W) rfl (.tmp 38) (.tmp 41) rfl rfl v2 (0 + 1) ([] ++ [b]) (by first | rfl | simp [Act.eval, Act.put]) _ 0 _ [] (by first | rfl | simp [Act.eval, Act.put]) (Rs.nil _ _) (by intro h; first | cases h | (split at h <;> cases h)) (by omega) (by omega) O2.out K2.out ?_; intro A3 c3 w3 O3 K3))
            all_goals
              have E := Lib.hid (E.out _ _ _ O3 K3)
              go_wp2
              go_ret2
              exact E.out
        · obtain ⟨g, o, _, rfl, _, _, _, _, _, _⟩ := RW.out.get (k := 0) (by omega)
          have R1 := Lib.hid (RW.out.take (i := p) (by omega))
          obtain ⟨A', hA', R2⟩ : ∃ A' : Option Addr, (if c = p then some (⟨g, o, none⟩ : Addr) else some ⟨g, o + p * 2, none⟩) = A' ∧ Hid (Rs W A' (k - p) (l.drop p)) := ⟨_, rfl, Lib.hid (RW.out.tail _ fun g' o' e h => by injection e with e; injection e with e1 e2; subst e1; subst e2; exact if_neg (by omega))⟩
          have hA'' : A' ≠ none := by rw [← hA']; split <;> simp
          go_wp2_with fail
          have bY := Lib.hid (show Bx ((W.alloc (.cells #[] 24)).alloc (.cells #[.int .i64 b.1, .int .i64 b.2] 24)) (W.heap.size + 1) b from by simpa using Bx.new (W.alloc (.cells #[] 24)) b)
          have eY := Lib.hid (show Blk ((W.alloc (.cells #[.int .i64 b.1, .int .i64 b.2] 24)).alloc (.cells #[] 24)) (W.heap.size + 1) 24 [] from by simpa using Blk.new (W.alloc (.cells #[.int .i64 b.1, .int .i64 b.2] 24)) 24 [])
          go_region_law (first
            | (refine em_step (W := W) rfl (.tmp 31) (.tmp 34) rfl rfl (some ⟨g, o, none⟩) p c (l.take p) (by first | rfl | simp [Act.eval, Act.put]) R1.out (fun h => by cases h) (by omega) (by first | exact ((Kept.refl Old W).alloc _).drew | exact (((Kept.refl Old W).alloc _).alloc _).drew) (by first | exact ⟨W.heap.size, rfl, Blk.new W _ [], Nat.le_refl _⟩ | exact ⟨W.heap.size, rfl, Blk.alloc (Blk.new W _ []) _, Nat.le_refl _⟩ | exact ⟨W.heap.size + 1, rfl, eY.out, Nat.le_succ _⟩) ?_; intro v1 w1 O1 K1 pr; have z0 := (B.out.old K1.out).c0; have z1 := (B.out.old K1.out).c1)
            | (refine one_step (W := W) rfl (.tmp 35) (.tmp 37) rfl rfl v1 p (l.take p) (by first | rfl | simp [Act.eval, Act.put]) b HB.out (by omega) (by first | exact O1.out | exact O1.out.alloc _) (by first | exact K1.out | exact K1.out.alloc _) (by first | exact ⟨w1.heap.size, rfl, Bx.new w1 b⟩ | exact ⟨W.heap.size + 1, rfl, pr.out _ _ bY.out⟩ | exact ⟨W.heap.size, rfl, pr.out _ _ (Bx.alloc (Bx.new W b) _)⟩) ?_; intro v2 w2 O2 K2)
            | (refine cut_step (W := W) rfl (.tmp 38) (.tmp 41) rfl rfl v2 (p + 1) (l.take p ++ [b]) (by first | rfl | simp [Act.eval, Act.put]) A' (k - p) (c - p) (l.drop p) (by first | rfl | simp [Act.eval, Act.put]) R2.out (fun h => absurd h hA'') (by omega) (by omega) O2.out K2.out ?_; intro A3 c3 w3 O3 K3))
          all_goals
            have E := Lib.hid (E.out _ _ _ O3 K3)
            go_wp2
            go_ret2
            exact E.out
end Go.Proofs.Ytiiojhmlagkcdaa.Bg
