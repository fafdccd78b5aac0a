/-
  What the document's own Add answers where it adds. Own work; proved by a walk through the landed text.
-/
import Derived.Test.YtibgggchofpllaaRows
import Derived.Test.YtibgggchofpllaaSpanCalls
import Derived.Test.YtibgggchofpllaaSpanOf
import Derived.Test.YtibgggchofpllaaSpanRem
import Derived.Test.YtibgggchofpllaaSpanAdd
import Derived.Test.YtibgggchofpllaaSpanRef
import Derived.Test.YtibgggchofpllaaSpanApp
namespace Go.Proofs.Ytibgggchofpllaa
open Go.ChangeShapes Go.WideShapes Go.ChangeAt Go.RowKit
set_option maxRecDepth 100000

set_option maxHeartbeats 4000000 in
theorem radd_ok (A : Option Addr) (n cc : Nat) (P : Int) (l : List S) (x : S) (w : World) (h : Rs w A n l) (hA : Shape A cc) (hc : n ≤ cc) (g : Good P l) (hP : 0 ≤ P ∧ P ≤ 256) (ok : Ok P x) (hit : hitB l x = false) :
    Calls Try.prog 17 #[.slice A n cc, .int .i64 P, spn x] w fun e w' => ∃ v, e = .returned (.tuple #[v, .int .i64 0]) ∧ Made (insL l x) w v w' := by
  have hlen := h.len
  have hn : n ≤ 256 := by have := g.len hP.1; omega
  have hle : placeL l x.a ≤ n := by have := place_le l x.a; omega
  have HR := Lib.hid h
  have HG := Lib.hid g
  have k0 := Lib.hid ((Kept.refl Old w).alloc (.cells #[.int .i64 x.a, .int .i64 x.n, .int .i64 x.c] 30))
  have B0 := Lib.hid (Bx.new w x)
  have hins : insL l x = l.take (placeL l x.a) ++ x :: l.drop (placeL l x.a) := rfl
  obtain ⟨j, hj⟩ : ∃ j, placeL l x.a = j := ⟨_, rfl⟩
  have hlo := Lib.hid (fun i y => place_lo l x.a (i := i) (y := y))
  have hhi := Lib.hid (fun i y => miss_all g hit (i := i) (y := y))
  rw [hj] at hle hlo hhi hins
  rw [hins]
  obtain ⟨o1, o2, o3, o4, o5⟩ := ok
  have q1 : ¬ x.n < 1 := by omega
  have q2 : ¬ x.a < 0 := by omega
  have q3 : ¬ P < x.a := by omega
  have q4 : ¬ P - x.a < x.n := by omega
  have q5 : ¬ x.c < 0 := by omega
  have q6 : ¬ 8 ≤ x.c := by omega
  obtain ⟨p1, p2⟩ := hP
  clear h g hit hlen hj hins
  go_enter Try.func17, Try.ntmps17
  go_wp2_with fail
  generalize hs : w.heap.size = s at *
  go_loopw [8, 9] (fun e i wr => ∃ k : Nat, k ≤ n ∧ e = .int .i64 ((if k ≤ j then k else j : Nat) : Int) ∧ i = .int .i64 (k : Int) ∧ Hid (Bx wr s x) ∧ Hid (Kept Old w wr)) (fun _ i _ => n - (intOf i).toNat)
  case atStart => exact ⟨0, by omega, by simp, rfl, B0, k0⟩
  case round =>
    obtain ⟨k, hk, rfl, rfl, BW, K⟩ := hrel
    rename World => W
    clear B0 k0
    have s0 := BW.out.c0
    have s1 := BW.out.c1
    by_cases c : k < n
    · obtain ⟨gg, o, y', rfl, hgl, hx, f1, a0, a1, a2⟩ := (HR.out.old K.out).get (k := k) (by omega)
      obtain ⟨b1, b2, b3, b4, b5⟩ := HG.out.at hx
      by_cases d : k < j
      · have z := hlo.out k y' hx d
        have t1 : decide (y'.a < x.a) = true := decide_eq_true (by omega)
        have cv := Lib.hid (fun W => over_no y' x W b1 b2 (by omega) o1 o2 (by omega) (.inl z))
        rw [if_pos (by omega)]
        clear hx f1
        go_wp2_with fail
        go_quiet (first | (go_at_call 24; exact Calls.quiet_of_same ((cv.out _).mono fun e w' h => ⟨h.1, h.2.symm⟩)))
        go_wp2_with fail
        go_quiet (fail)
        go_wp2
        refine ⟨⟨k + 1, by omega, by rw [if_pos (by omega)]; go_num, by go_num, BW, Lib.hid (K.out.drewN _)⟩, ?_⟩
        simp [intOf]; omega
      · have z := hhi.out k y' hx (by omega)
        have t1 : decide (y'.a < x.a) = false := decide_eq_false (by omega)
        have cv := Lib.hid (fun W => over_no y' x W b1 b2 (by omega) o1 o2 (by omega) (.inr z))
        have e : (if k ≤ j then k else j) = j := by by_cases h : k ≤ j; rw [if_pos h]; omega; rw [if_neg h]
        rw [e]
        clear hx f1 e
        go_wp2_with fail
        go_quiet (first | (go_at_call 24; exact Calls.quiet_of_same ((cv.out _).mono fun e w' h => ⟨h.1, h.2.symm⟩)))
        go_wp2_with fail
        go_quiet (fail)
        go_wp2
        refine ⟨⟨k + 1, by omega, by rw [if_neg (by omega)], by go_num, BW, Lib.hid (K.out.drewN _)⟩, ?_⟩
        simp [intOf]; omega
    · have e : (if k ≤ j then k else j) = j := by by_cases h : k ≤ j; rw [if_pos h]; omega; rw [if_neg h]
      rw [e]
      clear e
      have s2 := BW.out.c2
      go_wp2_with fail
      have hjc : j ≤ cc := by omega
      have hjn : (j : Int) ≤ (n : Int) := by omega
      have fx := Lib.hid (show Fit x from ⟨⟨by omega, by omega⟩, ⟨by omega, by omega⟩, ⟨by omega, by omega⟩⟩)
      have hsz := Lib.hid (show w.heap.size ≤ W.heap.size from K.out.size)
      have RW := Lib.hid (HR.out.old K.out)
      have R1 := Lib.hid (RW.out.take (i := j) (by omega))
      have hl0 : s < W.heap.size := Blk.lt BW.out
      have E := Lib.hid (show ∀ v' w', Hid (Ow w' W.heap.size v' (j + 1 + (n - j)) (l.take j ++ [x] ++ l.drop j)) → Hid (Kept Old W w') → Made (l.take j ++ x :: l.drop j) w v' w' from fun v' w' O k => by
        have := O.out
        rw [List.append_assoc, List.singleton_append] at this
        exact this.madeAt (K.out.trans k.out) K.out.size)
      rcases hA with ⟨rfl, rfl⟩ | ⟨g, o, rfl⟩
      · obtain rfl : n = 0 := by omega
        obtain rfl : j = 0 := by omega
        have bY := Lib.hid (show Bx ((W.alloc (.cells #[] 30)).alloc (.cells #[.int .i64 x.a, .int .i64 x.n, .int .i64 x.c] 30)) (W.heap.size + 1) x from by simpa using Bx.new (W.alloc (.cells #[] 30)) x)
        have eY := Lib.hid (show Blk ((W.alloc (.cells #[.int .i64 x.a, .int .i64 x.n, .int .i64 x.c] 30)).alloc (.cells #[] 30)) (W.heap.size + 1) 30 [] from by simpa using Blk.new (W.alloc (.cells #[.int .i64 x.a, .int .i64 x.n, .int .i64 x.c] 30)) 30 [])
        have R2 := Lib.hid (show Rs W none 0 (l.drop 0) from by simpa using RW.out)
        go_region_law (first
          | (refine em_step (W := W) rfl (.tmp 76) (.tmp 79) rfl rfl none 0 0 (l.take 0) (by first | rfl | simp [Act.eval, Act.put]) R1.out (fun _ => ⟨rfl, rfl⟩) (by omega) s x BW.out (by first | exact ((Kept.refl Old W).alloc _).drew | exact (((Kept.refl Old W).alloc _).alloc _).drew) (by first | exact ⟨W.heap.size, rfl, Blk.new W _ [], Nat.le_refl _⟩ | exact ⟨W.heap.size, rfl, Blk.alloc (Blk.new W _ []) _, Nat.le_refl _⟩ | exact ⟨W.heap.size + 1, rfl, eY.out, Nat.le_succ _⟩) ?_; intro v1 w1 O1 K1 pr z0 z1 z2)
          | (refine one_step (W := W) rfl (.tmp 80) (.tmp 82) rfl rfl v1 0 (l.take 0) (by first | rfl | simp [Act.eval, Act.put]) x fx.out (by omega) (by first | exact O1.out | exact O1.out.alloc _) (by first | exact K1.out | exact K1.out.alloc _) (by first | exact ⟨w1.heap.size, rfl, Bx.new w1 x⟩ | exact ⟨W.heap.size + 1, rfl, pr.out _ _ bY.out⟩ | exact ⟨W.heap.size, rfl, pr.out _ _ (Bx.alloc (Bx.new W x) _)⟩) ?_; intro v2 w2 O2 K2)
          | (refine cut_step (W := W) rfl (.tmp 83) (.tmp 86) rfl rfl v2 (0 + 1) (l.take 0 ++ [x]) (by first | rfl | simp [Act.eval, Act.put]) none 0 0 (l.drop 0) (by first | rfl | simp [Act.eval, Act.put]) R2.out (fun _ => ⟨rfl, rfl⟩) (by omega) (by omega) O2.out K2.out ?_; intro v3 w3 O3 K3))
        all_goals
          have E := Lib.hid (E.out v3 w3 O3 K3)
          go_wp2
          go_ret2
          exact ⟨v3, rfl, E.out⟩
      · obtain ⟨A', hA', R2⟩ : ∃ A' : Option Addr, (if cc = j then some (⟨g, o, none⟩ : Addr) else some ⟨g, o + j * 3, none⟩) = A' ∧ Hid (Rs W A' (n - j) (l.drop j)) := ⟨_, rfl, Lib.hid (RW.out.tail _ fun g' o' e h => by injection e with e; injection e with e1 e2; subst e1; subst e2; exact if_neg (by omega))⟩
        have bY := Lib.hid (show Bx ((W.alloc (.cells #[] 30)).alloc (.cells #[.int .i64 x.a, .int .i64 x.n, .int .i64 x.c] 30)) (W.heap.size + 1) x from by simpa using Bx.new (W.alloc (.cells #[] 30)) x)
        have eY := Lib.hid (show Blk ((W.alloc (.cells #[.int .i64 x.a, .int .i64 x.n, .int .i64 x.c] 30)).alloc (.cells #[] 30)) (W.heap.size + 1) 30 [] from by simpa using Blk.new (W.alloc (.cells #[.int .i64 x.a, .int .i64 x.n, .int .i64 x.c] 30)) 30 [])
        have hA'' : A' ≠ none := by rw [← hA']; split <;> simp
        go_region_law (first
          | (refine em_step (W := W) rfl (.tmp 76) (.tmp 79) rfl rfl (some ⟨g, o, none⟩) j cc (l.take j) (by first | rfl | simp [Act.eval, Act.put]) R1.out (fun h => by cases h) (by omega) s x BW.out (by first | exact ((Kept.refl Old W).alloc _).drew | exact (((Kept.refl Old W).alloc _).alloc _).drew) (by first | exact ⟨W.heap.size, rfl, Blk.new W _ [], Nat.le_refl _⟩ | exact ⟨W.heap.size, rfl, Blk.alloc (Blk.new W _ []) _, Nat.le_refl _⟩ | exact ⟨W.heap.size + 1, rfl, eY.out, Nat.le_succ _⟩) ?_; intro v1 w1 O1 K1 pr z0 z1 z2)
          | (refine one_step (W := W) rfl (.tmp 80) (.tmp 82) rfl rfl v1 j (l.take j) (by first | rfl | simp [Act.eval, Act.put]) x fx.out (by omega) (by first | exact O1.out | exact O1.out.alloc _) (by first | exact K1.out | exact K1.out.alloc _) (by first | exact ⟨w1.heap.size, rfl, Bx.new w1 x⟩ | exact ⟨W.heap.size + 1, rfl, pr.out _ _ bY.out⟩ | exact ⟨W.heap.size, rfl, pr.out _ _ (Bx.alloc (Bx.new W x) _)⟩) ?_; intro v2 w2 O2 K2)
          | (refine cut_step (W := W) rfl (.tmp 83) (.tmp 86) rfl rfl v2 (j + 1) (l.take j ++ [x]) (by first | rfl | simp [Act.eval, Act.put]) A' (n - j) (cc - j) (l.drop j) (by first | rfl | simp [Act.eval, Act.put]) R2.out (fun h => absurd h hA'') (by omega) (by omega) O2.out K2.out ?_; intro v3 w3 O3 K3))
        all_goals
          have E := Lib.hid (E.out v3 w3 O3 K3)
          go_wp2
          go_ret2
          exact ⟨v3, rfl, E.out⟩
end Go.Proofs.Ytibgggchofpllaa
