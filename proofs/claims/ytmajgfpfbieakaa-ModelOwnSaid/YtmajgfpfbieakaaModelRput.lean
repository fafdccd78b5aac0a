/-
  What the document's own put answers: a list with one more, as new memory. Own work; proved by a walk through the landed text.
-/
import Derived.Test.YtmajgfpfbieakaaRows
import Derived.Test.YtmajgfpfbieakaaLiveApp
import Derived.Test.YtmajgfpfbieakaaLiveOwn
import Derived.WalkKit
import Derived.ProofKit
import Derived.OpenShut
import Derived.Outline
import Derived.Deep.Light
import Derived.Deep.QuietTactic
import Derived.BigQuiet
import Derived.IntWalk
import Derived.StillTailTactics
import Derived.RegionTactic
import Derived.Deep.RegionLaw
import Derived.Deep.RegionHeld3
namespace Go.Proofs.Ytmajgfpfbieakaa.Lm
open Go.ChangeShapes Go.WideShapes Go.ChangeAt Go.RowKit
set_option maxRecDepth 100000
set_option maxHeartbeats 4000000 in
theorem rlput_own (A : Option Addr) (n c : Nat) (l : List S) (p : Nat) (x : S) (w : World) (h : RsS w A n l) (hp : p ≤ n) (hn : n ≤ 900) (hc : n ≤ c) (hA : A = none → c = 0) (hx : Fit x) :
    Calls Try.prog 36 #[.slice A n c, .int .i64 (p : Int), spn x] w fun e w' => ∃ v, e = .returned v ∧ MadeS (l.take p ++ x :: l.drop p) w v w' ∧ OwnS (l.take p ++ x :: l.drop p) w v w' := by
  have hlen := h.len
  have HX := Lib.hid hx
  have K := Lib.hid ((Kept.refl Old w).alloc (.cells #[.int .i64 x.a, .int .i64 x.n, .int .i64 x.c] 40))
  have B := Lib.hid (BxS.new w x)
  have RW := Lib.hid (h.old K.out)
  have c0 := B.out.c0
  have c1 := B.out.c1
  have c2 := B.out.c2
  have bl := Blk.lt B.out
  have hpc : p ≤ c := by omega
  have hpn : (p : Int) ≤ (n : Int) := by omega
  clear h hx
  generalize hW : w.alloc (.cells #[.int .i64 x.a, .int .i64 x.n, .int .i64 x.c] 40) = W at *
  have E := Lib.hid (show ∀ A' c' w', Hid (OwS w' W.heap.size (.slice A' (p + 1 + (n - p)) c') (p + 1 + (n - p)) (l.take p ++ [x] ++ l.drop p)) → Hid (Kept Old W w') → ∃ v, Ending.returned (.slice A' (p + 1 + (n - p)) c') = .returned v ∧ MadeS (l.take p ++ x :: l.drop p) w v w' ∧ OwnS (l.take p ++ x :: l.drop p) w v w' from fun A' c' w' O k3 => by
    have := O.out
    rw [List.append_assoc, List.singleton_append] at this
    exact ⟨_, rfl, madeS_end this (K.out.trans k3.out) (hB := K.out.size), ⟨_, this.downS K.out.size⟩⟩)
  by_cases z : n = 0
  · subst z
    obtain rfl : p = 0 := by omega
    obtain rfl : l = [] := List.eq_nil_of_length_eq_zero (by omega)
    have hA' : (A = none ∧ c = 0) ∨ ∃ ad, A = some ad := by
      cases A with
      | none => exact .inl ⟨rfl, hA rfl⟩
      | some ad => exact .inr ⟨ad, rfl⟩
    clear hA
    rcases hA' with ⟨rfl, rfl⟩ | ⟨ad, rfl⟩
    · go_enter Try.func36, Try.ntmps36
      go_wp2_with fail
      have bY := Lib.hid (show BxS ((W.alloc (.cells #[] 40)).alloc (.cells #[.int .i64 x.a, .int .i64 x.n, .int .i64 x.c] 40)) (W.heap.size + 1) x from by simpa using BxS.new (W.alloc (.cells #[] 40)) x)
      have eY := Lib.hid (show Blk ((W.alloc (.cells #[.int .i64 x.a, .int .i64 x.n, .int .i64 x.c] 40)).alloc (.cells #[] 40)) (W.heap.size + 1) 40 [] from by simpa using Blk.new (W.alloc (.cells #[.int .i64 x.a, .int .i64 x.n, .int .i64 x.c] 40)) 40 [])
      go_region_law (first
        | (refine em_step (W := W) rfl (.tmp 7) (.tmp 10) rfl rfl none 0 0 [] (by first | rfl | simp [Act.eval, Act.put]) (RsS.nil _ _) (fun _ => ⟨rfl, rfl⟩) (by omega) (by first | exact ((Kept.refl Old W).alloc _).drew | exact (((Kept.refl Old W).alloc _).alloc _).drew) (by first | exact ⟨W.heap.size, rfl, Blk.new W _ [], Nat.le_refl _⟩ | exact ⟨W.heap.size, rfl, Blk.alloc (Blk.new W _ []) _, Nat.le_refl _⟩ | exact ⟨W.heap.size + 1, rfl, eY.out, Nat.le_succ _⟩) ?_; intro v1 w1 O1 K1 pr; have z0 := (B.out.old K1.out).c0; have z1 := (B.out.old K1.out).c1; have z2 := (B.out.old K1.out).c2)
        | (refine one_step (W := W) rfl (.tmp 11) (.tmp 13) rfl rfl v1 0 [] (by first | rfl | simp [Act.eval, Act.put]) x HX.out (by omega) (by first | exact O1.out | exact O1.out.alloc _) (by first | exact K1.out | exact K1.out.alloc _) (by first | exact ⟨w1.heap.size, rfl, BxS.new w1 x⟩ | exact ⟨W.heap.size + 1, rfl, pr.out _ _ bY.out⟩ | exact ⟨W.heap.size, rfl, pr.out _ _ (BxS.alloc (BxS.new W x) _)⟩) ?_; intro v2 w2 O2 K2)
        | (refine cut_step (W := W) rfl (.tmp 14) (.tmp 17) rfl rfl v2 (0 + 1) ([] ++ [x]) (by first | rfl | simp [Act.eval, Act.put]) none 0 0 [] (by first | rfl | simp [Act.eval, Act.put]) (RsS.nil _ _) (fun _ => ⟨rfl, rfl⟩) (by omega) (by omega) O2.out K2.out ?_; intro A3 c3 w3 O3 K3))
      all_goals
        have E := Lib.hid (E.out _ _ _ O3 K3)
        go_wp2
        go_ret
        exact E.out
    · go_enter Try.func36, Try.ntmps36
      go_wp2_with fail
      have bY := Lib.hid (show BxS ((W.alloc (.cells #[] 40)).alloc (.cells #[.int .i64 x.a, .int .i64 x.n, .int .i64 x.c] 40)) (W.heap.size + 1) x from by simpa using BxS.new (W.alloc (.cells #[] 40)) x)
      have eY := Lib.hid (show Blk ((W.alloc (.cells #[.int .i64 x.a, .int .i64 x.n, .int .i64 x.c] 40)).alloc (.cells #[] 40)) (W.heap.size + 1) 40 [] from by simpa using Blk.new (W.alloc (.cells #[.int .i64 x.a, .int .i64 x.n, .int .i64 x.c] 40)) 40 [])
      go_region_law (first
        | (refine em_step (W := W) rfl (.tmp 7) (.tmp 10) rfl rfl _ 0 _ [] (by first | rfl | simp [Act.eval, Act.put]) (RsS.nil _ _) (by intro h; first | cases h | (split at h <;> cases h)) (by omega) (by first | exact ((Kept.refl Old W).alloc _).drew | exact (((Kept.refl Old W).alloc _).alloc _).drew) (by first | exact ⟨W.heap.size, rfl, Blk.new W _ [], Nat.le_refl _⟩ | exact ⟨W.heap.size, rfl, Blk.alloc (Blk.new W _ []) _, Nat.le_refl _⟩ | exact ⟨W.heap.size + 1, rfl, eY.out, Nat.le_succ _⟩) ?_; intro v1 w1 O1 K1 pr; have z0 := (B.out.old K1.out).c0; have z1 := (B.out.old K1.out).c1; have z2 := (B.out.old K1.out).c2)
        | (refine one_step (W := W) rfl (.tmp 11) (.tmp 13) rfl rfl v1 0 [] (by first | rfl | simp [Act.eval, Act.put]) x HX.out (by omega) (by first | exact O1.out | exact O1.out.alloc _) (by first | exact K1.out | exact K1.out.alloc _) (by first | exact ⟨w1.heap.size, rfl, BxS.new w1 x⟩ | exact ⟨W.heap.size + 1, rfl, pr.out _ _ bY.out⟩ | exact ⟨W.heap.size, rfl, pr.out _ _ (BxS.alloc (BxS.new W x) _)⟩) ?_; intro v2 w2 O2 K2)
        | (refine cut_step (W := W) rfl (.tmp 14) (.tmp 17) rfl rfl v2 (0 + 1) ([] ++ [x]) (by first | rfl | simp [Act.eval, Act.put]) _ 0 _ [] (by first | rfl | simp [Act.eval, Act.put]) (RsS.nil _ _) (by intro h; first | cases h | (split at h <;> cases h)) (by omega) (by omega) O2.out K2.out ?_; intro A3 c3 w3 O3 K3))
      all_goals
        have E := Lib.hid (E.out _ _ _ O3 K3)
        go_wp2
        go_ret
        exact E.out
  · obtain ⟨g, o, _, rfl, _, _, _, _, _, _⟩ := RW.out.get (k := 0) (by omega)
    have R1 := Lib.hid (RW.out.take (i := p) (by omega))
    obtain ⟨A', hA', R2⟩ : ∃ A' : Option Addr, (if c = p then some (⟨g, o, none⟩ : Addr) else some ⟨g, o + p * 3, none⟩) = A' ∧ Hid (RsS W A' (n - p) (l.drop p)) := ⟨_, rfl, Lib.hid (RW.out.tail _ fun g' o' e h => by injection e with e; injection e with e1 e2; subst e1; subst e2; exact if_neg (by omega))⟩
    have hA'' : A' ≠ none := by rw [← hA']; split <;> simp
    clear hA
    go_enter Try.func36, Try.ntmps36
    go_wp2_with fail
    have bY := Lib.hid (show BxS ((W.alloc (.cells #[] 40)).alloc (.cells #[.int .i64 x.a, .int .i64 x.n, .int .i64 x.c] 40)) (W.heap.size + 1) x from by simpa using BxS.new (W.alloc (.cells #[] 40)) x)
    have eY := Lib.hid (show Blk ((W.alloc (.cells #[.int .i64 x.a, .int .i64 x.n, .int .i64 x.c] 40)).alloc (.cells #[] 40)) (W.heap.size + 1) 40 [] from by simpa using Blk.new (W.alloc (.cells #[.int .i64 x.a, .int .i64 x.n, .int .i64 x.c] 40)) 40 [])
    go_region_law (first
      | (refine em_step (W := W) rfl (.tmp 7) (.tmp 10) rfl rfl (some ⟨g, o, none⟩) p c (l.take p) (by first | rfl | simp [Act.eval, Act.put]) R1.out (fun h => by cases h) (by omega) (by first | exact ((Kept.refl Old W).alloc _).drew | exact (((Kept.refl Old W).alloc _).alloc _).drew) (by first | exact ⟨W.heap.size, rfl, Blk.new W _ [], Nat.le_refl _⟩ | exact ⟨W.heap.size, rfl, Blk.alloc (Blk.new W _ []) _, Nat.le_refl _⟩ | exact ⟨W.heap.size + 1, rfl, eY.out, Nat.le_succ _⟩) ?_; intro v1 w1 O1 K1 pr; have z0 := (B.out.old K1.out).c0; have z1 := (B.out.old K1.out).c1; have z2 := (B.out.old K1.out).c2)
      | (refine one_step (W := W) rfl (.tmp 11) (.tmp 13) rfl rfl v1 p (l.take p) (by first | rfl | simp [Act.eval, Act.put]) x HX.out (by omega) (by first | exact O1.out | exact O1.out.alloc _) (by first | exact K1.out | exact K1.out.alloc _) (by first | exact ⟨w1.heap.size, rfl, BxS.new w1 x⟩ | exact ⟨W.heap.size + 1, rfl, pr.out _ _ bY.out⟩ | exact ⟨W.heap.size, rfl, pr.out _ _ (BxS.alloc (BxS.new W x) _)⟩) ?_; intro v2 w2 O2 K2)
      | (refine cut_step (W := W) rfl (.tmp 14) (.tmp 17) rfl rfl v2 (p + 1) ((l.take p) ++ [x]) (by first | rfl | simp [Act.eval, Act.put]) A' (n - p) (c - p) (l.drop p) (by first | rfl | simp [Act.eval, Act.put]) R2.out (fun h => absurd h hA'') (by omega) (by omega) O2.out K2.out ?_; intro A3 c3 w3 O3 K3))
    all_goals
      have E := Lib.hid (E.out _ _ _ O3 K3)
      go_wp2
      go_ret
      exact E.out
theorem rlput_any (A : Option Addr) (n c : Nat) (l : List S) (p : Nat) (x : S) (w : World) (h : RsS w A n l) (hp : p ≤ n) (hn : n ≤ 900) (hc : n ≤ c) (hA : A = none → c = 0) (hx : Fit x) :
    Calls Try.prog 36 #[.slice A n c, .int .i64 (p : Int), spn x] w fun e w' => ∃ v, e = .returned v ∧ MadeS (l.take p ++ x :: l.drop p) w v w' :=
  (rlput_own A n c l p x w h hp hn hc hA hx).mono fun _ _ ⟨v, e, m, _⟩ => ⟨v, e, m⟩
end Go.Proofs.Ytmajgfpfbieakaa.Lm
