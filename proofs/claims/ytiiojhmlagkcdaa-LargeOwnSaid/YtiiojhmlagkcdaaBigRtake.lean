/-
  What the document's own TakeBig and DropBig answer; that SameBig says of two lists that are alike that they are. Own work; each is proved by a walk through the landed text.
-/
import Derived.Test.YtiiojhmlagkcdaaRows
import Derived.Test.YtiiojhmlagkcdaaBigApp
import Derived.Test.YtiiojhmlagkcdaaSizeCalls
import Derived.Test.YtiiojhmlagkcdaaBigCalls
import Derived.Test.YtiiojhmlagkcdaaBigList
import Derived.Test.YtiiojhmlagkcdaaBigTake
import Derived.WalkKit
import Derived.ProofKit
import Derived.OpenShut
import Derived.Outline
import Derived.Deep.Light
import Derived.Deep.QuietTactic
import Derived.BigQuiet
import Derived.IntWalk
import Derived.StillTailTactics
import Derived.RegionTactic
import Derived.Deep.RegionLaw
import Derived.ChangeAlike
import Derived.Deep.RegionHeld3
import Derived.Deep.CutRange
namespace Go.Proofs.Ytiiojhmlagkcdaa.Bg
open Go.ChangeShapes Go.WideShapes Go.ChangeAt Go.RowKit
set_option maxRecDepth 100000





theorem same_yes (A B : Option Addr) (n c d : Nat) (l : List R) (w : World) (ha : Rs w A n l) (hb : Rs w B n l) (hn : n ≤ 1000) :
    Calls Try.prog 17 #[.slice A n c, .slice B n d] w fun e w' => e = .returned (.bool true) ∧ Kept Old w w' := by
  have HA := Lib.hid ha
  have HB := Lib.hid hb
  clear ha hb
  go_enter Try.func17, Try.ntmps17
  go_wp2
  go_loopw [5] (fun i wr => ∃ k : Nat, k ≤ n ∧ i = .int .i64 (k : Int) ∧ Hid (Kept Old w wr)) (fun i _ => n - (intOf i).toNat)
  case atStart => exact ⟨0, by omega, rfl, Lib.hid (Kept.refl _ _)⟩
  case round =>
    obtain ⟨k, hk, rfl, K⟩ := hrel
    rename World => W
    by_cases c : k < n
    · obtain ⟨g, o, x, rfl, _, hx, _, _, c0, c1⟩ := (HA.out.old K.out).get c
      obtain ⟨g', o', y, rfl, _, hy, _, _, e0, e1⟩ := (HB.out.old K.out).get c
      obtain rfl : x = y := by rw [hx] at hy; injection hy
      clear hx hy
      go_wp2_with fail
      go_quiet (fail)
      go_wp2
      refine ⟨⟨k + 1, by omega, by go_num, Lib.hid (K.out.drewN _)⟩, ?_⟩
      simp [intOf]; omega
    · go_wp2
      go_ret
      exact ⟨rfl, K.out⟩
set_option maxHeartbeats 2000000 in
theorem rtake_any (A : Option Addr) (n c : Nat) (l : List R) (cl : Int) (w : World) (h : Rs w A n l) (hn : n ≤ 900) (hc : n ≤ c) :
    Calls Try.prog 25 #[.slice A n c, .int .i64 cl] w (TakePost (takeL l cl) (takeA l cl) (takeC l cl) w) := by
  have HR := Lib.hid h
  have hlen := h.len
  have hp := ix_le l cl
  have LO := Lib.hid (fun i y => ix_lo l cl (i := i) (y := y))
  have AT := Lib.hid (take_ways l cl)
  clear h
  generalize hC : takeC l cl = C at *
  generalize hL : takeL l cl = L at *
  generalize hA : takeA l cl = a at *
  generalize ixL l cl = p at *
  clear hC hL hA
  go_enter Try.func25, Try.ntmps25
  go_wp2_with fail
  go_loopw [7] (fun j wr => ∃ k : Nat, k ≤ p ∧ j = .int .i64 (k : Int) ∧ Hid (Kept Old w wr)) (fun j _ => n - (intOf j).toNat)
  case atStart => exact ⟨0, by omega, rfl, Lib.hid (Kept.refl _ _)⟩
  case round =>
    obtain ⟨k, hk, rfl, K⟩ := hrel
    rename World => W
    by_cases d : k < n
    · obtain ⟨g, o, x, rfl, _, hx, f1, f2, c0, c1⟩ := (HR.out.old K.out).get d
      by_cases d2 : k < p
      · have t : (x.2 == cl) = false := beq_eq_false_iff_ne.2 (LO.out k x hx d2)
        clear hx
        go_wp2
        refine ⟨⟨k + 1, by omega, by go_num, K⟩, ?_⟩
        simp [intOf]; omega
      · obtain rfl : k = p := by omega
        obtain ⟨y, hy, ey, _, rfl, rfl, rfl⟩ : ∃ y, l[k]? = some y ∧ y.2 = cl ∧ k < l.length ∧ C = 0 ∧ L = l.take k ++ l.drop (k + 1) ∧ a = y.1 := by
          rcases AT.out with ⟨_, e, _⟩ | ⟨y, h1, h2, h3, h4, h5, h6⟩
          · omega
          · exact ⟨y, h1, h2, h3, h4, h5, h6⟩
        obtain rfl : y = x := by rw [hx] at hy; exact (Option.some.inj hy).symm
        have t : (y.2 == cl) = true := by simp [ey]
        have RW := Lib.hid (HR.out.old K.out)
        have R1 := Lib.hid (RW.out.take (i := k) (by omega))
        have hjc : k ≤ c := by omega
        have hjn : (k : Int) ≤ (n : Int) := by omega
        have wr1 : IntKind.i64.wrap ((k : Int) + 1) = (k : Int) + 1 := IntWalk.i64_in _ (by omega)
        have e0 : (0 : Int) ≤ (k : Int) + 1 := by omega
        have e1 : ((k : Int) + 1).toNat = k + 1 := by omega
        have e2 : (k : Int) + 1 ≤ (n : Int) := by omega
        have e3 : k + 1 ≤ n := by omega
        obtain ⟨A', hA', R2⟩ : ∃ A' : Option Addr, (if c = k + 1 then some (⟨g, o, none⟩ : Addr) else some ⟨g, o + (k + 1) * 2, none⟩) = A' ∧ Hid (Rs W A' (n - (k + 1)) (l.drop (k + 1))) := ⟨_, rfl, Lib.hid (RW.out.tail _ fun g' o' e h => by injection e with e; injection e with e1 e2; subst e1; subst e2; exact if_neg (by omega))⟩
        have hA'' : A' ≠ none := by rw [← hA']; split <;> simp
        clear hx hy ey AT LO
        go_wp2_with fail
        go_region_law (first
          | (refine em_step (W := W) rfl (.tmp 21) (.tmp 24) rfl rfl (some ⟨g, o, none⟩) k c (l.take k) (by first | rfl | simp [Act.eval, Act.put]) R1.out (fun h => by cases h) (by omega) (by first | exact ((Kept.refl Old W).alloc _).drew) (by first | exact ⟨W.heap.size, rfl, Blk.new W _ [], Nat.le_refl _⟩) ?_; intro v1 w1 O1 K1 pr; have y0 := cell_on K1.out c0)
          | (refine cut_step (W := W) rfl (.tmp 25) (.tmp 29) rfl rfl v1 k (l.take k) (by first | rfl | simp [Act.eval, Act.put]) A' (n - (k + 1)) (c - (k + 1)) (l.drop (k + 1)) (by first | rfl | simp [Act.eval, Act.put]) R2.out (fun h => absurd h hA'') (by omega) (by omega) O1.out K1.out ?_; intro A3 c3 w3 O3 K3; have y0' := cell_on K3.out c0))
        all_goals
          have P := Lib.hid (made_end O3.out (K.out.trans K3.out) (hB := K.out.size))
          go_wp2
          go_ret3
          first | exact ⟨_, rfl, P.out⟩ | exact ⟨_, rfl, P.out.drew⟩
    · obtain ⟨_, _, rfl, rfl, rfl⟩ : (∀ x ∈ l, x.2 ≠ cl) ∧ p = l.length ∧ C = 2 ∧ L = [] ∧ a = 0 := by
        rcases AT.out with e | ⟨y, h1, h2, h3, _⟩
        · exact e
        · omega
      go_wp2
      go_ret3
      exact ⟨_, rfl, Made1.of_nil K.out⟩
set_option maxHeartbeats 2000000 in
theorem rdrop_any (A : Option Addr) (n c : Nat) (l : List R) (w : World) (h : Rs w A n l) (hn : n ≤ 900) (hc : n ≤ c) :
    Calls Try.prog 26 #[.slice A n c] w (DropPost (l.drop 1) (headL l) (dropB l) w) := by
  have HR := Lib.hid h
  have hlen := h.len
  have k0 := Lib.hid ((Kept.refl Old w).alloc (.cells #[.int .i64 0, .int .i64 0] 24))
  have B0 := Lib.hid (Bx.new w (0, 0))
  clear h
  by_cases z : n = 0
  · subst z
    obtain rfl : l = [] := List.eq_nil_of_length_eq_zero hlen
    have b0 := B0.out.c0
    have b1 := B0.out.c1
    have bf := Blk.frozen B0.out
    go_enter Try.func26, Try.ntmps26
    go_wp2
    exact bodyPost_ret (v := .tuple #[.slice none 0 0, run (0, 0), .bool false]) (by simp [results, Try.results26, go_sem]) rfl ⟨_, rfl, Made1.of_nil k0.out⟩
  · obtain ⟨g, o, x, rfl, _, hx, f1, f2, c0, c1⟩ := (HR.out.old k0.out).get (k := 0) (by omega)
    obtain ⟨t, rfl⟩ : ∃ t, l = x :: t := by
      cases l with
      | nil => cases hx
      | cons y t => simp at hx; subst hx; exact ⟨t, rfl⟩
    have hd : dropB (x :: t) = true := decide_eq_true (by simp)
    rw [hd, show headL (x :: t) = x from rfl]
    have RW := Lib.hid (HR.out.old k0.out)
    have b0 := B0.out.c0
    have b1 := B0.out.c1
    have bl := Blk.lt B0.out
    have nz : ((n : Int) == 0) = false := beq_eq_false_iff_ne.2 (by omega)
    have n1 : 1 ≤ n := by omega
    have n3 : 0 < n := by omega
    have n2 : (1 : Int) ≤ (n : Int) := by omega
    simp only [Nat.zero_mul, Nat.add_zero] at c0 c1
    obtain ⟨A', hA', R2⟩ : ∃ A' : Option Addr, (if c = 1 then some (⟨g, o, none⟩ : Addr) else some ⟨g, o + 2, none⟩) = A' ∧ Hid (Rs (w.alloc (.cells #[.int .i64 0, .int .i64 0] 24)) A' (n - 1) t) := ⟨_, rfl, Lib.hid (RW.out.tail (i := 1) _ fun g' o' e h => by injection e with e; injection e with e1 e2; subst e1; subst e2; exact if_neg (by omega))⟩
    have hA'' : A' ≠ none := by rw [← hA']; split <;> simp
    clear hx hd
    go_enter Try.func26, Try.ntmps26
    go_wp2_with fail
    generalize hs : w.heap.size = s at *
    generalize hW : w.alloc (.cells #[.int .i64 0, .int .i64 0] 24) = W at *
    go_region_law (refine em_step (W := W) rfl (.tmp 9) (.tmp 11) rfl rfl A' (n - 1) (c - 1) t (by first | rfl | simp [Act.eval, Act.put]) R2.out (fun h => absurd h hA'') (by omega) (by first | exact ((Kept.refl Old W).alloc _).drew) (by first | exact ⟨W.heap.size, rfl, Blk.new W _ [], Nat.le_refl _⟩) ?_; intro v1 w1 O1 K1 pr; have y0 := cell_on K1.out c0; have y1 := cell_on K1.out c1; have B2 := B0.out.old K1.out; have d0 := B2.c0; have d1 := B2.c1; have df := Blk.frozen B2; have dl := Blk.lt B2; have B2 := Lib.hid B2)
    all_goals
      obtain ⟨V, hV, g0, g1, _, _, kv⟩ := B2.out.end2 (k0.out.trans K1.out) (Nat.le_of_eq hs) x
      have P := Lib.hid ((made_end O1.out K1.out).put k0.out (Nat.le_of_eq hs) bl kv)
      clear kv
      go_wp2
      exact bodyPost_ret (v := .tuple #[v1, run x, .bool true]) (by simp [results, Try.results26, go_sem, g0, g1]) rfl ⟨_, rfl, by first | exact P.out | (rw [hV]; exact P.out) | exact P.out.drew⟩
end Go.Proofs.Ytiiojhmlagkcdaa.Bg
