/-
  What Find and Free answer of a valid model. Own work; each is proved by a walk through the landed text.
-/
import Derived.Test.YtmajgfpfbieakaaRows
import Derived.Test.YtmajgfpfbieakaaSizeCalls
import Derived.Test.YtmajgfpfbieakaaModelRfree
import Derived.Test.YtmajgfpfbieakaaLiveApp
import Derived.Test.YtmajgfpfbieakaaModelSearch
import Derived.WalkKit
import Derived.ProofKit
import Derived.OpenShut
import Derived.Outline
import Derived.Deep.Light
import Derived.Deep.QuietTactic
import Derived.BigQuiet
import Derived.IntWalk
import Derived.StillTailTactics
import Derived.RegionTactic
import Derived.Deep.RegionLaw
import Derived.Deep.RegionHeld3
namespace Go.Proofs.Ytmajgfpfbieakaa.Lm
open Go.ChangeShapes Go.WideShapes Go.ChangeAt Go.RowKit
set_option maxRecDepth 100000
set_option maxHeartbeats 1500000 in
theorem find_any (W : Int) (A : Option Addr) (n c : Nat) (l : List S) (a : Int) (w : World) (h : RsS w A n l) (v : Valid W l) :
    Calls Try.prog 22 #[md W A n c, .int .i64 a] w (FindPost (findS l a) (hasB l a) w) := by
  have K1 := Lib.hid (kept2 w (.cells #[.int .i64 W, .slice A n c] 24) (.cells #[.int .i64 0, .int .i64 0, .int .i64 0] 40))
  have B2 := Lib.hid ((Bm.new w W (.slice A n c)).alloc (.cells #[.int .i64 0, .int .i64 0, .int .i64 0] 40))
  have B4 := Lib.hid (BxS.new2 w (.cells #[.int .i64 W, .slice A n c] 24) _ ⟨0, 0, 0⟩ rfl)
  have a0 := B2.out.c0
  have a1 := B2.out.c1
  have HR := Lib.hid (h.old K1.out)
  have n5 : n ≤ 512 := by have := v.len; have := h.len; omega
  have hlen := h.len
  generalize hW : ((w.alloc (.cells #[.int .i64 W, .slice A n c] 24)).alloc (.cells #[.int .i64 0, .int .i64 0, .int .i64 0] 40)) = V at *
  have C := Lib.hid (search_any W A n c l a V HR.out v)
  clear h v
  cases r : hasB l a with
  | false =>
    rw [r] at C
    rw [(find_no r).1]
    generalize placeL l a = p at *
    clear r
    go_enter Try.func22, Try.ntmps22
    go_wp2_with (go_at_call 33; refine C.out.mono ?_; rintro e w4 ⟨rfl, k4⟩; have K4 := Lib.hid (K1.out.trans k4); have B5 := Lib.hid (B4.out.old k4); have b0 := B5.out.c0; have b1 := B5.out.c1; have b2 := B5.out.c2; have f0 := B5.out.f 0; have f1 := B5.out.f 1; have f2 := B5.out.f 2; clear k4)
    obtain ⟨V9, hV9, q0, q1, q2, K9⟩ := B5.out.end3 K4.out (by omega) 0 0 0
    rw [hV9]
    exact bodyPost_ret (v := .tuple #[.agg #[.int .i64 0, .int .i64 0, .int .i64 0], .bool false]) (by simp [results, Try.results22, go_sem, q0, q1, q2]) rfl ⟨rfl, K9⟩
  | true =>
    obtain ⟨x, hx, hl, e1, _, _, e4⟩ := find_yes r
    rw [r] at C
    rw [e1]
    clear e1 e4
    generalize placeL l a = p at *
    obtain ⟨g, o, y, rfl, hg, hy, _, cx0, cx1, cx2⟩ := HR.out.get (k := p) (by omega)
    obtain rfl : y = x := by rw [hx] at hy; exact (Option.some.inj hy).symm
    have p1 : (p : Int) < (n : Int) := by omega
    clear r hx hy
    go_enter Try.func22, Try.ntmps22
    go_wp2_with (go_at_call 33; refine C.out.mono ?_; rintro e w4 ⟨rfl, k4⟩; have K4 := Lib.hid (K1.out.trans k4); have B5 := Lib.hid (B4.out.old k4); have b0 := B5.out.c0; have b1 := B5.out.c1; have b2 := B5.out.c2; have f0 := B5.out.f 0; have f1 := B5.out.f 1; have f2 := B5.out.f 2; have a0 := cell_on k4 a0; have a1 := cell_on k4 a1; have cx0 := cell_on k4 cx0; have cx1 := cell_on k4 cx1; have cx2 := cell_on k4 cx2; clear k4)
    obtain ⟨V9, hV9, q0, q1, q2, K9⟩ := B5.out.end3 K4.out (by omega) y.a y.n y.c
    rw [hV9]
    exact bodyPost_ret (v := .tuple #[.agg #[.int .i64 y.a, .int .i64 y.n, .int .i64 y.c], .bool true]) (by simp [results, Try.results22, go_sem, q0, q1, q2]) rfl ⟨rfl, K9⟩
set_option maxHeartbeats 1500000 in
theorem free_any (W : Int) (A : Option Addr) (n c : Nat) (l : List S) (a : Int) (w : World) (h : RsS w A n l) (v : Valid W l) (hc : n ≤ c) :
    Calls Try.prog 23 #[md W A n c, .int .i64 a] w (FreePost (freeW W l a) (freeL l a) (freeC l a) w) := by
  have K1 := Lib.hid (kept2 w (.cells #[.int .i64 W, .slice A n c] 24) (.cells #[.int .i64 0, .slice none 0 0] 24))
  have B2 := Lib.hid ((Bm.new w W (.slice A n c)).alloc (.cells #[.int .i64 0, .slice none 0 0] 24))
  have B4 := Lib.hid (Bm.new2 w (.cells #[.int .i64 W, .slice A n c] 24) _ 0 (.slice none 0 0) rfl)
  have a0 := B2.out.c0
  have a1 := B2.out.c1
  have HR := Lib.hid (h.old K1.out)
  have n5 : n ≤ 512 := by have := v.len; have := h.len; omega
  have hlen := h.len
  generalize hW : ((w.alloc (.cells #[.int .i64 W, .slice A n c] 24)).alloc (.cells #[.int .i64 0, .slice none 0 0] 24)) = V at *
  have hW2 := Lib.hid hW
  have hV : w.heap.size + 1 < V.heap.size := by rw [← hW2.out]; simp
  have C := Lib.hid (search_any W A n c l a V HR.out v)
  clear h v
  cases r : hasB l a with
  | false =>
    rw [r] at C
    rw [(find_no r).2.1, (find_no r).2.2.1, freeW_no r]
    generalize placeL l a = p at *
    clear r
    go_enter Try.func23, Try.ntmps23
    go_wp2_with (go_at_call 33; refine C.out.mono ?_; rintro e w4 ⟨rfl, k4⟩; have K4 := Lib.hid (K1.out.trans k4); have B5 := Lib.hid (B4.out.old k4); have b0 := B5.out.c0; have b1 := B5.out.c1; have f0 := B5.out.f0; have f1 := B5.out.f1; clear k4)
    obtain ⟨V9, hV9, r0, r1, K9⟩ := B5.out.end0 K4.out (by omega)
    rw [hV9]
    exact bodyPost_ret (v := .tuple #[.agg #[.int .i64 0, .slice none 0 0], .int .i64 2]) (by simp [results, Try.results23, go_sem, r0, r1]) rfl ⟨_, rfl, K9⟩
  | true =>
    obtain ⟨x, hx, hl, _, e2, e3, e4⟩ := find_yes r
    rw [r] at C
    rw [e2, e3, freeW_yes r]
    clear e2 e3 e4 r hx
    generalize placeL l a = p at *
    obtain ⟨g, o, y, rfl, hg, _, _, _, _, _⟩ := HR.out.get (k := p) (by omega)
    have p1 : (p : Int) + 1 ≤ (n : Int) := by omega
    have p2 : p ≤ c := by omega
    have p3 : (p : Int) ≤ (n : Int) := by omega
    have p4 : p + 1 ≤ c := by omega
    have p5 : IntKind.i64.wrap ((p : Int) + 1) = (p : Int) + 1 := IntWalk.i64_in _ (by omega)
    have p6 : ((p : Int) + 1).toNat = p + 1 := by omega
    have p7 : (0 : Int) ≤ (p : Int) + 1 := by omega
    have p8 : p + 1 ≤ n := by omega
    have wn : IntKind.i64.wrap ((n : Int) - 1) = ((n - 1 : Nat) : Int) := by rw [IntWalk.i64_in _ (by omega)]; omega
    obtain ⟨A', hA'⟩ : ∃ A' : Option Addr, (if c = p + 1 then some (⟨g, o, none⟩ : Addr) else some ⟨g, o + (p + 1) * 3, none⟩) = A' := ⟨_, rfl⟩
    have hA'' : A' ≠ none := by rw [← hA']; split <;> simp
    go_enter Try.func23, Try.ntmps23
    go_wp2_with (first
      | (go_at_call 33; refine C.out.mono ?_; rintro e w4 ⟨rfl, k4⟩; have K4 := Lib.hid (K1.out.trans k4); have s4 := k4.size; have B2 := Lib.hid (B2.out.old k4); have B4 := Lib.hid (B4.out.old k4); have a0 := B2.out.c0; have a1 := B2.out.c1; have HR := Lib.hid (HR.out.old k4); clear k4)
      | (at_make; refine make_wpS rfl _ _ rfl w4.heap.size (n - 1) _ rfl rfl (by omega) (by omega) (Nat.le_refl _) ?_; intro w5 O5 k5; have K5 := Lib.hid k5.out; have a0 := cell_on K5.out a0; have a1 := cell_on K5.out a1; clear k5)
      | (at_builtin; refine appS_wp rfl (.tmp 23) (.tmp 27) rfl rfl w4.heap.size _ 0 [] rfl O5.out (some ⟨g, o, none⟩) p c (l.take p) rfl ((HR.out.old K5.out).take (by omega)) (by intro h; cases h) (by omega) (by omega) K5.out.size p (by omega) (l.take p) rfl ?_; intro v6 w6 O6 k6 a6; have K6 := Lib.hid (O5.out.step K5.out k6.out); have a0 := (B2.out.old K6.out).c0; have a1 := (B2.out.old K6.out).c1; have B4' := Lib.hid (B4.out.old K6.out); have b0 := B4'.out.c0; have b1 := B4'.out.c1; have f0 := B4'.out.f0; have f1 := B4'.out.f1; clear k6 a6))
    have RD := Lib.hid ((HR.out.old K6.out).tail (i := p + 1) A' fun g' o' e h => by injection e with e; injection e with e1 e2; subst e1; subst e2; rw [← hA']; exact if_neg (by omega))
    obtain ⟨A6, c6, rfl, _⟩ := O6.out.rs
    go_region_held3 (fun w' => w'.cell? ⟨w.heap.size, 0, none⟩ = some (.int .i64 W) ∧ w'.cell? ⟨w.heap.size, 1, none⟩ = some (.slice (some ⟨g, o, none⟩) n c))
      (first
        | (exact ⟨‹_›, ‹_›⟩)
        | (exact ⟨put_far' ‹_› (Nat.ne_of_lt (Nat.lt_succ_self _)), put_far' ‹_› (Nat.ne_of_lt (Nat.lt_succ_self _))⟩)
        | go_keep)
      (first
        | (refine appS_step rfl (.tmp 31) (.tmp 36) rfl rfl w4.heap.size (.slice A6 p c6) p (l.take p) (by first | rfl | simp [Act.eval]) O6.out.drew A' (n - (p + 1)) (c - (p + 1)) (l.drop (p + 1)) (by first | rfl | simp [Act.eval]) RD.out.drew (fun h => absurd h hA'') (by omega) (by omega) K6.out.drew.size _ rfl _ rfl ?_; intro v8 w8 O8 k8 a8; obtain ⟨A8, c8, rfl, _⟩ := O8.out.rs; have K8 := Lib.hid (O6.out.drew.step K6.out.drew k8.out); have a0 := (B2.out.old K8.out).c0; have a1 := (B2.out.old K8.out).c1; have B4' := Lib.hid (B4.out.old K8.out); have b0 := B4'.out.c0; have b1 := B4'.out.c1; have f0 := B4'.out.f0; have f1 := B4'.out.f1; clear k8 a8))
    go_wp2
    obtain ⟨V9, hV9, r0, r1, K9⟩ := Bm.end2 B4'.out (madeS_end O8.out K8.out) K4.out (by omega) (by omega) W
    rw [hV9]
    exact bodyPost_ret (v := .tuple #[.agg #[.int .i64 W, .slice A8 (p + (n - (p + 1))) c8], .int .i64 0]) (by simp [results, Try.results23, go_sem, r0, r1]) rfl ⟨_, rfl, K9⟩
end Go.Proofs.Ytmajgfpfbieakaa.Lm
