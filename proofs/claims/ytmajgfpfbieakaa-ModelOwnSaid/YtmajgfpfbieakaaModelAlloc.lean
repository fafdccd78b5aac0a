/-
  What Alloc, Free and Find answer of a valid model. Own work; each is proved by a walk through the landed text.
-/
import Derived.Test.YtmajgfpfbieakaaRows
import Derived.Test.YtmajgfpfbieakaaSizeCalls
import Derived.Test.YtmajgfpfbieakaaModelRoom
import Derived.Test.YtmajgfpfbieakaaLiveApp
import Derived.WalkKit
import Derived.ProofKit
import Derived.OpenShut
import Derived.Outline
import Derived.Deep.Light
import Derived.Deep.QuietTactic
import Derived.BigQuiet
import Derived.IntWalk
import Derived.StillTailTactics
import Derived.RegionTactic
import Derived.Deep.RegionLaw
import Derived.Deep.RegionHeld3
namespace Go.Proofs.Ytmajgfpfbieakaa.Lm
open Go.ChangeShapes Go.WideShapes Go.ChangeAt Go.RowKit
set_option maxRecDepth 100000
theorem put_far {w : World} {b : Nat} {x y : Value} {p : Addr} {v : Value} (h : w.cell? p = some v) (hp : p.block ≠ b) : ((w.setCell ⟨b, 0, none⟩ x).setCell ⟨b, 1, none⟩ y).cell? p = some v := ((put2_kept w b x y).cell (block_lt_of_cell h) hp).trans h
theorem fit_new {n a : Int} (h : in64S a) : Fit (newS n a) := by
  refine ⟨h, ?_, ⟨show (-9223372036854775808 : Int) ≤ -1 by decide, show (-1 : Int) ≤ 9223372036854775807 by decide⟩⟩
  show in64S (classI n)
  unfold classI
  split
  · repeat' split
    all_goals constructor <;> decide
  · constructor <;> decide
set_option maxHeartbeats 1500000 in
theorem alloc_any (W : Int) (A : Option Addr) (n c : Nat) (l : List S) (nn a : Int) (w : World) (h0 : RsS w A n l) (v : Valid W l) (hc : n ≤ c) (hA : A = none → c = 0) (ha : in64S a) :
    Calls Try.prog 20 #[md W A n c, .int .i64 nn, .int .i64 a] w (AllocPost (allocW W l nn a) (allocL W l nn a) (roomB W l nn a) w) := by
  have K1 := Lib.hid (kept2 w (.cells #[.int .i64 W, .slice A n c] 24) (.cells #[.int .i64 0, .slice none 0 0] 24))
  have B3 := Lib.hid ((Bm.new w W (.slice A n c)).alloc (.cells #[.int .i64 0, .slice none 0 0] 24))
  have B6 := Lib.hid (Bm.new2 w (.cells #[.int .i64 W, .slice A n c] 24) _ 0 (.slice none 0 0) rfl)
  have C := Lib.hid (room_any W A n c l nn a _ (h0.old K1.out) v hc)
  have a0 := B3.out.c0
  have a1 := B3.out.c1
  have b0 := B6.out.c0
  have b1 := B6.out.c1
  have f0 := B6.out.f0
  have f1 := B6.out.f1
  have hlen := h0.len
  have HR := Lib.hid h0
  have HX := Lib.hid (fit_new (n := nn) ha)
  have n5 : n ≤ 512 := by have := v.len; have := h0.len; omega
  have pl : placeL l a ≤ n := by have := place_le l a; omega
  generalize hW : ((w.alloc (.cells #[.int .i64 W, .slice A n c] 24)).alloc (.cells #[.int .i64 0, .slice none 0 0] 24)) = V at *
  have hW2 := Lib.hid hW
  have hV : w.heap.size + 1 < V.heap.size := by rw [← hW2.out]; simp
  have hV0 : w.heap.size < V.heap.size := by omega
  cases r : roomB W l nn a with
  | false =>
    rw [(room_no r).1, (room_no r).2.1, r] at C
    rw [(room_no r).2.2.1, (room_no r).2.2.2]
    clear r h0
    go_enter Try.func20, Try.ntmps20
    go_wp2_with (go_at_call 32; refine C.out.mono ?_; rintro e w4 ⟨rfl, k4⟩; have K1 := Lib.hid (K1.out.trans k4); have B6 := Lib.hid (B6.out.old k4); have b0 := B6.out.c0; have b1 := B6.out.c1; have f0 := B6.out.f0; have f1 := B6.out.f1; have l6 := Blk.lt B6.out; clear k4)
    obtain ⟨V9, hV9, r0, r1, K9⟩ := B6.out.end0 K1.out (by omega)
    rw [hV9]
    have KA := (Kept.refl Old V9).alloc (.cells #[.int .i64 0, .int .i64 0, .int .i64 0] 40)
    have r0 := cell_on KA r0
    have r1 := cell_on KA r1
    exact bodyPost_ret (v := .tuple #[.agg #[.int .i64 0, .slice none 0 0], .bool false]) (by simp [results, Try.results20, go_sem, r0, r1]) rfl ⟨_, rfl, K9.old KA⟩
  | true =>
    have PO := Lib.hid (show ∀ v V9, MadeS (l.take (placeL l a) ++ newS nn a :: l.drop (placeL l a)) w v V9 → AllocPost (allocW W l nn a) (allocL W l nn a) (roomB W l nn a) w (.returned (.tuple #[.agg #[.int .i64 W, v], .bool true])) V9 from fun v V9 M => by
      rw [(room_yes r).2.2.1, (room_yes r).2.2.2, r]
      exact ⟨_, rfl, M⟩)
    rw [(room_yes r).1, (room_yes r).2.1, r] at C
    rw [r] at PO
    obtain ⟨cl, hcl⟩ : ∃ cl, classI nn = cl := ⟨_, rfl⟩
    rw [show newS nn a = ⟨a, cl, -1⟩ from by unfold newS; rw [hcl]] at C HX PO
    clear r hcl
    generalize placeL l a = p at *
    have wn : IntKind.i64.wrap ((n : Int) + 1) = (n : Int) + 1 := IntWalk.i64_in _ (by omega)
    have w01 : IntKind.i64.wrap 1 = 1 := IntWalk.i64_in _ (by omega)
    have pc : p ≤ c := by omega
    have pn : (p : Int) ≤ (n : Int) := by omega
    by_cases z : n = 0
    · subst z
      obtain rfl : p = 0 := by omega
      obtain rfl : l = [] := List.eq_nil_of_length_eq_zero (by omega)
      have hA' : (A = none ∧ c = 0) ∨ ∃ ad, A = some ad := by
        cases A with
        | none => exact .inl ⟨rfl, hA rfl⟩
        | some ad => exact .inr ⟨ad, rfl⟩
      clear hA
      rcases hA' with ⟨rfl, rfl⟩ | ⟨ad, rfl⟩
      · go_enter Try.func20, Try.ntmps20
        go_wp2_with (first
          | (go_at_call 32; refine C.out.mono ?_; rintro e w4 ⟨rfl, k4⟩; (have K1 := Lib.hid (K1.out.trans k4); have B3 := Lib.hid ((B3.out.old k4).alloc (.cells #[.int .i64 a, .int .i64 cl, .int .i64 (-1)] 40)); have B6 := Lib.hid ((B6.out.old k4).alloc (.cells #[.int .i64 a, .int .i64 cl, .int .i64 (-1)] 40)); have B9 := Lib.hid (BxS.new w4 ⟨a, cl, -1⟩); have KX := Lib.hid ((Kept.refl Old w4).alloc (.cells #[.int .i64 a, .int .i64 cl, .int .i64 (-1)] 40)); have s4 := k4.size; have l3 : w.heap.size < w4.heap.size := (by omega); have l6 : w.heap.size + 1 < w4.heap.size := (by omega); have a0 := cell_on k4 a0; have a1 := cell_on k4 a1); clear k4)
          | (at_make; refine make_wpS rfl _ _ rfl (w4.alloc (.cells #[.int .i64 a, .int .i64 cl, .int .i64 (-1)] 40)).heap.size (0 + 1) _ rfl rfl (by omega) (by omega) (Nat.le_refl _) ?_; intro w5 O5 k5; have O5 := Lib.hid (show OwS w5 (w4.heap.size + 1) (.slice (some ⟨w4.heap.size + 1, 0, none⟩) 0 (0 + 1)) 0 [] from (by simpa using O5.out)); have sU := Lib.hid (show (w4.alloc (.cells #[.int .i64 a, .int .i64 cl, .int .i64 (-1)] 40)).heap.size = w4.heap.size + 1 from (by simp)); have K5 := Lib.hid k5.out; have a0 := (B3.out.old K5.out).c0; have a1 := (B3.out.old K5.out).c1; have x0 := (B9.out.old K5.out).c0; have x1 := (B9.out.old K5.out).c1; have x2 := (B9.out.old K5.out).c2; have l3 := Blk.lt (B3.out.old K5.out); have l9 := Blk.lt (B9.out.old K5.out); have B6' := Lib.hid (B6.out.old K5.out); have b0 := B6'.out.c0; have b1 := B6'.out.c1; have f0 := B6'.out.f0; have f1 := B6'.out.f1; have l6 := Blk.lt B6'.out; have u5 : w4.heap.size + 1 ≤ w5.heap.size := (by simpa using K5.out.size); have HR := Lib.hid (HR.out.old (K1.out.trans (KX.out.trans K5.out))); clear k5)
          | (at_builtin; (refine appS_wp rfl (.tmp 28) (.tmp 32) rfl rfl (w4.heap.size + 1) _ 0 [] rfl O5.out none 0 0 [] rfl (RsS.nil _ _) (fun _ => ⟨rfl, rfl⟩) (by omega) (by omega) u5 0 (by omega) [] rfl ?_); intro v6 w6 O6 k6 a6; have K6 := Lib.hid (O5.out.stepB (Nat.le_of_eq sU.out) K5.out k6.out); have a0 := (B3.out.old K6.out).c0; have a1 := (B3.out.old K6.out).c1; have x0 := (B9.out.old K6.out).c0; have x1 := (B9.out.old K6.out).c1; have x2 := (B9.out.old K6.out).c2; have l3 := Blk.lt (B3.out.old K6.out); have l9 := Blk.lt (B9.out.old K6.out); have B6' := Lib.hid (B6.out.old K6.out); have b0 := B6'.out.c0; have b1 := B6'.out.c1; have f0 := B6'.out.f0; have f1 := B6'.out.f1; have l6 := Blk.lt B6'.out; have u6 : w4.heap.size + 1 ≤ w6.heap.size := (by simpa using K6.out.size); clear k6 a6)
          | (at_builtin; refine appS_wp rfl (.tmp 34) (.tmp 36) rfl rfl (w4.heap.size + 1) v6 0 [] rfl (O6.out.alloc _) (some ⟨w6.heap.size, 0, none⟩) 1 1 [⟨a, cl, -1⟩] rfl (RsS.one w6 ⟨a, cl, -1⟩ HX.out _ rfl) (by intro h; cases h) (by omega) (by omega) (Nat.le_trans u6 ((Kept.refl Old w6).alloc _).size) (0 + 1) rfl ([] ++ [⟨a, cl, -1⟩]) rfl ?_; intro v7 w7 O7 k7 a7; have K7 := Lib.hid ((O6.out.alloc _).stepB (Nat.le_of_eq sU.out) (K6.out.alloc _) k7.out); have a0 := (B3.out.old K7.out).c0; have a1 := (B3.out.old K7.out).c1; have x0 := (B9.out.old K7.out).c0; have x1 := (B9.out.old K7.out).c1; have x2 := (B9.out.old K7.out).c2; have l3 := Blk.lt (B3.out.old K7.out); have l9 := Blk.lt (B9.out.old K7.out); have B6' := Lib.hid (B6.out.old K7.out); have b0 := B6'.out.c0; have b1 := B6'.out.c1; have f0 := B6'.out.f0; have f1 := B6'.out.f1; have l6 := Blk.lt B6'.out; have u7 : w4.heap.size + 1 ≤ w7.heap.size := (by simpa using K7.out.size); clear k7 a7))
        have HRB := Lib.hid (h0.old (K1.out.trans (KX.out.trans K7.out)))
        skip
        obtain ⟨Z, hZ⟩ : ∃ Z, Z = (w4.alloc (.cells #[.int .i64 a, .int .i64 cl, .int .i64 (-1)] 40)) := ⟨_, rfl⟩
        have ez : w4.heap.size + 1 = Z.heap.size := by rw [hZ, sU.out]
        rw [← hZ] at K7
        rw [ez] at O7
        have B3z := Lib.hid (show Bm Z _ _ _ from by rw [hZ]; exact B3.out)
        have B6z := Lib.hid (show Bm Z _ _ _ from by rw [hZ]; exact B6.out)
        have KZ := Lib.hid (show Kept Old w Z from by rw [hZ]; exact K1.out.trans KX.out)
        have lz : w.heap.size + 1 < Z.heap.size := by rw [hZ]; simp; omega
        clear hZ
        obtain ⟨A7, c7, rfl, _⟩ := O7.out.rs
        go_region_held3 (fun w' => w'.cell? ⟨w.heap.size, 0, none⟩ = some (.int .i64 W) ∧ w'.cell? ⟨w.heap.size, 1, none⟩ = some (.slice none 0 0))
          (first
            | (exact ⟨‹_›, ‹_›⟩)
            | (exact ⟨put_far ‹_› (Nat.ne_of_lt (Nat.lt_succ_self _)), put_far ‹_› (Nat.ne_of_lt (Nat.lt_succ_self _))⟩)
            | go_keep)
          (first
            | ((refine appS_step rfl (.tmp 40) (.tmp 44) rfl rfl Z.heap.size (.slice A7 (0 + 1) c7) (0 + 1) ([] ++ [⟨a, cl, -1⟩]) (by first | rfl | simp [Act.eval]) O7.out.drew none 0 0 [] (by first | rfl | simp [Act.eval]) (RsS.nil _ _) (fun _ => ⟨rfl, rfl⟩) (by omega) (by omega) (by first | exact u7z | exact K7.out.size) _ rfl _ rfl ?_); intro v8 w8 O8 k8 a8; obtain ⟨A8, c8, rfl, _⟩ := O8.out.rs; have K8 := Lib.hid (O7.out.drew.step K7.out.drew k8.out); have a0 := (B3z.out.old K8.out).c0; have a1 := (B3z.out.old K8.out).c1; have B6' := Lib.hid (B6z.out.old K8.out); have b0 := B6'.out.c0; have b1 := B6'.out.c1; have f0 := B6'.out.f0; have f1 := B6'.out.f1; clear k8 a8))
        go_wp2
        obtain ⟨V9, hV9, r0, r1, K9⟩ := Bm.end2 B6'.out (madeS_end O8.out K8.out) KZ.out (by omega) lz W
        rw [hV9]
        exact bodyPost_ret (v := .tuple #[.agg #[.int .i64 W, .slice A8 (0 + 1 + 0) c8], .bool true]) (by simp [results, Try.results20, go_sem, r0, r1]) rfl (PO.out _ _ (by simpa using K9))
      · go_enter Try.func20, Try.ntmps20
        go_wp2_with (first
          | (go_at_call 32; refine C.out.mono ?_; rintro e w4 ⟨rfl, k4⟩; (have K1 := Lib.hid (K1.out.trans k4); have B3 := Lib.hid ((B3.out.old k4).alloc (.cells #[.int .i64 a, .int .i64 cl, .int .i64 (-1)] 40)); have B6 := Lib.hid ((B6.out.old k4).alloc (.cells #[.int .i64 a, .int .i64 cl, .int .i64 (-1)] 40)); have B9 := Lib.hid (BxS.new w4 ⟨a, cl, -1⟩); have KX := Lib.hid ((Kept.refl Old w4).alloc (.cells #[.int .i64 a, .int .i64 cl, .int .i64 (-1)] 40)); have s4 := k4.size; have l3 : w.heap.size < w4.heap.size := (by omega); have l6 : w.heap.size + 1 < w4.heap.size := (by omega); have a0 := cell_on k4 a0; have a1 := cell_on k4 a1); clear k4)
          | (at_make; refine make_wpS rfl _ _ rfl (w4.alloc (.cells #[.int .i64 a, .int .i64 cl, .int .i64 (-1)] 40)).heap.size (0 + 1) _ rfl rfl (by omega) (by omega) (Nat.le_refl _) ?_; intro w5 O5 k5; have O5 := Lib.hid (show OwS w5 (w4.heap.size + 1) (.slice (some ⟨w4.heap.size + 1, 0, none⟩) 0 (0 + 1)) 0 [] from (by simpa using O5.out)); have sU := Lib.hid (show (w4.alloc (.cells #[.int .i64 a, .int .i64 cl, .int .i64 (-1)] 40)).heap.size = w4.heap.size + 1 from (by simp)); have K5 := Lib.hid k5.out; have a0 := (B3.out.old K5.out).c0; have a1 := (B3.out.old K5.out).c1; have x0 := (B9.out.old K5.out).c0; have x1 := (B9.out.old K5.out).c1; have x2 := (B9.out.old K5.out).c2; have l3 := Blk.lt (B3.out.old K5.out); have l9 := Blk.lt (B9.out.old K5.out); have B6' := Lib.hid (B6.out.old K5.out); have b0 := B6'.out.c0; have b1 := B6'.out.c1; have f0 := B6'.out.f0; have f1 := B6'.out.f1; have l6 := Blk.lt B6'.out; have u5 : w4.heap.size + 1 ≤ w5.heap.size := (by simpa using K5.out.size); have HR := Lib.hid (HR.out.old (K1.out.trans (KX.out.trans K5.out))); clear k5)
          | (at_builtin; (refine appS_wp rfl (.tmp 28) (.tmp 32) rfl rfl (w4.heap.size + 1) _ 0 [] rfl O5.out _ 0 _ [] rfl (RsS.nil _ _) (by intro h; first | cases h | (split at h <;> cases h)) (by omega) (by omega) u5 0 (by omega) [] rfl ?_); intro v6 w6 O6 k6 a6; have K6 := Lib.hid (O5.out.stepB (Nat.le_of_eq sU.out) K5.out k6.out); have a0 := (B3.out.old K6.out).c0; have a1 := (B3.out.old K6.out).c1; have x0 := (B9.out.old K6.out).c0; have x1 := (B9.out.old K6.out).c1; have x2 := (B9.out.old K6.out).c2; have l3 := Blk.lt (B3.out.old K6.out); have l9 := Blk.lt (B9.out.old K6.out); have B6' := Lib.hid (B6.out.old K6.out); have b0 := B6'.out.c0; have b1 := B6'.out.c1; have f0 := B6'.out.f0; have f1 := B6'.out.f1; have l6 := Blk.lt B6'.out; have u6 : w4.heap.size + 1 ≤ w6.heap.size := (by simpa using K6.out.size); clear k6 a6)
          | (at_builtin; refine appS_wp rfl (.tmp 34) (.tmp 36) rfl rfl (w4.heap.size + 1) v6 0 [] rfl (O6.out.alloc _) (some ⟨w6.heap.size, 0, none⟩) 1 1 [⟨a, cl, -1⟩] rfl (RsS.one w6 ⟨a, cl, -1⟩ HX.out _ rfl) (by intro h; cases h) (by omega) (by omega) (Nat.le_trans u6 ((Kept.refl Old w6).alloc _).size) (0 + 1) rfl ([] ++ [⟨a, cl, -1⟩]) rfl ?_; intro v7 w7 O7 k7 a7; have K7 := Lib.hid ((O6.out.alloc _).stepB (Nat.le_of_eq sU.out) (K6.out.alloc _) k7.out); have a0 := (B3.out.old K7.out).c0; have a1 := (B3.out.old K7.out).c1; have x0 := (B9.out.old K7.out).c0; have x1 := (B9.out.old K7.out).c1; have x2 := (B9.out.old K7.out).c2; have l3 := Blk.lt (B3.out.old K7.out); have l9 := Blk.lt (B9.out.old K7.out); have B6' := Lib.hid (B6.out.old K7.out); have b0 := B6'.out.c0; have b1 := B6'.out.c1; have f0 := B6'.out.f0; have f1 := B6'.out.f1; have l6 := Blk.lt B6'.out; have u7 : w4.heap.size + 1 ≤ w7.heap.size := (by simpa using K7.out.size); clear k7 a7))
        have HRB := Lib.hid (h0.old (K1.out.trans (KX.out.trans K7.out)))
        skip
        obtain ⟨Z, hZ⟩ : ∃ Z, Z = (w4.alloc (.cells #[.int .i64 a, .int .i64 cl, .int .i64 (-1)] 40)) := ⟨_, rfl⟩
        have ez : w4.heap.size + 1 = Z.heap.size := by rw [hZ, sU.out]
        rw [← hZ] at K7
        rw [ez] at O7
        have B3z := Lib.hid (show Bm Z _ _ _ from by rw [hZ]; exact B3.out)
        have B6z := Lib.hid (show Bm Z _ _ _ from by rw [hZ]; exact B6.out)
        have KZ := Lib.hid (show Kept Old w Z from by rw [hZ]; exact K1.out.trans KX.out)
        have lz : w.heap.size + 1 < Z.heap.size := by rw [hZ]; simp; omega
        clear hZ
        obtain ⟨A7, c7, rfl, _⟩ := O7.out.rs
        go_region_held3 (fun w' => w'.cell? ⟨w.heap.size, 0, none⟩ = some (.int .i64 W) ∧ w'.cell? ⟨w.heap.size, 1, none⟩ = some (.slice (some ad) 0 c))
          (first
            | (exact ⟨‹_›, ‹_›⟩)
            | (exact ⟨put_far ‹_› (Nat.ne_of_lt (Nat.lt_succ_self _)), put_far ‹_› (Nat.ne_of_lt (Nat.lt_succ_self _))⟩)
            | go_keep)
          (first
            | ((refine appS_step rfl (.tmp 40) (.tmp 44) rfl rfl Z.heap.size (.slice A7 (0 + 1) c7) (0 + 1) ([] ++ [⟨a, cl, -1⟩]) (by first | rfl | simp [Act.eval]) O7.out.drew _ 0 _ [] (by first | rfl | simp [Act.eval]) (RsS.nil _ _) (by intro h; first | cases h | (split at h <;> cases h)) (by omega) (by omega) (by first | exact u7z | exact K7.out.size) _ rfl _ rfl ?_); intro v8 w8 O8 k8 a8; obtain ⟨A8, c8, rfl, _⟩ := O8.out.rs; have K8 := Lib.hid (O7.out.drew.step K7.out.drew k8.out); have a0 := (B3z.out.old K8.out).c0; have a1 := (B3z.out.old K8.out).c1; have B6' := Lib.hid (B6z.out.old K8.out); have b0 := B6'.out.c0; have b1 := B6'.out.c1; have f0 := B6'.out.f0; have f1 := B6'.out.f1; clear k8 a8))
        go_wp2
        obtain ⟨V9, hV9, r0, r1, K9⟩ := Bm.end2 B6'.out (madeS_end O8.out K8.out) KZ.out (by omega) lz W
        rw [hV9]
        exact bodyPost_ret (v := .tuple #[.agg #[.int .i64 W, .slice A8 (0 + 1 + 0) c8], .bool true]) (by simp [results, Try.results20, go_sem, r0, r1]) rfl (PO.out _ _ (by simpa using K9))
    · obtain ⟨g, o, _, rfl, hg, _, _, _, _, _⟩ := h0.get (k := 0) (by omega)
      obtain ⟨A', hA'⟩ : ∃ A' : Option Addr, (if c = p then some (⟨g, o, none⟩ : Addr) else some ⟨g, o + p * 3, none⟩) = A' := ⟨_, rfl⟩
      have hA'' : A' ≠ none := by rw [← hA']; split <;> simp
      clear hA
      go_enter Try.func20, Try.ntmps20
      go_wp2_with (first
        | (go_at_call 32; refine C.out.mono ?_; rintro e w4 ⟨rfl, k4⟩; (have K1 := Lib.hid (K1.out.trans k4); have B3 := Lib.hid ((B3.out.old k4).alloc (.cells #[.int .i64 a, .int .i64 cl, .int .i64 (-1)] 40)); have B6 := Lib.hid ((B6.out.old k4).alloc (.cells #[.int .i64 a, .int .i64 cl, .int .i64 (-1)] 40)); have B9 := Lib.hid (BxS.new w4 ⟨a, cl, -1⟩); have KX := Lib.hid ((Kept.refl Old w4).alloc (.cells #[.int .i64 a, .int .i64 cl, .int .i64 (-1)] 40)); have s4 := k4.size; have l3 : w.heap.size < w4.heap.size := (by omega); have l6 : w.heap.size + 1 < w4.heap.size := (by omega); have a0 := cell_on k4 a0; have a1 := cell_on k4 a1); clear k4)
        | (at_make; refine make_wpS rfl _ _ rfl (w4.alloc (.cells #[.int .i64 a, .int .i64 cl, .int .i64 (-1)] 40)).heap.size (n + 1) _ rfl rfl (by omega) (by omega) (Nat.le_refl _) ?_; intro w5 O5 k5; have O5 := Lib.hid (show OwS w5 (w4.heap.size + 1) (.slice (some ⟨w4.heap.size + 1, 0, none⟩) 0 (n + 1)) 0 [] from (by simpa using O5.out)); have sU := Lib.hid (show (w4.alloc (.cells #[.int .i64 a, .int .i64 cl, .int .i64 (-1)] 40)).heap.size = w4.heap.size + 1 from (by simp)); have K5 := Lib.hid k5.out; have a0 := (B3.out.old K5.out).c0; have a1 := (B3.out.old K5.out).c1; have x0 := (B9.out.old K5.out).c0; have x1 := (B9.out.old K5.out).c1; have x2 := (B9.out.old K5.out).c2; have l3 := Blk.lt (B3.out.old K5.out); have l9 := Blk.lt (B9.out.old K5.out); have B6' := Lib.hid (B6.out.old K5.out); have b0 := B6'.out.c0; have b1 := B6'.out.c1; have f0 := B6'.out.f0; have f1 := B6'.out.f1; have l6 := Blk.lt B6'.out; have u5 : w4.heap.size + 1 ≤ w5.heap.size := (by simpa using K5.out.size); have HR := Lib.hid (HR.out.old (K1.out.trans (KX.out.trans K5.out))); clear k5)
        | (at_builtin; (refine appS_wp rfl (.tmp 28) (.tmp 32) rfl rfl (w4.heap.size + 1) _ 0 [] rfl O5.out (some ⟨g, o, none⟩) p c (l.take p) rfl (HR.out.take (by omega)) (fun h => by cases h) (by omega) (by omega) u5 p (by omega) (l.take p) rfl ?_); intro v6 w6 O6 k6 a6; have K6 := Lib.hid (O5.out.stepB (Nat.le_of_eq sU.out) K5.out k6.out); have a0 := (B3.out.old K6.out).c0; have a1 := (B3.out.old K6.out).c1; have x0 := (B9.out.old K6.out).c0; have x1 := (B9.out.old K6.out).c1; have x2 := (B9.out.old K6.out).c2; have l3 := Blk.lt (B3.out.old K6.out); have l9 := Blk.lt (B9.out.old K6.out); have B6' := Lib.hid (B6.out.old K6.out); have b0 := B6'.out.c0; have b1 := B6'.out.c1; have f0 := B6'.out.f0; have f1 := B6'.out.f1; have l6 := Blk.lt B6'.out; have u6 : w4.heap.size + 1 ≤ w6.heap.size := (by simpa using K6.out.size); clear k6 a6)
        | (at_builtin; refine appS_wp rfl (.tmp 34) (.tmp 36) rfl rfl (w4.heap.size + 1) v6 p (l.take p) rfl (O6.out.alloc _) (some ⟨w6.heap.size, 0, none⟩) 1 1 [⟨a, cl, -1⟩] rfl (RsS.one w6 ⟨a, cl, -1⟩ HX.out _ rfl) (by intro h; cases h) (by omega) (by omega) (Nat.le_trans u6 ((Kept.refl Old w6).alloc _).size) (p + 1) rfl ((l.take p) ++ [⟨a, cl, -1⟩]) rfl ?_; intro v7 w7 O7 k7 a7; have K7 := Lib.hid ((O6.out.alloc _).stepB (Nat.le_of_eq sU.out) (K6.out.alloc _) k7.out); have a0 := (B3.out.old K7.out).c0; have a1 := (B3.out.old K7.out).c1; have x0 := (B9.out.old K7.out).c0; have x1 := (B9.out.old K7.out).c1; have x2 := (B9.out.old K7.out).c2; have l3 := Blk.lt (B3.out.old K7.out); have l9 := Blk.lt (B9.out.old K7.out); have B6' := Lib.hid (B6.out.old K7.out); have b0 := B6'.out.c0; have b1 := B6'.out.c1; have f0 := B6'.out.f0; have f1 := B6'.out.f1; have l6 := Blk.lt B6'.out; have u7 : w4.heap.size + 1 ≤ w7.heap.size := (by simpa using K7.out.size); clear k7 a7))
      have HRB := Lib.hid (h0.old (K1.out.trans (KX.out.trans K7.out)))
      have RD := Lib.hid (HRB.out.tail (i := p) A' fun g' o' e h => by injection e with e; injection e with e1 e2; subst e1; subst e2; rw [← hA']; exact if_neg (by omega))
      obtain ⟨Z, hZ⟩ : ∃ Z, Z = (w4.alloc (.cells #[.int .i64 a, .int .i64 cl, .int .i64 (-1)] 40)) := ⟨_, rfl⟩
      have ez : w4.heap.size + 1 = Z.heap.size := by rw [hZ, sU.out]
      rw [← hZ] at K7
      rw [ez] at O7
      have B3z := Lib.hid (show Bm Z _ _ _ from by rw [hZ]; exact B3.out)
      have B6z := Lib.hid (show Bm Z _ _ _ from by rw [hZ]; exact B6.out)
      have KZ := Lib.hid (show Kept Old w Z from by rw [hZ]; exact K1.out.trans KX.out)
      have lz : w.heap.size + 1 < Z.heap.size := by rw [hZ]; simp; omega
      clear hZ
      obtain ⟨A7, c7, rfl, _⟩ := O7.out.rs
      go_region_held3 (fun w' => w'.cell? ⟨w.heap.size, 0, none⟩ = some (.int .i64 W) ∧ w'.cell? ⟨w.heap.size, 1, none⟩ = some (.slice (some ⟨g, o, none⟩) n c))
        (first
          | (exact ⟨‹_›, ‹_›⟩)
          | (exact ⟨put_far ‹_› (Nat.ne_of_lt (Nat.lt_succ_self _)), put_far ‹_› (Nat.ne_of_lt (Nat.lt_succ_self _))⟩)
          | go_keep)
        (first
          | ((refine appS_step rfl (.tmp 40) (.tmp 44) rfl rfl Z.heap.size (.slice A7 (p + 1) c7) (p + 1) ((l.take p) ++ [⟨a, cl, -1⟩]) (by first | rfl | simp [Act.eval]) O7.out.drew A' (n - p) (c - p) (l.drop p) (by first | rfl | simp [Act.eval]) RD.out.drew (fun h => absurd h hA'') (by omega) (by omega) (by first | exact u7z | exact K7.out.size) _ rfl _ rfl ?_); intro v8 w8 O8 k8 a8; obtain ⟨A8, c8, rfl, _⟩ := O8.out.rs; have K8 := Lib.hid (O7.out.drew.step K7.out.drew k8.out); have a0 := (B3z.out.old K8.out).c0; have a1 := (B3z.out.old K8.out).c1; have B6' := Lib.hid (B6z.out.old K8.out); have b0 := B6'.out.c0; have b1 := B6'.out.c1; have f0 := B6'.out.f0; have f1 := B6'.out.f1; clear k8 a8))
      go_wp2
      obtain ⟨V9, hV9, r0, r1, K9⟩ := Bm.end2 B6'.out (madeS_end O8.out K8.out) KZ.out (by omega) lz W
      rw [hV9]
      exact bodyPost_ret (v := .tuple #[.agg #[.int .i64 W, .slice A8 (p + 1 + (n - p)) c8], .bool true]) (by simp [results, Try.results20, go_sem, r0, r1]) rfl (PO.out _ _ (by simpa using K9))
end Go.Proofs.Ytmajgfpfbieakaa.Lm
