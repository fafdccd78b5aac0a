/-
  Joined texts of RunsPutb; own work.
-/
import Derived.Test.YtcndilpaijapkaaGreatRows
import Derived.WalkKit
import Derived.ProofKit
import Derived.OpenShut
import Derived.Outline
import Derived.Deep.Light
import Derived.Deep.QuietTactic
import Derived.BigQuiet
import Derived.IntWalk
import Derived.StillTailTactics
import Derived.RegionTactic
import Derived.Deep.RegionLaw
import Derived.ChangeAlike
import Derived.Deep.RegionHeld3
import Derived.Deep.CutRange
import Derived.Test.YtcndilpaijapkaaGreatJRuns
import Derived.Test.YtcndilpaijapkaaGreatJRunsPuta
/- What Put answers where the run may be put, way by way. Own work; each is proved by a walk through the landed text. -/
namespace Go.Proofs.YtcndilpaijapkaaGreat
open Go.ChangeShapes Go.WideShapes Go.ChangeAt Go.RowKit
set_option maxRecDepth 100000

set_option maxHeartbeats 8000000 in
theorem put_b2a0 (g o n c : Nat) (l : List R) (r x : R) (j : Nat) (w : World) (h : Rs w (some ⟨g, o, none⟩) n l) (hr : Right 256 0 l) (hc : n ≤ c) (hn : n ≤ 900) (hn0 : 0 < n) (h0 : 0 ≤ r.1) (h1 : 1 ≤ r.2) (h2 : r.1 + r.2 ≤ 256) (hp : Place l r (j + 1)) (hx : l[j]? = some x) (ex : x.1 + x.2 = r.1) (hin : j + 1 = n) (L : List R) (hL : (l.take j ++ [(x.1, x.2 + r.2)]) ++ l.drop (j + 1) = L) :
    Calls Tryz.prog 120 #[.slice (some ⟨g, o, none⟩) n c, run r] w (PutPost L w) := by
  have hL := Lib.hid hL
  have hjn := Lib.hid hin
  have hjx : j < n := by omega
  have hz : n - (j + 1) = 0 := by omega
  have bx := hr.at hx
  have lies := Lib.hid (show ∀ (k : Nat) (z : R), l[k]? = some z → w.cell? ⟨g, o + k * 2, none⟩ = some (.int .i64 z.1) ∧ w.cell? ⟨g, o + k * 2 + 1, none⟩ = some (.int .i64 z.2) from by
    obtain ⟨g', o', e, hg, cc⟩ := h.lies (by omega)
    injection e with e
    injection e with e1 e2
    subst e1
    subst e2
    exact cc)
  have cx := Lib.hid (lies.out _ _ hx)
  clear lies
  have HR := Lib.hid h
  have HT := Lib.hid hr
  have hp := Lib.hid hp
  have tx : (x.1 + x.2 == r.1) = true := by simp [ex]
  have ir := Lib.hid (show in64 x.1 ∧ in64 (x.2 + r.2) from ⟨⟨by omega, by omega⟩, ⟨by omega, by omega⟩⟩)
  have bj : (j : Int) + 1 ≤ 900 := by omega
  have hx := Lib.hid hx
  have e1 := Lib.hid (show in64 (x.2 + r.2) from ⟨by omega, by omega⟩)
  clear h hr ex hin
  go_enter Tryz.func120, Tryz.ntmps120
  go_wp2_with fail
  refine (lies_yes r _ h0 h1 h2).mono ?_
  rintro e w1 ⟨rfl, k1⟩
  have b := (Bx.new w r).old k1
  have x0 := b.c0
  have x1 := b.c1
  have B := Lib.hid b
  have K := Lib.hid (((Kept.refl Old w).alloc _).trans k1)
  clear k1 b
  go_wp2_with fail
  refine (place_ok _ n c l r (j + 1) _ (HR.out.old K.out) HT.out (by omega) h0 h1 h2 hp.out).mono ?_
  rintro e w2 ⟨rfl, k2⟩
  have B := Lib.hid (B.out.old k2)
  have K := Lib.hid (K.out.trans k2)
  clear k2 x0 x1
  have x0 := B.out.c0
  have x1 := B.out.c1
  generalize hs0 : w.heap.size = s0 at *
  have c0 := cell_on K.out cx.out.1
  have c1 := cell_on K.out cx.out.2
  have hjl' : j < n := by omega
  have hge : 0 ≤ (j : Int) + 1 := by omega
  have hle : (j : Int) + 1 ≤ (n : Int) := by have := hjl'; omega
  have hlc : (j : Int) + 1 ≤ (c : Int) := by omega
  have wj : IntKind.i64.wrap (j : Int) = (j : Int) := IntWalk.i64_in _ (by omega)
  have wj' : IntKind.i64.wrap ((j : Int) + 1 - 1) = (j : Int) := by rw [show (j : Int) + 1 - 1 = (j : Int) by omega]; exact wj
  have hjl : (j : Int) < (n : Int) := by omega
  by_cases hne : c = j + 1
  all_goals
    go_wp2_with fail
    go_quiet (fail)
    have B := Lib.hid (B.out.drewN nq)
    have K := Lib.hid (K.out.drewN nq)
    generalize w2.drewN nq = V at *
    clear x0 x1
    have x0 := B.out.c0
    have x1 := B.out.c1
    clear c0 c1
    have c0 := cell_on K.out cx.out.1
    have c1 := cell_on K.out cx.out.2
    go_wp2_with fail
    have kw := Kept.refl Old V
    go_region_held3 (fun w' => Kept Old V w' ∧ w'.cell? ⟨s0, 0, none⟩ = some (.int .i64 r.1) ∧ w'.cell? ⟨s0, 1, none⟩ = some (.int .i64 r.2) ∧ w'.cell? ⟨g, o + j * 2, none⟩ = some (.int .i64 x.1) ∧ w'.cell? ⟨g, o + j * 2 + 1, none⟩ = some (.int .i64 x.2))
      (first
        | (exact ⟨‹_›, ‹_›, ‹_›, ‹_›, ‹_›⟩)
        | (exact ⟨Kept.drew ‹_›, ‹_›, ‹_›, ‹_›, ‹_›⟩)
        | (go_split_ands; exact ⟨Kept.trans ‹_› k1, cell_on k1 ‹_›, cell_on k1 ‹_›, cell_on k1 ‹_›, cell_on k1 ‹_›⟩)
        | go_keep)
      (first
        | (go_at_call 146; refine (end_any x _ ⟨by omega, by omega⟩).mono ?_; rintro e w' ⟨rfl, k1⟩))
    obtain ⟨kw', x0', x1', c0', c1'⟩ := ‹Kept Old V _ ∧ _›
    rename World => W
    have B := Lib.hid (B.out.old kw')
    have K := Lib.hid (K.out.trans kw')
    clear kw kw' x0 x1 c0 c1
    go_wp2_with fail
    go_still_tail 6, (by kernel_rfl)
    change wpList _ _ _ _ _ W.drew
    clear x0' x1' c0' c1'
    go_wp2_with fail
    refine (join_any x r _ e1.out).mono ?_
    rintro e w3 ⟨rfl, k3⟩
    have B := Lib.hid (B.out.drew.old k3)
    have K := Lib.hid ((K.out.drew).trans k3)
    have f0 := Blk.frozen B.out 0
    have f1 := Blk.frozen B.out 1
    have x0 := B.out.c0
    have x1 := B.out.c1
    clear k3
    go_wp2_with fail
    have B := Lib.hid (B.out.put2 x.1 (x.2 + r.2))
    have K := Lib.hid (Bx.kept2 (b := s0) K.out (by omega) (.int .i64 x.1) (.int .i64 (x.2 + r.2)))
    generalize ((w3.setCell ⟨s0, 0, none⟩ (.int .i64 x.1)).setCell ⟨s0, 1, none⟩ (.int .i64 (x.2 + r.2))) = W3 at *
    clear f0 f1 x0 x1
    go_quiet (fail)
    have B := Lib.hid (B.out.drewN nq)
    have K := Lib.hid (K.out.drewN nq)
    generalize W3.drewN nq = U at *
    go_upto_region 13 with fail
    all_goals go_wp2_with (first | (at_make; go_loud (refine make_wp rfl _ _ rfl (s0 + 1) (j + 1) _ rfl rfl (by omega) (by omega) (Blk.lt B.out) ?_); intro w5 O5 k5; have B5 := Lib.hid (B.out.old k5.out); have K5 := Lib.hid (K.out.trans k5.out); have z5 := Lib.hid (Blk.lt B5.out); clear k5) | (at_builtin; refine app_wp rfl (.tmp 78) (.tmp 79) rfl rfl (s0 + 1) (.slice (some ⟨U.heap.size, 0, none⟩) 0 (j + 1)) 0 [] rfl O5.out (some ⟨g, o, none⟩) j _ (l.take j) rfl ((HR.out.old K5.out).take (by omega)) (by intro h; cases h) (by omega) (by omega) z5.out j (by omega) (l.take j) rfl ?_; intro v6 w6 O6 k6 a6; have B6 := Lib.hid (O5.out.box k6.out B5.out); have K6 := Lib.hid (O5.out.stepB (by omega) K5.out k6.out); have X0 : w6.cell? ⟨s0, 0, none⟩ = some (.int .i64 x.1) := B6.out.c0; have X1 : w6.cell? ⟨s0, 1, none⟩ = some (.int .i64 (x.2 + r.2)) := B6.out.c1; have z6 := Lib.hid (Blk.lt B6.out); clear k6 a6) | (at_builtin; refine app_wp rfl (.tmp 81) (.tmp 83) rfl rfl (s0 + 1) v6 j (l.take j) rfl (O6.out.alloc _) (some ⟨w6.heap.size, 0, none⟩) 1 1 [(x.1, x.2 + r.2)] rfl (Rs.one w6 (x.1, x.2 + r.2) ir.out.1 ir.out.2 _ rfl) (by intro h; cases h) (by omega) (by omega) (Nat.le_trans z6.out ((Kept.refl Old w6).alloc _).size) (j + 1) rfl (l.take j ++ [(x.1, x.2 + r.2)]) rfl ?_; intro v7 w7 O7 k7 a7; have K7 := Lib.hid ((O6.out.alloc _).stepB (by omega) (K6.out.alloc _) k7.out); have z7 := Lib.hid (Nat.le_trans (Nat.le_trans z6.out ((Kept.refl Old w6).alloc _).size) k7.out.size); clear k7 a7) | (at_builtin; refine app_wp rfl (.tmp 85) (.tmp 86) rfl rfl (s0 + 1) v7 (j + 1) (l.take j ++ [(x.1, x.2 + r.2)]) rfl O7.out _ _ _ (l.drop (j + 1)) rfl (Rs.dropTo (HR.out.old K7.out) (j + 1) (by omega) (by intro h; have := hjn.out; omega)) (by intro h; first | cases h | (split at h <;> cases h)) (by omega) (by omega) z7.out _ rfl L hL.out ?_; intro v8 w8 O8 k8 a8; have K8 := Lib.hid (O7.out.stepB (by omega) K7.out k8.out); have P := Lib.hid (show PutPost L w (.returned (.tuple #[v8, .int .i64 0])) w8 from ⟨v8, rfl, made_end O8.out K8.out⟩); clear k8 a8))
    all_goals go_ret2
    all_goals exact P.out
end Go.Proofs.YtcndilpaijapkaaGreat
/- What Put answers where the run may be put, way by way. Own work; each is proved by a walk through the landed text. -/
namespace Go.Proofs.YtcndilpaijapkaaGreat
open Go.ChangeShapes Go.WideShapes Go.ChangeAt Go.RowKit
set_option maxRecDepth 100000

set_option maxHeartbeats 8000000 in
theorem put_b2a1 (g o n c : Nat) (l : List R) (r x y : R) (j : Nat) (w : World) (h : Rs w (some ⟨g, o, none⟩) n l) (hr : Right 256 0 l) (hc : n ≤ c) (hn : n ≤ 900) (hn0 : 0 < n) (h0 : 0 ≤ r.1) (h1 : 1 ≤ r.2) (h2 : r.1 + r.2 ≤ 256) (hp : Place l r (j + 1)) (hx : l[j]? = some x) (ex : x.1 + x.2 = r.1) (hy : l[j + 1]? = some y) (ey : r.1 + r.2 ≠ y.1) (L : List R) (hL : (l.take j ++ [(x.1, x.2 + r.2)]) ++ l.drop (j + 1) = L) :
    Calls Tryz.prog 120 #[.slice (some ⟨g, o, none⟩) n c, run r] w (PutPost L w) := by
  have hL := Lib.hid hL
  have hjn : j + 1 < n := get_len h hy
  have bx := hr.at hx
  have by_ := hr.at hy
  have lies := Lib.hid (show ∀ (k : Nat) (z : R), l[k]? = some z → w.cell? ⟨g, o + k * 2, none⟩ = some (.int .i64 z.1) ∧ w.cell? ⟨g, o + k * 2 + 1, none⟩ = some (.int .i64 z.2) from by
    obtain ⟨g', o', e, hg, cc⟩ := h.lies (by omega)
    injection e with e
    injection e with e1 e2
    subst e1
    subst e2
    exact cc)
  have cx := Lib.hid (lies.out _ _ hx)
  have cy := Lib.hid (lies.out _ _ hy)
  clear lies
  have HR := Lib.hid h
  have HT := Lib.hid hr
  have hp := Lib.hid hp
  have tx : (x.1 + x.2 == r.1) = true := by simp [ex]
  have ty : (x.1 + (x.2 + r.2) == y.1) = false := by simp; omega
  have ir := Lib.hid (show in64 x.1 ∧ in64 (x.2 + r.2) from ⟨⟨by omega, by omega⟩, ⟨by omega, by omega⟩⟩)
  have bj : (j : Int) + 1 ≤ 900 := by omega
  have hx := Lib.hid hx
  have e1 := Lib.hid (show in64 (x.2 + r.2) from ⟨by omega, by omega⟩)
  have hy := Lib.hid hy
  have e2 := Lib.hid (show in64 (x.1 + (x.2 + r.2)) from ⟨by omega, by omega⟩)
  clear h hr ex ey
  go_enter Tryz.func120, Tryz.ntmps120
  go_wp2_with fail
  refine (lies_yes r _ h0 h1 h2).mono ?_
  rintro e w1 ⟨rfl, k1⟩
  have b := (Bx.new w r).old k1
  have x0 := b.c0
  have x1 := b.c1
  have B := Lib.hid b
  have K := Lib.hid (((Kept.refl Old w).alloc _).trans k1)
  clear k1 b
  go_wp2_with fail
  refine (place_ok _ n c l r (j + 1) _ (HR.out.old K.out) HT.out (by omega) h0 h1 h2 hp.out).mono ?_
  rintro e w2 ⟨rfl, k2⟩
  have B := Lib.hid (B.out.old k2)
  have K := Lib.hid (K.out.trans k2)
  clear k2 x0 x1
  have x0 := B.out.c0
  have x1 := B.out.c1
  generalize hs0 : w.heap.size = s0 at *
  have c0 := cell_on K.out cx.out.1
  have c1 := cell_on K.out cx.out.2
  have hjl' : j < n := by omega
  have hge : 0 ≤ (j : Int) + 1 := by omega
  have hle : (j : Int) + 1 ≤ (n : Int) := by have := hjl'; omega
  have hlc : (j : Int) + 1 ≤ (c : Int) := by omega
  have wj : IntKind.i64.wrap (j : Int) = (j : Int) := IntWalk.i64_in _ (by omega)
  have wj' : IntKind.i64.wrap ((j : Int) + 1 - 1) = (j : Int) := by rw [show (j : Int) + 1 - 1 = (j : Int) by omega]; exact wj
  have hjl : (j : Int) < (n : Int) := by omega
  have hne : ¬ c = j + 1 := by omega
  go_wp2_with fail
  go_quiet (fail)
  have B := Lib.hid (B.out.drewN nq)
  have K := Lib.hid (K.out.drewN nq)
  generalize w2.drewN nq = V at *
  clear x0 x1
  have x0 := B.out.c0
  have x1 := B.out.c1
  clear c0 c1
  have c0 := cell_on K.out cx.out.1
  have c1 := cell_on K.out cx.out.2
  go_wp2_with fail
  have kw := Kept.refl Old V
  go_region_held3 (fun w' => Kept Old V w' ∧ w'.cell? ⟨s0, 0, none⟩ = some (.int .i64 r.1) ∧ w'.cell? ⟨s0, 1, none⟩ = some (.int .i64 r.2) ∧ w'.cell? ⟨g, o + j * 2, none⟩ = some (.int .i64 x.1) ∧ w'.cell? ⟨g, o + j * 2 + 1, none⟩ = some (.int .i64 x.2))
    (first
      | (exact ⟨‹_›, ‹_›, ‹_›, ‹_›, ‹_›⟩)
      | (exact ⟨Kept.drew ‹_›, ‹_›, ‹_›, ‹_›, ‹_›⟩)
      | (go_split_ands; exact ⟨Kept.trans ‹_› k1, cell_on k1 ‹_›, cell_on k1 ‹_›, cell_on k1 ‹_›, cell_on k1 ‹_›⟩)
      | go_keep)
    (first
      | (go_at_call 146; refine (end_any x _ ⟨by omega, by omega⟩).mono ?_; rintro e w' ⟨rfl, k1⟩))
  obtain ⟨kw', x0', x1', c0', c1'⟩ := ‹Kept Old V _ ∧ _›
  rename World => W
  have B := Lib.hid (B.out.old kw')
  have K := Lib.hid (K.out.trans kw')
  clear kw kw' x0 x1 c0 c1
  go_wp2_with fail
  go_still_tail 6, (by kernel_rfl)
  change wpList _ _ _ _ _ W.drew
  clear x0' x1' c0' c1'
  go_wp2_with fail
  refine (join_any x r _ e1.out).mono ?_
  rintro e w3 ⟨rfl, k3⟩
  have B := Lib.hid (B.out.drew.old k3)
  have K := Lib.hid ((K.out.drew).trans k3)
  have f0 := Blk.frozen B.out 0
  have f1 := Blk.frozen B.out 1
  have x0 := B.out.c0
  have x1 := B.out.c1
  clear k3
  go_wp2_with fail
  have B := Lib.hid (B.out.put2 x.1 (x.2 + r.2))
  have K := Lib.hid (Bx.kept2 (b := s0) K.out (by omega) (.int .i64 x.1) (.int .i64 (x.2 + r.2)))
  generalize ((w3.setCell ⟨s0, 0, none⟩ (.int .i64 x.1)).setCell ⟨s0, 1, none⟩ (.int .i64 (x.2 + r.2))) = W3 at *
  clear f0 f1 x0 x1
  have kw := Kept.refl Old W3
  have x0 : W3.cell? ⟨s0, 0, none⟩ = some (.int .i64 x.1) := B.out.c0
  have x1 : W3.cell? ⟨s0, 1, none⟩ = some (.int .i64 (x.2 + r.2)) := B.out.c1
  have y0 := cell_on K.out cy.out.1
  have y1 := cell_on K.out cy.out.2
  have hlen : 0 < n - (j + 1) := by omega
  have hlen' : (0 : Int) < ((n - (j + 1) : Nat) : Int) := by omega
  go_region_held3 (fun w' => Kept Old W3 w' ∧ w'.cell? ⟨s0, 0, none⟩ = some (.int .i64 x.1) ∧ w'.cell? ⟨s0, 1, none⟩ = some (.int .i64 (x.2 + r.2)) ∧ w'.cell? ⟨g, o + (j + 1) * 2, none⟩ = some (.int .i64 y.1) ∧ w'.cell? ⟨g, o + (j + 1) * 2 + 1, none⟩ = some (.int .i64 y.2))
    (first
      | (exact ⟨‹_›, ‹_›, ‹_›, ‹_›, ‹_›⟩)
      | (exact ⟨Kept.drew ‹_›, ‹_›, ‹_›, ‹_›, ‹_›⟩)
      | (go_split_ands; exact ⟨Kept.trans ‹_› k1, cell_on k1 ‹_›, cell_on k1 ‹_›, cell_on k1 ‹_›, cell_on k1 ‹_›⟩)
      | go_keep)
    (first
      | (go_at_call 146; refine (end_any (x.1, x.2 + r.2) _ e2.out).mono ?_; rintro e w' ⟨rfl, k1⟩))
  obtain ⟨kw', x0', x1', y0', y1'⟩ := ‹Kept Old W3 _ ∧ _›
  rename World => U
  have B := Lib.hid (B.out.old kw')
  have K := Lib.hid (K.out.trans kw')
  clear kw kw' x0 x1 y0 y1
  clear x0' x1' y0' y1'
  go_upto_region 13 with fail
  all_goals go_wp2_with (first | (at_make; go_loud (refine make_wp rfl _ _ rfl (s0 + 1) (j + 1 + (n - (j + 1))) _ rfl rfl (by omega) (by omega) (Blk.lt B.out) ?_); intro w5 O5 k5; have B5 := Lib.hid (B.out.old k5.out); have K5 := Lib.hid (K.out.trans k5.out); have z5 := Lib.hid (Blk.lt B5.out); clear k5) | (at_builtin; refine app_wp rfl (.tmp 78) (.tmp 79) rfl rfl (s0 + 1) (.slice (some ⟨U.heap.size, 0, none⟩) 0 (j + 1 + (n - (j + 1)))) 0 [] rfl O5.out (some ⟨g, o, none⟩) j _ (l.take j) rfl ((HR.out.old K5.out).take (by omega)) (by intro h; cases h) (by omega) (by omega) z5.out j (by omega) (l.take j) rfl ?_; intro v6 w6 O6 k6 a6; have B6 := Lib.hid (O5.out.box k6.out B5.out); have K6 := Lib.hid (O5.out.stepB (by omega) K5.out k6.out); have X0 : w6.cell? ⟨s0, 0, none⟩ = some (.int .i64 x.1) := B6.out.c0; have X1 : w6.cell? ⟨s0, 1, none⟩ = some (.int .i64 (x.2 + r.2)) := B6.out.c1; have z6 := Lib.hid (Blk.lt B6.out); clear k6 a6) | (at_builtin; refine app_wp rfl (.tmp 81) (.tmp 83) rfl rfl (s0 + 1) v6 j (l.take j) rfl (O6.out.alloc _) (some ⟨w6.heap.size, 0, none⟩) 1 1 [(x.1, x.2 + r.2)] rfl (Rs.one w6 (x.1, x.2 + r.2) ir.out.1 ir.out.2 _ rfl) (by intro h; cases h) (by omega) (by omega) (Nat.le_trans z6.out ((Kept.refl Old w6).alloc _).size) (j + 1) rfl (l.take j ++ [(x.1, x.2 + r.2)]) rfl ?_; intro v7 w7 O7 k7 a7; have K7 := Lib.hid ((O6.out.alloc _).stepB (by omega) (K6.out.alloc _) k7.out); have z7 := Lib.hid (Nat.le_trans (Nat.le_trans z6.out ((Kept.refl Old w6).alloc _).size) k7.out.size); clear k7 a7) | (at_builtin; refine app_wp rfl (.tmp 85) (.tmp 86) rfl rfl (s0 + 1) v7 (j + 1) (l.take j ++ [(x.1, x.2 + r.2)]) rfl O7.out _ _ _ (l.drop (j + 1)) rfl (Rs.dropTo (HR.out.old K7.out) (j + 1) (by omega) (by intro h; first | rfl | omega | exact congrArg (fun z => some (⟨g, z, none⟩ : Addr)) (by omega))) (by intro h; first | cases h | (split at h <;> cases h)) (by omega) (by omega) z7.out _ rfl L hL.out ?_; intro v8 w8 O8 k8 a8; have K8 := Lib.hid (O7.out.stepB (by omega) K7.out k8.out); have P := Lib.hid (show PutPost L w (.returned (.tuple #[v8, .int .i64 0])) w8 from ⟨v8, rfl, made_end O8.out K8.out⟩); clear k8 a8))
  all_goals go_ret2
  all_goals exact P.out
end Go.Proofs.YtcndilpaijapkaaGreat
/- What Put answers where the run may be put, way by way. Own work; each is proved by a walk through the landed text. -/
namespace Go.Proofs.YtcndilpaijapkaaGreat
open Go.ChangeShapes Go.WideShapes Go.ChangeAt Go.RowKit
set_option maxRecDepth 100000

set_option maxHeartbeats 8000000 in
theorem put_b2a2 (g o n c : Nat) (l : List R) (r x y : R) (j : Nat) (w : World) (h : Rs w (some ⟨g, o, none⟩) n l) (hr : Right 256 0 l) (hc : n ≤ c) (hn : n ≤ 900) (hn0 : 0 < n) (h0 : 0 ≤ r.1) (h1 : 1 ≤ r.2) (h2 : r.1 + r.2 ≤ 256) (hp : Place l r (j + 1)) (hx : l[j]? = some x) (ex : x.1 + x.2 = r.1) (hy : l[j + 1]? = some y) (ey : r.1 + r.2 = y.1) (L : List R) (hL : (l.take j ++ [(x.1, (x.2 + r.2) + y.2)]) ++ l.drop ((j + 1) + 1) = L) :
    Calls Tryz.prog 120 #[.slice (some ⟨g, o, none⟩) n c, run r] w (PutPost L w) := by
  have hL := Lib.hid hL
  have hjn : j + 1 < n := get_len h hy
  have bx := hr.at hx
  have by_ := hr.at hy
  have lies := Lib.hid (show ∀ (k : Nat) (z : R), l[k]? = some z → w.cell? ⟨g, o + k * 2, none⟩ = some (.int .i64 z.1) ∧ w.cell? ⟨g, o + k * 2 + 1, none⟩ = some (.int .i64 z.2) from by
    obtain ⟨g', o', e, hg, cc⟩ := h.lies (by omega)
    injection e with e
    injection e with e1 e2
    subst e1
    subst e2
    exact cc)
  have cx := Lib.hid (lies.out _ _ hx)
  have cy := Lib.hid (lies.out _ _ hy)
  clear lies
  have HR := Lib.hid h
  have HT := Lib.hid hr
  have hp := Lib.hid hp
  have tx : (x.1 + x.2 == r.1) = true := by simp [ex]
  have ty : (x.1 + (x.2 + r.2) == y.1) = true := by simp; omega
  have ir := Lib.hid (show in64 x.1 ∧ in64 ((x.2 + r.2) + y.2) from ⟨⟨by omega, by omega⟩, ⟨by omega, by omega⟩⟩)
  have bj : (j : Int) + 1 ≤ 900 := by omega
  have hx := Lib.hid hx
  have e1 := Lib.hid (show in64 (x.2 + r.2) from ⟨by omega, by omega⟩)
  have hy := Lib.hid hy
  have e2 := Lib.hid (show in64 (x.1 + (x.2 + r.2)) from ⟨by omega, by omega⟩)
  have e3 := Lib.hid (show in64 ((x.2 + r.2) + y.2) from ⟨by omega, by omega⟩)
  clear h hr ex ey
  go_enter Tryz.func120, Tryz.ntmps120
  go_wp2_with fail
  refine (lies_yes r _ h0 h1 h2).mono ?_
  rintro e w1 ⟨rfl, k1⟩
  have b := (Bx.new w r).old k1
  have x0 := b.c0
  have x1 := b.c1
  have B := Lib.hid b
  have K := Lib.hid (((Kept.refl Old w).alloc _).trans k1)
  clear k1 b
  go_wp2_with fail
  refine (place_ok _ n c l r (j + 1) _ (HR.out.old K.out) HT.out (by omega) h0 h1 h2 hp.out).mono ?_
  rintro e w2 ⟨rfl, k2⟩
  have B := Lib.hid (B.out.old k2)
  have K := Lib.hid (K.out.trans k2)
  clear k2 x0 x1
  have x0 := B.out.c0
  have x1 := B.out.c1
  generalize hs0 : w.heap.size = s0 at *
  have c0 := cell_on K.out cx.out.1
  have c1 := cell_on K.out cx.out.2
  have hjl' : j < n := by omega
  have hge : 0 ≤ (j : Int) + 1 := by omega
  have hle : (j : Int) + 1 ≤ (n : Int) := by have := hjl'; omega
  have hlc : (j : Int) + 1 ≤ (c : Int) := by omega
  have wj : IntKind.i64.wrap (j : Int) = (j : Int) := IntWalk.i64_in _ (by omega)
  have wj' : IntKind.i64.wrap ((j : Int) + 1 - 1) = (j : Int) := by rw [show (j : Int) + 1 - 1 = (j : Int) by omega]; exact wj
  have hjl : (j : Int) < (n : Int) := by omega
  have hne : ¬ c = j + 1 := by omega
  go_wp2_with fail
  go_quiet (fail)
  have B := Lib.hid (B.out.drewN nq)
  have K := Lib.hid (K.out.drewN nq)
  generalize w2.drewN nq = V at *
  clear x0 x1
  have x0 := B.out.c0
  have x1 := B.out.c1
  clear c0 c1
  have c0 := cell_on K.out cx.out.1
  have c1 := cell_on K.out cx.out.2
  go_wp2_with fail
  have kw := Kept.refl Old V
  go_region_held3 (fun w' => Kept Old V w' ∧ w'.cell? ⟨s0, 0, none⟩ = some (.int .i64 r.1) ∧ w'.cell? ⟨s0, 1, none⟩ = some (.int .i64 r.2) ∧ w'.cell? ⟨g, o + j * 2, none⟩ = some (.int .i64 x.1) ∧ w'.cell? ⟨g, o + j * 2 + 1, none⟩ = some (.int .i64 x.2))
    (first
      | (exact ⟨‹_›, ‹_›, ‹_›, ‹_›, ‹_›⟩)
      | (exact ⟨Kept.drew ‹_›, ‹_›, ‹_›, ‹_›, ‹_›⟩)
      | (go_split_ands; exact ⟨Kept.trans ‹_› k1, cell_on k1 ‹_›, cell_on k1 ‹_›, cell_on k1 ‹_›, cell_on k1 ‹_›⟩)
      | go_keep)
    (first
      | (go_at_call 146; refine (end_any x _ ⟨by omega, by omega⟩).mono ?_; rintro e w' ⟨rfl, k1⟩))
  obtain ⟨kw', x0', x1', c0', c1'⟩ := ‹Kept Old V _ ∧ _›
  rename World => W
  have B := Lib.hid (B.out.old kw')
  have K := Lib.hid (K.out.trans kw')
  clear kw kw' x0 x1 c0 c1
  go_wp2_with fail
  go_still_tail 6, (by kernel_rfl)
  change wpList _ _ _ _ _ W.drew
  clear x0' x1' c0' c1'
  go_wp2_with fail
  refine (join_any x r _ e1.out).mono ?_
  rintro e w3 ⟨rfl, k3⟩
  have B := Lib.hid (B.out.drew.old k3)
  have K := Lib.hid ((K.out.drew).trans k3)
  have f0 := Blk.frozen B.out 0
  have f1 := Blk.frozen B.out 1
  have x0 := B.out.c0
  have x1 := B.out.c1
  clear k3
  go_wp2_with fail
  have B := Lib.hid (B.out.put2 x.1 (x.2 + r.2))
  have K := Lib.hid (Bx.kept2 (b := s0) K.out (by omega) (.int .i64 x.1) (.int .i64 (x.2 + r.2)))
  generalize ((w3.setCell ⟨s0, 0, none⟩ (.int .i64 x.1)).setCell ⟨s0, 1, none⟩ (.int .i64 (x.2 + r.2))) = W3 at *
  clear f0 f1 x0 x1
  have kw := Kept.refl Old W3
  have x0 : W3.cell? ⟨s0, 0, none⟩ = some (.int .i64 x.1) := B.out.c0
  have x1 : W3.cell? ⟨s0, 1, none⟩ = some (.int .i64 (x.2 + r.2)) := B.out.c1
  have y0 := cell_on K.out cy.out.1
  have y1 := cell_on K.out cy.out.2
  have hlen : 0 < n - (j + 1) := by omega
  have hlen' : (0 : Int) < ((n - (j + 1) : Nat) : Int) := by omega
  go_region_held3 (fun w' => Kept Old W3 w' ∧ w'.cell? ⟨s0, 0, none⟩ = some (.int .i64 x.1) ∧ w'.cell? ⟨s0, 1, none⟩ = some (.int .i64 (x.2 + r.2)) ∧ w'.cell? ⟨g, o + (j + 1) * 2, none⟩ = some (.int .i64 y.1) ∧ w'.cell? ⟨g, o + (j + 1) * 2 + 1, none⟩ = some (.int .i64 y.2))
    (first
      | (exact ⟨‹_›, ‹_›, ‹_›, ‹_›, ‹_›⟩)
      | (exact ⟨Kept.drew ‹_›, ‹_›, ‹_›, ‹_›, ‹_›⟩)
      | (go_split_ands; exact ⟨Kept.trans ‹_› k1, cell_on k1 ‹_›, cell_on k1 ‹_›, cell_on k1 ‹_›, cell_on k1 ‹_›⟩)
      | go_keep)
    (first
      | (go_at_call 146; refine (end_any (x.1, x.2 + r.2) _ e2.out).mono ?_; rintro e w' ⟨rfl, k1⟩))
  obtain ⟨kw', x0', x1', y0', y1'⟩ := ‹Kept Old W3 _ ∧ _›
  rename World => U
  have B := Lib.hid (B.out.old kw')
  have K := Lib.hid (K.out.trans kw')
  clear kw kw' x0 x1 y0 y1
  go_wp2_with fail
  go_still_tail 4, (by kernel_rfl)
  change wpList _ _ _ _ _ U.drew
  clear x0' x1' y0' y1'
  go_wp2_with fail
  refine (join_any (x.1, x.2 + r.2) y _ e3.out).mono ?_
  rintro e w4 ⟨rfl, k4⟩
  have B := Lib.hid (B.out.drew.old k4)
  have K := Lib.hid ((K.out.drew).trans k4)
  have f0 := Blk.frozen B.out 0
  have f1 := Blk.frozen B.out 1
  have x0 : w4.cell? ⟨s0, 0, none⟩ = some (.int .i64 x.1) := B.out.c0
  have x1 : w4.cell? ⟨s0, 1, none⟩ = some (.int .i64 (x.2 + r.2)) := B.out.c1
  clear k4
  have B := Lib.hid (B.out.put2 x.1 ((x.2 + r.2) + y.2))
  have K := Lib.hid (Bx.kept2 (b := s0) K.out (by omega) (.int .i64 x.1) (.int .i64 ((x.2 + r.2) + y.2)))
  go_upto_region 13 with fail
  all_goals generalize ((w4.setCell ⟨s0, 0, none⟩ (.int .i64 x.1)).setCell ⟨s0, 1, none⟩ (.int .i64 ((x.2 + r.2) + y.2))) = U2 at *
  all_goals clear f0 f1 x0 x1
  all_goals go_wp2_with (first | (at_make; go_loud (refine make_wp rfl _ _ rfl (s0 + 1) (j + 1 + (n - (j + 1) - 1)) _ rfl rfl (by omega) (by omega) (Blk.lt B.out) ?_); intro w5 O5 k5; have B5 := Lib.hid (B.out.old k5.out); have K5 := Lib.hid (K.out.trans k5.out); have z5 := Lib.hid (Blk.lt B5.out); clear k5) | (at_builtin; refine app_wp rfl (.tmp 78) (.tmp 79) rfl rfl (s0 + 1) (.slice (some ⟨U2.heap.size, 0, none⟩) 0 (j + 1 + (n - (j + 1) - 1))) 0 [] rfl O5.out (some ⟨g, o, none⟩) j _ (l.take j) rfl ((HR.out.old K5.out).take (by omega)) (by intro h; cases h) (by omega) (by omega) z5.out j (by omega) (l.take j) rfl ?_; intro v6 w6 O6 k6 a6; have B6 := Lib.hid (O5.out.box k6.out B5.out); have K6 := Lib.hid (O5.out.stepB (by omega) K5.out k6.out); have X0 : w6.cell? ⟨s0, 0, none⟩ = some (.int .i64 x.1) := B6.out.c0; have X1 : w6.cell? ⟨s0, 1, none⟩ = some (.int .i64 ((x.2 + r.2) + y.2)) := B6.out.c1; have z6 := Lib.hid (Blk.lt B6.out); clear k6 a6) | (at_builtin; refine app_wp rfl (.tmp 81) (.tmp 83) rfl rfl (s0 + 1) v6 j (l.take j) rfl (O6.out.alloc _) (some ⟨w6.heap.size, 0, none⟩) 1 1 [(x.1, (x.2 + r.2) + y.2)] rfl (Rs.one w6 (x.1, (x.2 + r.2) + y.2) ir.out.1 ir.out.2 _ rfl) (by intro h; cases h) (by omega) (by omega) (Nat.le_trans z6.out ((Kept.refl Old w6).alloc _).size) (j + 1) rfl (l.take j ++ [(x.1, (x.2 + r.2) + y.2)]) rfl ?_; intro v7 w7 O7 k7 a7; have K7 := Lib.hid ((O6.out.alloc _).stepB (by omega) (K6.out.alloc _) k7.out); have z7 := Lib.hid (Nat.le_trans (Nat.le_trans z6.out ((Kept.refl Old w6).alloc _).size) k7.out.size); clear k7 a7) | (at_builtin; refine app_wp rfl (.tmp 85) (.tmp 86) rfl rfl (s0 + 1) v7 (j + 1) (l.take j ++ [(x.1, (x.2 + r.2) + y.2)]) rfl O7.out _ _ _ (l.drop ((j + 1) + 1)) rfl (Rs.dropTo (HR.out.old K7.out) (j + 1 + 1) (by omega) (by intro h; exact (if_neg (by omega)).trans (by first | rfl | (rw [show o + (j + 1 + 1) * 2 = o + (j + 1) * 2 + 2 by omega])))) (by intro h; first | cases h | (split at h <;> cases h)) (by omega) (by omega) z7.out _ rfl L hL.out ?_; intro v8 w8 O8 k8 a8; have K8 := Lib.hid (O7.out.stepB (by omega) K7.out k8.out); have P := Lib.hid (show PutPost L w (.returned (.tuple #[v8, .int .i64 0])) w8 from ⟨v8, rfl, made_end O8.out K8.out⟩); clear k8 a8))
  all_goals go_ret2
  all_goals exact P.out
end Go.Proofs.YtcndilpaijapkaaGreat
/- What Put answers where the run may be put, all ways together. Own work; each is proved by a walk through the landed text. -/
namespace Go.Proofs.YtcndilpaijapkaaGreat
open Go.ChangeShapes Go.WideShapes Go.ChangeAt Go.RowKit
set_option maxRecDepth 100000

theorem lo_strict {l : List R} {r x : R} {j : Nat} (hr : Right 256 0 l) (hp : Place l r (j + 1)) (hx : l[j]? = some x) (ne : x.1 + x.2 ≠ r.1) : ∀ y ∈ l.take (j + 1), y.1 + y.2 < r.1 := by
  intro y hy
  have bx := hr.at hx
  have hxm : x ∈ l.take (j + 1) := by rw [take_snoc hx]; simp
  have q := hp.lo x hxm
  rw [take_snoc hx] at hy
  rcases List.mem_append.1 hy with hy | hy
  · rw [split_at hx] at hr
    obtain ⟨h1, a0, a1, a2, a3, h2⟩ := right_append.1 hr
    have := lastF_mem h1 y hy
    omega
  · obtain rfl := List.mem_singleton.1 hy
    omega
theorem put_ok (A : Option Addr) (n c : Nat) (l : List R) (r : R) (w : World) (h : Rs w A n l) (hr : Right 256 0 l) (hc : n ≤ c) (hA : A = none → c = 0) (hn : n ≤ 900) (h0 : 0 ≤ r.1) (h1 : 1 ≤ r.2) (h2 : r.1 + r.2 ≤ 256) (hf : freeB l r.1 r.2 = true) :
    Calls Tryz.prog 120 #[.slice A n c, run r] w (PutPost (putL l r.1 r.2) w) := by
  by_cases n0 : n = 0
  · subst n0
    obtain rfl : l = [] := List.eq_nil_of_length_eq_zero h.len
    exact put_00 A c r w hA h0 h1 h2 _ rfl
  · obtain ⟨g, o, rfl, _, _⟩ := h.lies (by omega)
    obtain ⟨i, hp⟩ := place_exists (r := r) hr (free_mem hf)
    have hl := h.len
    have hi : i ≤ n := by have := hp.le; omega
    rcases Nat.eq_zero_or_pos i with rfl | ip
    · have e := put_place (n := r.2) hr (i := 0) (a := r.1) (fun x hx => by simp at hx) hp.hi h1
      rw [List.take_zero, List.nil_append, List.drop_zero] at e
      obtain ⟨y, hy⟩ : ∃ y, l[0]? = some y := ⟨l[0], List.getElem?_eq_getElem (by omega)⟩
      have ec : l = y :: l.drop 1 := by have := drop_cons hy; simpa using this
      by_cases ey : r.1 + r.2 = y.1
      · refine put_b0a2 g o n c l r y w h hr hc hn (by omega) h0 h1 h2 hp hy ey _ ?_
        rw [e, ec, front_cons, if_pos ey]; simp
      · refine put_b0a1 g o n c l r y w h hr hc hn (by omega) h0 h1 h2 hp hy ey _ ?_
        rw [e, ec, front_cons, if_neg ey]; simp
    · obtain ⟨j, rfl⟩ : ∃ j, i = j + 1 := ⟨i - 1, by omega⟩
      obtain ⟨x, hx⟩ : ∃ x, l[j]? = some x := ⟨l[j], List.getElem?_eq_getElem (by omega)⟩
      by_cases ex : x.1 + x.2 = r.1
      · have e := put_join (n := r.2) hr hx ex
        by_cases il : j + 1 < n
        · obtain ⟨y, hy⟩ : ∃ y, l[j + 1]? = some y := ⟨l[j + 1], List.getElem?_eq_getElem (by omega)⟩
          by_cases ey : r.1 + r.2 = y.1
          · refine put_b2a2 g o n c l r x y j w h hr hc hn (by omega) h0 h1 h2 hp hx ex hy ey _ ?_
            rw [e, drop_cons hy, front_cons, if_pos (by omega)]; simp
          · refine put_b2a1 g o n c l r x y j w h hr hc hn (by omega) h0 h1 h2 hp hx ex hy ey _ ?_
            rw [e, drop_cons hy, front_cons, if_neg (by omega)]; simp
        · refine put_b2a0 g o n c l r x j w h hr hc hn (by omega) h0 h1 h2 hp hx ex (by omega) _ ?_
          rw [e, List.drop_eq_nil_of_le (by omega)]; simp [front]
      · have e := put_place (n := r.2) hr (lo_strict hr hp hx ex) hp.hi h1
        by_cases il : j + 1 < n
        · obtain ⟨y, hy⟩ : ∃ y, l[j + 1]? = some y := ⟨l[j + 1], List.getElem?_eq_getElem (by omega)⟩
          by_cases ey : r.1 + r.2 = y.1
          · refine put_b1a2 g o n c l r x y j w h hr hc hn (by omega) h0 h1 h2 hp hx ex hy ey _ ?_
            rw [e, drop_cons hy, front_cons, if_pos (by omega)]; simp
          · refine put_b1a1 g o n c l r x y j w h hr hc hn (by omega) h0 h1 h2 hp hx ex hy ey _ ?_
            rw [e, drop_cons hy, front_cons, if_neg (by omega)]; simp
        · refine put_b1a0 g o n c l r x j w h hr hc hn (by omega) h0 h1 h2 hp hx ex (by omega) _ ?_
          rw [e, List.drop_eq_nil_of_le (by omega)]; simp [front]
end Go.Proofs.YtcndilpaijapkaaGreat
