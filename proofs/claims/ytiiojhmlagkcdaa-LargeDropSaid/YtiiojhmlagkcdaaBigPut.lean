/-
  What Put answers: the first error that applies, or the list with the stack in its place. Own work; each is proved by a walk through the landed text.
-/
import Derived.Test.YtiiojhmlagkcdaaRows
import Derived.Test.YtiiojhmlagkcdaaBigApp
import Derived.Test.YtiiojhmlagkcdaaSizeCalls
import Derived.Test.YtiiojhmlagkcdaaBigCalls
import Derived.Test.YtiiojhmlagkcdaaBigList
import Derived.WalkKit
import Derived.ProofKit
import Derived.OpenShut
import Derived.Outline
import Derived.Deep.Light
import Derived.Deep.QuietTactic
import Derived.BigQuiet
import Derived.IntWalk
import Derived.StillTailTactics
import Derived.RegionTactic
import Derived.Deep.RegionLaw
import Derived.ChangeAlike
import Derived.Deep.RegionHeld3
import Derived.Deep.CutRange
namespace Go.Proofs.Ytiiojhmlagkcdaa.Bg
open Go.ChangeShapes Go.WideShapes Go.ChangeAt Go.RowKit
set_option maxRecDepth 100000



/-- What a call that puts answers. -/
def PutPost (L : List R) (C : Int) (w : World) (e : Ending) (w' : World) : Prop := ∃ v, e = .returned (.tuple #[v, .int .i64 C]) ∧ Made1 L w v w'
theorem before_lit {a b : R} {B : Bool} (h : aheadB a b = B) (w : World) : Calls Try.prog 19 #[run a, run b] w fun e w' => e = .returned (.bool B) ∧ Kept Old w w' := by
  subst h; exact before_any a b w
theorem over_lit {A : Option Addr} {n c : Nat} {l : List R} {b : R} {B : Bool} (q : anyB l b = B) (w : World) (h : Rs w A n l) (hm : ∀ x ∈ l, mayB x = true) (hb : mayB b = true) (hn : n ≤ 1000) : Calls Try.prog 20 #[.slice A n c, run b] w fun e w' => e = .returned (.bool B) ∧ Kept Old w w' := by
  subst q; exact over_any A n c l b w h hm hb hn
theorem lies_lit {b : R} {B : Bool} (q : mayB b = B) (w : World) (hb : in64 b.1 ∧ in64 b.2) : Calls Try.prog 18 #[run b] w fun e w' => e = .returned (.bool B) ∧ Kept Old w w' := by
  subst q; exact lies_any b w hb
set_option maxHeartbeats 2000000 in
theorem put_any (A : Option Addr) (n c : Nat) (l : List R) (b : R) (w : World) (h : Rs w A n l) (hr : RightL l) (hb : in64 b.1 ∧ in64 b.2) (hn : n ≤ 900) (hc : n ≤ c) (hA : A = none → c = 0) :
    Calls Try.prog 12 #[.slice A n c, run b] w (PutPost (putL l b) (putC l b) w) := by
  have HR := Lib.hid h
  have HT := Lib.hid (fun x hx => hr.may (x := x) hx)
  have HB := Lib.hid hb
  have hlen := h.len
  have hA := Lib.hid hA
  clear h hr hb
  rcases put_ways l b with ⟨m, e1, e2⟩ | ⟨m, q, e1, e2⟩ | ⟨m, q, e1, e2⟩
  · rw [e1, e2]
    clear e1 e2
    have M := Lib.hid m
    clear m
    go_enter Try.func12, Try.ntmps12
    go_wp2_with fail
    refine (lies_lit M.out _ HB.out).mono ?_
    rintro e w1 ⟨rfl, k1⟩
    go_wp2
    go_ret2
    exact ⟨_, rfl, Made1.of_nil (((Kept.refl Old w).alloc _).trans k1)⟩
  · rw [e1, e2]
    clear e1 e2
    have M := Lib.hid m
    have Q := Lib.hid q
    clear m q
    go_enter Try.func12, Try.ntmps12
    go_wp2_with fail
    refine (lies_lit M.out _ HB.out).mono ?_
    rintro e w1 ⟨rfl, k1⟩
    have b1 := (Bx.new w b).old k1
    have x0 := b1.c0
    have x1 := b1.c1
    have K := Lib.hid (((Kept.refl Old w).alloc _).trans k1)
    clear k1 b1
    go_wp2_with fail
    refine (over_lit Q.out _ (HR.out.old K.out) HT.out M.out (by omega)).mono ?_
    rintro e w2 ⟨rfl, k2⟩
    go_wp2
    go_ret2
    exact ⟨_, rfl, Made1.of_nil (K.out.trans k2)⟩
  · have hp := place_le l b
    have LO := Lib.hid (fun i y => place_lo l b (i := i) (y := y))
    have AT := Lib.hid (fun y => place_at l b (y := y))
    rw [e1, e2, show insL l b = l.take (placeL l b) ++ b :: l.drop (placeL l b) from rfl]
    clear e1 e2
    have M := Lib.hid m
    have Q := Lib.hid q
    clear m q
    generalize placeL l b = p at *
    go_enter Try.func12, Try.ntmps12
    go_wp2_with fail
    refine (lies_lit M.out _ HB.out).mono ?_
    rintro e w1 ⟨rfl, k1⟩
    have b1 := (Bx.new w b).old k1
    have x0 := b1.c0
    have x1 := b1.c1
    have K := Lib.hid (((Kept.refl Old w).alloc _).trans k1)
    have B := Lib.hid b1
    clear k1 b1
    go_wp2_with fail
    refine (over_lit Q.out _ (HR.out.old K.out) HT.out M.out (by omega)).mono ?_
    rintro e w2 ⟨rfl, k2⟩
    have B1 := Lib.hid (B.out.old k2)
    have K1 := Lib.hid (K.out.trans k2)
    clear k2 B K x0 x1
    generalize hs0 : w.heap.size = s0 at *
    go_wp2_with fail
    go_loopw [6] (fun j wr => ∃ k : Nat, k ≤ p ∧ j = .int .i64 (k : Int) ∧ Hid (Bx wr s0 b) ∧ Hid (Kept Old w wr)) (fun j _ => n - (intOf j).toNat)
    case atStart => exact ⟨0, by omega, rfl, B1, K1⟩
    case round =>
      obtain ⟨k, hk, rfl, B, K⟩ := hrel
      rename World => W
      clear B1 K1
      have x0 := B.out.c0
      have x1 := B.out.c1
      by_cases d : k < n
      · obtain ⟨g, o, x, rfl, _, hx, f1, f2, c0, c1⟩ := (HR.out.old K.out).get d
        have dt : decide ((k : Int) < (n : Int)) = true := decide_eq_true (by omega)
        have kw := Kept.refl Old W
        have bl := Blk.lt B.out
        by_cases d2 : k < p
        · have bf := Lib.hid (fun W => before_lit (LO.out k x hx d2) W)
          clear hx
          go_wp2_with fail
          go_region_held3 (fun w' => Kept Old W w' ∧ w'.cell? ⟨s0, 0, none⟩ = some (.int .i64 b.1) ∧ w'.cell? ⟨s0, 1, none⟩ = some (.int .i64 b.2) ∧ w'.cell? ⟨g, o + k * 2, none⟩ = some (.int .i64 x.1) ∧ w'.cell? ⟨g, o + k * 2 + 1, none⟩ = some (.int .i64 x.2))
            (first
              | (exact ⟨‹_›, ‹_›, ‹_›, ‹_›, ‹_›⟩)
              | (exact ⟨Kept.drew ‹_›, ‹_›, ‹_›, ‹_›, ‹_›⟩)
              | (go_split_ands; exact ⟨Kept.trans ‹_› k1, cell_on k1 ‹_›, cell_on k1 ‹_›, cell_on k1 ‹_›, cell_on k1 ‹_›⟩)
              | go_keep)
            (first
              | (go_at_call 19; refine (bf.out _).mono ?_; rintro e w' ⟨rfl, k1⟩))
          have k2 := Lib.hid (‹Kept Old W _ ∧ _›).1
          go_wp2
          refine ⟨⟨k + 1, by omega, by go_num, Lib.hid (B.out.old k2.out), Lib.hid (K.out.trans k2.out)⟩, ?_⟩
          simp [intOf]; omega
        · obtain rfl : k = p := by omega
          have bf := Lib.hid (fun W => before_lit (AT.out x hx) W)
          clear hx
          go_wp2_with fail
          go_region_held3 (fun w' => Kept Old W w' ∧ w'.cell? ⟨s0, 0, none⟩ = some (.int .i64 b.1) ∧ w'.cell? ⟨s0, 1, none⟩ = some (.int .i64 b.2) ∧ w'.cell? ⟨g, o + k * 2, none⟩ = some (.int .i64 x.1) ∧ w'.cell? ⟨g, o + k * 2 + 1, none⟩ = some (.int .i64 x.2))
            (first
              | (exact ⟨‹_›, ‹_›, ‹_›, ‹_›, ‹_›⟩)
              | (exact ⟨Kept.drew ‹_›, ‹_›, ‹_›, ‹_›, ‹_›⟩)
              | (go_split_ands; exact ⟨Kept.trans ‹_› k1, cell_on k1 ‹_›, cell_on k1 ‹_›, cell_on k1 ‹_›, cell_on k1 ‹_›⟩)
              | go_keep)
            (first
              | (go_at_call 19; refine (bf.out _).mono ?_; rintro e w' ⟨rfl, k1⟩))
          have k2 := Lib.hid (‹Kept Old W _ ∧ _›).1
          have B := Lib.hid (B.out.old k2.out)
          have K := Lib.hid (K.out.trans k2.out)
          clear k2 kw bl x0 x1 c0 c1
          rename World => V
          have wn : IntKind.i64.wrap ((n : Int) + 1) = (n : Int) + 1 := IntWalk.i64_in _ (by omega)
          go_wp2_with (first
            | (at_make; go_loud (refine make_wp rfl _ _ rfl (s0 + 1) (n + 1) _ rfl rfl (by omega) (by omega) (Blk.lt B.out) ?_); intro w5 O5 k5; have B5 := Lib.hid (B.out.old k5.out); have K5 := Lib.hid (K.out.trans k5.out); have z5 := Lib.hid (Blk.lt B5.out); clear k5)
            | (at_builtin; refine app_wp rfl (.tmp 32) (.tmp 35) rfl rfl (s0 + 1) _ 0 [] rfl O5.out (some ⟨g, o, none⟩) k _ (l.take k) rfl ((HR.out.old K5.out).take (by omega)) (by intro h; cases h) (by omega) (by omega) z5.out k (by omega) (l.take k) rfl ?_; intro v6 w6 O6 k6 a6; have B6 := Lib.hid (O5.out.box k6.out B5.out); have K6 := Lib.hid (O5.out.stepB (by omega) K5.out k6.out); have X0 : w6.cell? ⟨s0, 0, none⟩ = some (.int .i64 b.1) := B6.out.c0; have X1 : w6.cell? ⟨s0, 1, none⟩ = some (.int .i64 b.2) := B6.out.c1; have z6 := Lib.hid (Blk.lt B6.out); clear k6 a6)
            | (at_builtin; refine app_wp rfl (.tmp 37) (.tmp 39) rfl rfl (s0 + 1) v6 k (l.take k) rfl (O6.out.alloc _) (some ⟨w6.heap.size, 0, none⟩) 1 1 [b] rfl (Rs.one w6 b HB.out.1 HB.out.2 _ rfl) (by intro h; cases h) (by omega) (by omega) (Nat.le_trans z6.out ((Kept.refl Old w6).alloc _).size) (k + 1) rfl (l.take k ++ [b]) rfl ?_; intro v7 w7 O7 k7 a7; have K7 := Lib.hid ((O6.out.alloc _).stepB (by omega) (K6.out.alloc _) k7.out); have z7 := Lib.hid (Nat.le_trans (Nat.le_trans z6.out ((Kept.refl Old w6).alloc _).size) k7.out.size); clear k7 a7)
            | (at_builtin; refine app_wp rfl (.tmp 41) (.tmp 44) rfl rfl (s0 + 1) v7 (k + 1) (l.take k ++ [b]) rfl O7.out _ _ _ (l.drop k) rfl (Rs.dropTo (HR.out.old K7.out) k (by omega) (by intro h; first | rfl | exact if_neg (by omega))) (by intro h; first | cases h | (split at h <;> cases h)) (by omega) (by omega) z7.out _ rfl (l.take k ++ b :: l.drop k) (by simp) ?_; intro v8 w8 O8 k8 a8; have K8 := Lib.hid (O7.out.stepB (by omega) K7.out k8.out); clear k8 a8))
          all_goals
            go_ret2
            exact ⟨_, rfl, made_end O8.out K8.out⟩
      · have dt : decide ((k : Int) < (n : Int)) = false := decide_eq_false (by omega)
        obtain rfl : k = n := by omega
        obtain rfl : p = k := by omega
        have wn : IntKind.i64.wrap ((p : Int) + 1) = (p : Int) + 1 := IntWalk.i64_in _ (by omega)
        by_cases z : p = 0
        · subst z
          obtain rfl : l = [] := List.eq_nil_of_length_eq_zero (by omega)
          have hA' : (A = none ∧ c = 0) ∨ ∃ ad, A = some ad := by
            cases A with
            | none => exact .inl ⟨rfl, hA.out rfl⟩
            | some ad => exact .inr ⟨ad, rfl⟩
          rcases hA' with ⟨rfl, rfl⟩ | ⟨ad, rfl⟩
          all_goals
            go_wp2_with fail
            go_quiet (fail)
            have B := Lib.hid (B.out.drewN nq)
            have K := Lib.hid (K.out.drewN nq)
            generalize W.drewN nq = V at *
            go_wp2_with (first
              | (at_make; go_loud (refine make_wp rfl _ _ rfl (s0 + 1) 1 _ rfl rfl (by omega) (by omega) (Blk.lt B.out) ?_); intro w5 O5 k5; have B5 := Lib.hid (B.out.old k5.out); have K5 := Lib.hid (K.out.trans k5.out); have z5 := Lib.hid (Blk.lt B5.out); clear k5)
              | (at_builtin; refine app_wp rfl (.tmp 32) (.tmp 35) rfl rfl (s0 + 1) _ 0 [] rfl O5.out _ 0 _ [] rfl (Rs.nil _ _) (by intro h; first | exact ⟨rfl, rfl⟩ | cases h | (split at h <;> cases h)) (by omega) (by omega) z5.out 0 (by omega) [] rfl ?_; intro v6 w6 O6 k6 a6; have B6 := Lib.hid (O5.out.box k6.out B5.out); have K6 := Lib.hid (O5.out.stepB (by omega) K5.out k6.out); have X0 : w6.cell? ⟨s0, 0, none⟩ = some (.int .i64 b.1) := B6.out.c0; have X1 : w6.cell? ⟨s0, 1, none⟩ = some (.int .i64 b.2) := B6.out.c1; have z6 := Lib.hid (Blk.lt B6.out); clear k6 a6)
              | (at_builtin; refine app_wp rfl (.tmp 37) (.tmp 39) rfl rfl (s0 + 1) v6 0 [] rfl (O6.out.alloc _) (some ⟨w6.heap.size, 0, none⟩) 1 1 [b] rfl (Rs.one w6 b HB.out.1 HB.out.2 _ rfl) (by intro h; cases h) (by omega) (by omega) (Nat.le_trans z6.out ((Kept.refl Old w6).alloc _).size) (0 + 1) rfl ([] ++ [b]) rfl ?_; intro v7 w7 O7 k7 a7; have K7 := Lib.hid ((O6.out.alloc _).stepB (by omega) (K6.out.alloc _) k7.out); have z7 := Lib.hid (Nat.le_trans (Nat.le_trans z6.out ((Kept.refl Old w6).alloc _).size) k7.out.size); clear k7 a7)
              | (at_builtin; refine app_wp rfl (.tmp 41) (.tmp 44) rfl rfl (s0 + 1) v7 (0 + 1) ([] ++ [b]) rfl O7.out _ 0 _ [] rfl (Rs.nil _ _) (by intro h; first | exact ⟨rfl, rfl⟩ | cases h | (split at h <;> cases h)) (by omega) (by omega) z7.out _ rfl [b] (by simp) ?_; intro v8 w8 O8 k8 a8; have K8 := Lib.hid (O7.out.stepB (by omega) K7.out k8.out); clear k8 a8))
            all_goals
              go_ret2
              exact ⟨_, rfl, made_end O8.out K8.out⟩
        · obtain ⟨g, o, _, rfl, _, _, _, _, _, _⟩ := (HR.out.old K.out).get (k := 0) (by omega)
          go_wp2_with fail
          go_quiet (fail)
          have B := Lib.hid (B.out.drewN nq)
          have K := Lib.hid (K.out.drewN nq)
          generalize W.drewN nq = V at *
          go_wp2_with (first
            | (at_make; go_loud (refine make_wp rfl _ _ rfl (s0 + 1) (p + 1) _ rfl rfl (by omega) (by omega) (Blk.lt B.out) ?_); intro w5 O5 k5; have B5 := Lib.hid (B.out.old k5.out); have K5 := Lib.hid (K.out.trans k5.out); have z5 := Lib.hid (Blk.lt B5.out); clear k5)
            | (at_builtin; refine app_wp rfl (.tmp 32) (.tmp 35) rfl rfl (s0 + 1) _ 0 [] rfl O5.out (some ⟨g, o, none⟩) p _ (l.take p) rfl ((HR.out.old K5.out).take (by omega)) (by intro h; cases h) (by omega) (by omega) z5.out p (by omega) (l.take p) rfl ?_; intro v6 w6 O6 k6 a6; have B6 := Lib.hid (O5.out.box k6.out B5.out); have K6 := Lib.hid (O5.out.stepB (by omega) K5.out k6.out); have X0 : w6.cell? ⟨s0, 0, none⟩ = some (.int .i64 b.1) := B6.out.c0; have X1 : w6.cell? ⟨s0, 1, none⟩ = some (.int .i64 b.2) := B6.out.c1; have z6 := Lib.hid (Blk.lt B6.out); clear k6 a6)
            | (at_builtin; refine app_wp rfl (.tmp 37) (.tmp 39) rfl rfl (s0 + 1) v6 p (l.take p) rfl (O6.out.alloc _) (some ⟨w6.heap.size, 0, none⟩) 1 1 [b] rfl (Rs.one w6 b HB.out.1 HB.out.2 _ rfl) (by intro h; cases h) (by omega) (by omega) (Nat.le_trans z6.out ((Kept.refl Old w6).alloc _).size) (p + 1) rfl (l.take p ++ [b]) rfl ?_; intro v7 w7 O7 k7 a7; have K7 := Lib.hid ((O6.out.alloc _).stepB (by omega) (K6.out.alloc _) k7.out); have z7 := Lib.hid (Nat.le_trans (Nat.le_trans z6.out ((Kept.refl Old w6).alloc _).size) k7.out.size); clear k7 a7)
            | (at_builtin; refine app_wp rfl (.tmp 41) (.tmp 44) rfl rfl (s0 + 1) v7 (p + 1) (l.take p ++ [b]) rfl O7.out _ _ _ (l.drop p) rfl (Rs.dropTo (HR.out.old K7.out) p (by omega) (by intro h; first | rfl | exact if_neg (by omega))) (by intro h; first | cases h | (split at h <;> cases h)) (by omega) (by omega) z7.out _ rfl (l.take p ++ b :: l.drop p) (by simp) ?_; intro v8 w8 O8 k8 a8; have K8 := Lib.hid (O7.out.stepB (by omega) K7.out k8.out); clear k8 a8))
          all_goals
            go_ret2
            exact ⟨_, rfl, made_end O8.out K8.out⟩
end Go.Proofs.Ytiiojhmlagkcdaa.Bg
