/-
  Joined texts of Bigb; own work.
-/
import Derived.Test.YtcndilpaijapkaaGreatRows
import Derived.WalkKit
import Derived.ProofKit
import Derived.OpenShut
import Derived.Outline
import Derived.Deep.Light
import Derived.Deep.QuietTactic
import Derived.BigQuiet
import Derived.IntWalk
import Derived.StillTailTactics
import Derived.RegionTactic
import Derived.Deep.RegionLaw
import Derived.ChangeAlike
import Derived.Deep.RegionHeld3
import Derived.Deep.CutRange
import Derived.Deep.RegionWith
import Derived.Test.YtcndilpaijapkaaGreatJBig
import Derived.Test.YtcndilpaijapkaaGreatJSize
/- What Put answers: the first error that applies, or the list with the stack in its place. Own work; each is proved by a walk through the landed text. -/
namespace Go.Proofs.YtcndilpaijapkaaGreat.Bg
open Go.ChangeShapes Go.WideShapes Go.ChangeAt Go.RowKit
set_option maxRecDepth 100000



/-- What a call that puts answers. -/
def PutPost (L : List R) (C : Int) (w : World) (e : Ending) (w' : World) : Prop := ∃ v, e = .returned (.tuple #[v, .int .i64 C]) ∧ Made1 L w v w'
theorem before_lit {a b : R} {B : Bool} (h : aheadB a b = B) (w : World) : Calls Tryz.prog 159 #[run a, run b] w fun e w' => e = .returned (.bool B) ∧ Kept Old w w' := by
  subst h; exact before_any a b w
theorem over_lit {A : Option Addr} {n c : Nat} {l : List R} {b : R} {B : Bool} (q : anyB l b = B) (w : World) (h : Rs w A n l) (hm : ∀ x ∈ l, mayB x = true) (hb : mayB b = true) (hn : n ≤ 1000) : Calls Tryz.prog 158 #[.slice A n c, run b] w fun e w' => e = .returned (.bool B) ∧ Kept Old w w' := by
  subst q; exact over_any A n c l b w h hm hb hn
theorem lies_lit {b : R} {B : Bool} (q : mayB b = B) (w : World) (hb : in64 b.1 ∧ in64 b.2) : Calls Tryz.prog 157 #[run b] w fun e w' => e = .returned (.bool B) ∧ Kept Old w w' := by
  subst q; exact lies_any b w hb
set_option maxHeartbeats 2000000 in
theorem put_any (A : Option Addr) (n c : Nat) (l : List R) (b : R) (w : World) (h : Rs w A n l) (hr : RightL l) (hb : in64 b.1 ∧ in64 b.2) (hn : n ≤ 900) (hc : n ≤ c) (hA : A = none → c = 0) :
    Calls Tryz.prog 135 #[.slice A n c, run b] w (PutPost (putL l b) (putC l b) w) := by
  have HR := Lib.hid h
  have HT := Lib.hid (fun x hx => hr.may (x := x) hx)
  have HB := Lib.hid hb
  have hlen := h.len
  have hA := Lib.hid hA
  clear h hr hb
  rcases put_ways l b with ⟨m, e1, e2⟩ | ⟨m, q, e1, e2⟩ | ⟨m, q, e1, e2⟩
  · rw [e1, e2]
    clear e1 e2
    have M := Lib.hid m
    clear m
    go_enter Tryz.func135, Tryz.ntmps135
    go_wp2_with fail
    refine (lies_lit M.out _ HB.out).mono ?_
    rintro e w1 ⟨rfl, k1⟩
    go_wp2
    go_ret2
    exact ⟨_, rfl, Made1.of_nil (((Kept.refl Old w).alloc _).trans k1)⟩
  · rw [e1, e2]
    clear e1 e2
    have M := Lib.hid m
    have Q := Lib.hid q
    clear m q
    go_enter Tryz.func135, Tryz.ntmps135
    go_wp2_with fail
    refine (lies_lit M.out _ HB.out).mono ?_
    rintro e w1 ⟨rfl, k1⟩
    have b1 := (Bx.new w b).old k1
    have x0 := b1.c0
    have x1 := b1.c1
    have K := Lib.hid (((Kept.refl Old w).alloc _).trans k1)
    clear k1 b1
    go_wp2_with fail
    refine (over_lit Q.out _ (HR.out.old K.out) HT.out M.out (by omega)).mono ?_
    rintro e w2 ⟨rfl, k2⟩
    go_wp2
    go_ret2
    exact ⟨_, rfl, Made1.of_nil (K.out.trans k2)⟩
  · have hp := place_le l b
    have LO := Lib.hid (fun i y => place_lo l b (i := i) (y := y))
    have AT := Lib.hid (fun y => place_at l b (y := y))
    rw [e1, e2, show insL l b = l.take (placeL l b) ++ b :: l.drop (placeL l b) from rfl]
    clear e1 e2
    have M := Lib.hid m
    have Q := Lib.hid q
    clear m q
    generalize placeL l b = p at *
    go_enter Tryz.func135, Tryz.ntmps135
    go_wp2_with fail
    refine (lies_lit M.out _ HB.out).mono ?_
    rintro e w1 ⟨rfl, k1⟩
    have b1 := (Bx.new w b).old k1
    have x0 := b1.c0
    have x1 := b1.c1
    have K := Lib.hid (((Kept.refl Old w).alloc _).trans k1)
    have B := Lib.hid b1
    clear k1 b1
    go_wp2_with fail
    refine (over_lit Q.out _ (HR.out.old K.out) HT.out M.out (by omega)).mono ?_
    rintro e w2 ⟨rfl, k2⟩
    have B1 := Lib.hid (B.out.old k2)
    have K1 := Lib.hid (K.out.trans k2)
    clear k2 B K x0 x1
    generalize hs0 : w.heap.size = s0 at *
    go_wp2_with fail
    go_loopw [6] (fun j wr => ∃ k : Nat, k ≤ p ∧ j = .int .i64 (k : Int) ∧ Hid (Bx wr s0 b) ∧ Hid (Kept Old w wr)) (fun j _ => n - (intOf j).toNat)
    case atStart => exact ⟨0, by omega, rfl, B1, K1⟩
    case round =>
      obtain ⟨k, hk, rfl, B, K⟩ := hrel
      rename World => W
      clear B1 K1
      have x0 := B.out.c0
      have x1 := B.out.c1
      by_cases d : k < n
      · obtain ⟨g, o, x, rfl, _, hx, f1, f2, c0, c1⟩ := (HR.out.old K.out).get d
        have dt : decide ((k : Int) < (n : Int)) = true := decide_eq_true (by omega)
        have kw := Kept.refl Old W
        have bl := Blk.lt B.out
        by_cases d2 : k < p
        · have bf := Lib.hid (fun W => before_lit (LO.out k x hx d2) W)
          clear hx
          go_wp2_with fail
          go_region_held3 (fun w' => Kept Old W w' ∧ w'.cell? ⟨s0, 0, none⟩ = some (.int .i64 b.1) ∧ w'.cell? ⟨s0, 1, none⟩ = some (.int .i64 b.2) ∧ w'.cell? ⟨g, o + k * 2, none⟩ = some (.int .i64 x.1) ∧ w'.cell? ⟨g, o + k * 2 + 1, none⟩ = some (.int .i64 x.2))
            (first
              | (exact ⟨‹_›, ‹_›, ‹_›, ‹_›, ‹_›⟩)
              | (exact ⟨Kept.drew ‹_›, ‹_›, ‹_›, ‹_›, ‹_›⟩)
              | (go_split_ands; exact ⟨Kept.trans ‹_› k1, cell_on k1 ‹_›, cell_on k1 ‹_›, cell_on k1 ‹_›, cell_on k1 ‹_›⟩)
              | go_keep)
            (first
              | (go_at_call 159; refine (bf.out _).mono ?_; rintro e w' ⟨rfl, k1⟩))
          have k2 := Lib.hid (‹Kept Old W _ ∧ _›).1
          go_wp2
          refine ⟨⟨k + 1, by omega, by go_num, Lib.hid (B.out.old k2.out), Lib.hid (K.out.trans k2.out)⟩, ?_⟩
          simp [intOf]; omega
        · obtain rfl : k = p := by omega
          have bf := Lib.hid (fun W => before_lit (AT.out x hx) W)
          clear hx
          go_wp2_with fail
          go_region_held3 (fun w' => Kept Old W w' ∧ w'.cell? ⟨s0, 0, none⟩ = some (.int .i64 b.1) ∧ w'.cell? ⟨s0, 1, none⟩ = some (.int .i64 b.2) ∧ w'.cell? ⟨g, o + k * 2, none⟩ = some (.int .i64 x.1) ∧ w'.cell? ⟨g, o + k * 2 + 1, none⟩ = some (.int .i64 x.2))
            (first
              | (exact ⟨‹_›, ‹_›, ‹_›, ‹_›, ‹_›⟩)
              | (exact ⟨Kept.drew ‹_›, ‹_›, ‹_›, ‹_›, ‹_›⟩)
              | (go_split_ands; exact ⟨Kept.trans ‹_› k1, cell_on k1 ‹_›, cell_on k1 ‹_›, cell_on k1 ‹_›, cell_on k1 ‹_›⟩)
              | go_keep)
            (first
              | (go_at_call 159; refine (bf.out _).mono ?_; rintro e w' ⟨rfl, k1⟩))
          have k2 := Lib.hid (‹Kept Old W _ ∧ _›).1
          have B := Lib.hid (B.out.old k2.out)
          have K := Lib.hid (K.out.trans k2.out)
          clear k2 kw bl x0 x1 c0 c1
          rename World => V
          have wn : IntKind.i64.wrap ((n : Int) + 1) = (n : Int) + 1 := IntWalk.i64_in _ (by omega)
          go_wp2_with (first
            | (at_make; go_loud (refine make_wp rfl _ _ rfl (s0 + 1) (n + 1) _ rfl rfl (by omega) (by omega) (Blk.lt B.out) ?_); intro w5 O5 k5; have B5 := Lib.hid (B.out.old k5.out); have K5 := Lib.hid (K.out.trans k5.out); have z5 := Lib.hid (Blk.lt B5.out); clear k5)
            | (at_builtin; refine app_wp rfl (.tmp 32) (.tmp 35) rfl rfl (s0 + 1) _ 0 [] rfl O5.out (some ⟨g, o, none⟩) k _ (l.take k) rfl ((HR.out.old K5.out).take (by omega)) (by intro h; cases h) (by omega) (by omega) z5.out k (by omega) (l.take k) rfl ?_; intro v6 w6 O6 k6 a6; have B6 := Lib.hid (O5.out.box k6.out B5.out); have K6 := Lib.hid (O5.out.stepB (by omega) K5.out k6.out); have X0 : w6.cell? ⟨s0, 0, none⟩ = some (.int .i64 b.1) := B6.out.c0; have X1 : w6.cell? ⟨s0, 1, none⟩ = some (.int .i64 b.2) := B6.out.c1; have z6 := Lib.hid (Blk.lt B6.out); clear k6 a6)
            | (at_builtin; refine app_wp rfl (.tmp 37) (.tmp 39) rfl rfl (s0 + 1) v6 k (l.take k) rfl (O6.out.alloc _) (some ⟨w6.heap.size, 0, none⟩) 1 1 [b] rfl (Rs.one w6 b HB.out.1 HB.out.2 _ rfl) (by intro h; cases h) (by omega) (by omega) (Nat.le_trans z6.out ((Kept.refl Old w6).alloc _).size) (k + 1) rfl (l.take k ++ [b]) rfl ?_; intro v7 w7 O7 k7 a7; have K7 := Lib.hid ((O6.out.alloc _).stepB (by omega) (K6.out.alloc _) k7.out); have z7 := Lib.hid (Nat.le_trans (Nat.le_trans z6.out ((Kept.refl Old w6).alloc _).size) k7.out.size); clear k7 a7)
            | (at_builtin; refine app_wp rfl (.tmp 41) (.tmp 44) rfl rfl (s0 + 1) v7 (k + 1) (l.take k ++ [b]) rfl O7.out _ _ _ (l.drop k) rfl (Rs.dropTo (HR.out.old K7.out) k (by omega) (by intro h; first | rfl | exact if_neg (by omega))) (by intro h; first | cases h | (split at h <;> cases h)) (by omega) (by omega) z7.out _ rfl (l.take k ++ b :: l.drop k) (by simp) ?_; intro v8 w8 O8 k8 a8; have K8 := Lib.hid (O7.out.stepB (by omega) K7.out k8.out); clear k8 a8))
          all_goals
            go_ret2
            exact ⟨_, rfl, made_end O8.out K8.out⟩
      · have dt : decide ((k : Int) < (n : Int)) = false := decide_eq_false (by omega)
        obtain rfl : k = n := by omega
        obtain rfl : p = k := by omega
        have wn : IntKind.i64.wrap ((p : Int) + 1) = (p : Int) + 1 := IntWalk.i64_in _ (by omega)
        by_cases z : p = 0
        · subst z
          obtain rfl : l = [] := List.eq_nil_of_length_eq_zero (by omega)
          have hA' : (A = none ∧ c = 0) ∨ ∃ ad, A = some ad := by
            cases A with
            | none => exact .inl ⟨rfl, hA.out rfl⟩
            | some ad => exact .inr ⟨ad, rfl⟩
          rcases hA' with ⟨rfl, rfl⟩ | ⟨ad, rfl⟩
          all_goals
            go_wp2_with fail
            go_quiet (fail)
            have B := Lib.hid (B.out.drewN nq)
            have K := Lib.hid (K.out.drewN nq)
            generalize W.drewN nq = V at *
            go_wp2_with (first
              | (at_make; go_loud (refine make_wp rfl _ _ rfl (s0 + 1) 1 _ rfl rfl (by omega) (by omega) (Blk.lt B.out) ?_); intro w5 O5 k5; have B5 := Lib.hid (B.out.old k5.out); have K5 := Lib.hid (K.out.trans k5.out); have z5 := Lib.hid (Blk.lt B5.out); clear k5)
              | (at_builtin; refine app_wp rfl (.tmp 32) (.tmp 35) rfl rfl (s0 + 1) _ 0 [] rfl O5.out _ 0 _ [] rfl (Rs.nil _ _) (by intro h; first | exact ⟨rfl, rfl⟩ | cases h | (split at h <;> cases h)) (by omega) (by omega) z5.out 0 (by omega) [] rfl ?_; intro v6 w6 O6 k6 a6; have B6 := Lib.hid (O5.out.box k6.out B5.out); have K6 := Lib.hid (O5.out.stepB (by omega) K5.out k6.out); have X0 : w6.cell? ⟨s0, 0, none⟩ = some (.int .i64 b.1) := B6.out.c0; have X1 : w6.cell? ⟨s0, 1, none⟩ = some (.int .i64 b.2) := B6.out.c1; have z6 := Lib.hid (Blk.lt B6.out); clear k6 a6)
              | (at_builtin; refine app_wp rfl (.tmp 37) (.tmp 39) rfl rfl (s0 + 1) v6 0 [] rfl (O6.out.alloc _) (some ⟨w6.heap.size, 0, none⟩) 1 1 [b] rfl (Rs.one w6 b HB.out.1 HB.out.2 _ rfl) (by intro h; cases h) (by omega) (by omega) (Nat.le_trans z6.out ((Kept.refl Old w6).alloc _).size) (0 + 1) rfl ([] ++ [b]) rfl ?_; intro v7 w7 O7 k7 a7; have K7 := Lib.hid ((O6.out.alloc _).stepB (by omega) (K6.out.alloc _) k7.out); have z7 := Lib.hid (Nat.le_trans (Nat.le_trans z6.out ((Kept.refl Old w6).alloc _).size) k7.out.size); clear k7 a7)
              | (at_builtin; refine app_wp rfl (.tmp 41) (.tmp 44) rfl rfl (s0 + 1) v7 (0 + 1) ([] ++ [b]) rfl O7.out _ 0 _ [] rfl (Rs.nil _ _) (by intro h; first | exact ⟨rfl, rfl⟩ | cases h | (split at h <;> cases h)) (by omega) (by omega) z7.out _ rfl [b] (by simp) ?_; intro v8 w8 O8 k8 a8; have K8 := Lib.hid (O7.out.stepB (by omega) K7.out k8.out); clear k8 a8))
            all_goals
              go_ret2
              exact ⟨_, rfl, made_end O8.out K8.out⟩
        · obtain ⟨g, o, _, rfl, _, _, _, _, _, _⟩ := (HR.out.old K.out).get (k := 0) (by omega)
          go_wp2_with fail
          go_quiet (fail)
          have B := Lib.hid (B.out.drewN nq)
          have K := Lib.hid (K.out.drewN nq)
          generalize W.drewN nq = V at *
          go_wp2_with (first
            | (at_make; go_loud (refine make_wp rfl _ _ rfl (s0 + 1) (p + 1) _ rfl rfl (by omega) (by omega) (Blk.lt B.out) ?_); intro w5 O5 k5; have B5 := Lib.hid (B.out.old k5.out); have K5 := Lib.hid (K.out.trans k5.out); have z5 := Lib.hid (Blk.lt B5.out); clear k5)
            | (at_builtin; refine app_wp rfl (.tmp 32) (.tmp 35) rfl rfl (s0 + 1) _ 0 [] rfl O5.out (some ⟨g, o, none⟩) p _ (l.take p) rfl ((HR.out.old K5.out).take (by omega)) (by intro h; cases h) (by omega) (by omega) z5.out p (by omega) (l.take p) rfl ?_; intro v6 w6 O6 k6 a6; have B6 := Lib.hid (O5.out.box k6.out B5.out); have K6 := Lib.hid (O5.out.stepB (by omega) K5.out k6.out); have X0 : w6.cell? ⟨s0, 0, none⟩ = some (.int .i64 b.1) := B6.out.c0; have X1 : w6.cell? ⟨s0, 1, none⟩ = some (.int .i64 b.2) := B6.out.c1; have z6 := Lib.hid (Blk.lt B6.out); clear k6 a6)
            | (at_builtin; refine app_wp rfl (.tmp 37) (.tmp 39) rfl rfl (s0 + 1) v6 p (l.take p) rfl (O6.out.alloc _) (some ⟨w6.heap.size, 0, none⟩) 1 1 [b] rfl (Rs.one w6 b HB.out.1 HB.out.2 _ rfl) (by intro h; cases h) (by omega) (by omega) (Nat.le_trans z6.out ((Kept.refl Old w6).alloc _).size) (p + 1) rfl (l.take p ++ [b]) rfl ?_; intro v7 w7 O7 k7 a7; have K7 := Lib.hid ((O6.out.alloc _).stepB (by omega) (K6.out.alloc _) k7.out); have z7 := Lib.hid (Nat.le_trans (Nat.le_trans z6.out ((Kept.refl Old w6).alloc _).size) k7.out.size); clear k7 a7)
            | (at_builtin; refine app_wp rfl (.tmp 41) (.tmp 44) rfl rfl (s0 + 1) v7 (p + 1) (l.take p ++ [b]) rfl O7.out _ _ _ (l.drop p) rfl (Rs.dropTo (HR.out.old K7.out) p (by omega) (by intro h; first | rfl | exact if_neg (by omega))) (by intro h; first | cases h | (split at h <;> cases h)) (by omega) (by omega) z7.out _ rfl (l.take p ++ b :: l.drop p) (by simp) ?_; intro v8 w8 O8 k8 a8; have K8 := Lib.hid (O7.out.stepB (by omega) K7.out k8.out); clear k8 a8))
          all_goals
            go_ret2
            exact ⟨_, rfl, made_end O8.out K8.out⟩
end Go.Proofs.YtcndilpaijapkaaGreat.Bg
/- A list without one of its stacks (large.without), as new memory. Own work; each is proved by a walk through the landed text. -/
namespace Go.Proofs.YtcndilpaijapkaaGreat.Bg
open Go.ChangeShapes Go.WideShapes Go.ChangeAt Go.RowKit
set_option maxRecDepth 100000


set_option maxHeartbeats 1000000 in
theorem without_ok (A : Option Addr) (n c i : Nat) (l : List R) (w : World) (h : Rs w A n l) (hi : i < n) (hn : n ≤ 900) (hc : n ≤ c) : Calls Tryz.prog 122 #[.slice A n c, .int .i64 (i : Int)] w fun e w' => ∃ v, e = .returned v ∧ Made1 (l.take i ++ l.drop (i + 1)) w v w' := by
  obtain ⟨g, o, _, rfl, _, _, _, _, _, _⟩ := h.get hi
  have HR := Lib.hid h
  have wi : IntKind.i64.wrap ((i : Int) + 1) = (i : Int) + 1 := IntWalk.i64_in _ (by omega)
  have hle : (i : Int) + 1 ≤ (n : Int) := by omega
  have hge : 0 ≤ (i : Int) + 1 := by omega
  have wn : IntKind.i64.wrap ((n : Int) - 1) = ((n - 1 : Nat) : Int) := by rw [IntWalk.i64_in _ (by omega)]; omega
  clear h
  go_enter Tryz.func122, Tryz.ntmps122
  go_wp2_with (first
    | (at_make; go_loud (refine make_wp rfl _ _ rfl w.heap.size (n - 1) _ rfl rfl (by omega) (by omega) (Nat.le_refl _) ?_); intro w1 O1 k1; have K1 := Lib.hid k1.out; clear k1)
    | (at_builtin; refine app_wp rfl (.tmp 10) (.tmp 13) rfl rfl w.heap.size _ 0 [] rfl O1.out (some ⟨g, o, none⟩) i c (l.take i) rfl ((HR.out.old K1.out).take (by omega)) (by intro h; cases h) (by omega) (by omega) K1.out.size i (by omega) (l.take i) rfl ?_; intro v2 w2 O2 k2 a2; have K2 := Lib.hid (O1.out.step K1.out k2.out); clear k2 a2)
    | (at_builtin; refine app_wp rfl (.tmp 15) (.tmp 19) rfl rfl w.heap.size v2 i (l.take i) rfl O2.out _ _ _ (l.drop (i + 1)) rfl (Rs.dropTo (HR.out.old K2.out) (i + 1) (by omega) (by intro h; exact if_neg (by omega))) (by intro h; first | cases h | (split at h <;> cases h)) (by omega) (by omega) K2.out.size _ rfl _ rfl ?_; intro v3 w3 O3 k3 a3; have K3 := Lib.hid (O2.out.step K2.out k3.out); clear k3 a3))
  all_goals
    go_ret
    exact ⟨_, rfl, made_end O3.out K3.out⟩
end Go.Proofs.YtcndilpaijapkaaGreat.Bg
/- What Take and Drop answer: the list without the first stack of a class, without its first stack. Own work; proved by a walk through the landed text. -/
namespace Go.Proofs.YtcndilpaijapkaaGreat.Bg
open Go.ChangeShapes Go.WideShapes Go.ChangeAt Go.RowKit
set_option maxRecDepth 100000




/-- What a call that takes answers. -/
def TakePost (L : List R) (a C : Int) (w : World) (e : Ending) (w' : World) : Prop := ∃ v, e = .returned (.tuple #[v, .int .i64 a, .int .i64 C]) ∧ Made1 L w v w'
def DropPost (L : List R) (x : R) (ok : Bool) (w : World) (e : Ending) (w' : World) : Prop := ∃ v, e = .returned (.tuple #[v, run x, .bool ok]) ∧ Made1 L w v w'
theorem Made1.kept {L : List R} {w w' : World} {v : Value} (h : Made1 L w v w') : Kept Old w w' := by
  obtain ⟨_, _, _, _, _, _, _, k⟩ := h
  exact k
theorem Bx.end2 {w W : World} {b : Nat} {x : R} (h : Bx W b x) (K : Kept Old w W) (hb : w.heap.size ≤ b) (y : R) :
    ∃ V, (W.setCell ⟨b, 0, none⟩ (.int .i64 y.1)).setCell ⟨b, 1, none⟩ (.int .i64 y.2) = V ∧ V.cell? ⟨b, 0, none⟩ = some (.int .i64 y.1) ∧ V.cell? ⟨b, 1, none⟩ = some (.int .i64 y.2) ∧ Kept Old w V ∧ Bx V b y ∧ Kept (Only b) W V :=
  ⟨_, rfl, (h.put2 y.1 y.2).c0, (h.put2 y.1 y.2).c1, Bx.kept2 K hb _ _, h.put2 y.1 y.2, (only_setCell _ _ _ _).trans (only_setCell _ _ _ _)⟩
set_option maxHeartbeats 2000000 in
theorem take_any (A : Option Addr) (n c : Nat) (l : List R) (cl : Int) (w : World) (h : Rs w A n l) (hn : n ≤ 900) (hc : n ≤ c) :
    Calls Tryz.prog 128 #[.slice A n c, .int .i64 cl] w (TakePost (takeL l cl) (takeA l cl) (takeC l cl) w) := by
  have HR := Lib.hid h
  have hlen := h.len
  have hp := ix_le l cl
  have LO := Lib.hid (fun i y => ix_lo l cl (i := i) (y := y))
  have AT := Lib.hid (take_ways l cl)
  clear h
  generalize hC : takeC l cl = C at *
  generalize hL : takeL l cl = L at *
  generalize hA : takeA l cl = a at *
  generalize ixL l cl = p at *
  clear hC hL hA
  go_enter Tryz.func128, Tryz.ntmps128
  go_wp2_with fail
  go_loopw [11] (fun j wr => ∃ k : Nat, k ≤ p ∧ j = .int .i64 (k : Int) ∧ Hid (Kept Old w wr)) (fun j _ => n - (intOf j).toNat)
  case atStart => exact ⟨0, by omega, rfl, Lib.hid (Kept.refl _ _)⟩
  case round =>
    obtain ⟨k, hk, rfl, K⟩ := hrel
    rename World => W
    by_cases d : k < n
    · obtain ⟨g, o, x, rfl, _, hx, f1, f2, c0, c1⟩ := (HR.out.old K.out).get d
      by_cases d2 : k < p
      · have t : (x.2 == cl) = false := beq_eq_false_iff_ne.2 (LO.out k x hx d2)
        clear hx
        go_wp2
        refine ⟨⟨k + 1, by omega, by go_num, Lib.hid (K.out.alloc _)⟩, ?_⟩
        simp [intOf]; omega
      · obtain rfl : k = p := by omega
        obtain ⟨y, hy, ey, _, rfl, rfl, rfl⟩ : ∃ y, l[k]? = some y ∧ y.2 = cl ∧ k < l.length ∧ C = 0 ∧ L = l.take k ++ l.drop (k + 1) ∧ a = y.1 := by
          rcases AT.out with ⟨_, e, _⟩ | ⟨y, h1, h2, h3, h4, h5, h6⟩
          · omega
          · exact ⟨y, h1, h2, h3, h4, h5, h6⟩
        obtain rfl : y = x := by rw [hx] at hy; exact (Option.some.inj hy).symm
        have t : (y.2 == cl) = true := by simp [ey]
        have b1 := Bx.new W y
        have x0 := b1.c0
        have x1 := b1.c1
        have bl := Blk.lt b1
        have K1 := Lib.hid (K.out.alloc (.cells #[.int .i64 y.1, .int .i64 y.2] 113))
        have R1 := Lib.hid (HR.out.old K1.out)
        clear hx hy ey AT LO b1
        go_wp2_with fail
        go_region_with (go_at_call 122; refine (without_ok _ n c k l _ (by first | exact R1.out | exact R1.out.drew) (by omega) hn hc).mono ?_; rintro e w2 ⟨v2, rfl, M2⟩; have y0 := cell_on M2.kept x0; have E := Lib.hid (Made1.from M2 (by first | exact K1.out | exact K1.out.drew)); clear M2)
        all_goals
          go_wp2
          go_ret3
          first | exact ⟨_, rfl, E.out⟩ | exact ⟨_, rfl, E.out.drew⟩
    · obtain ⟨_, _, rfl, rfl, rfl⟩ : (∀ x ∈ l, x.2 ≠ cl) ∧ p = l.length ∧ C = 2 ∧ L = [] ∧ a = 0 := by
        rcases AT.out with e | ⟨y, h1, h2, h3, _⟩
        · exact e
        · omega
      go_wp2
      go_ret3
      exact ⟨_, rfl, Made1.of_nil K.out⟩
/-- A list that was made outlives stores into a block of the caller's own. -/
theorem Made1.put {L : List R} {w W1 w2 V : World} {v : Value} {b : Nat} (h : Made1 L W1 v w2) (k : Kept Old w W1) (hb : w.heap.size ≤ b) (hb1 : b < W1.heap.size) (kv : Kept (Only b) w2 V) : Made1 L w v V := by
  obtain ⟨A, n, c, h1, r, h2, h3, K⟩ := h
  refine ⟨A, n, c, h1, r.kept kv (fun ad e q => ?_), h2, ⟨h3.1, fun ad e => Nat.le_trans k.size (h3.2 ad e)⟩, (k.trans K).join kv (fun i hi e => ?_)⟩
  · have q : ad.block = b := q
    have := h3.2 ad e
    omega
  · have e : i = b := e
    omega
theorem without_first (A : Option Addr) (n c : Nat) (x : R) (t : List R) (w : World) (h : Rs w A n (x :: t)) (hn : n ≤ 900) (hc : n ≤ c) : Calls Tryz.prog 122 #[.slice A n c, .int .i64 0] w fun e w' => ∃ v, e = .returned v ∧ Made1 t w v w' :=
  without_ok A n c 0 (x :: t) w h (by have := h.len; simp at this; omega) hn hc
set_option maxHeartbeats 2000000 in
theorem drop_any (A : Option Addr) (n c : Nat) (l : List R) (w : World) (h : Rs w A n l) (hn : n ≤ 900) (hc : n ≤ c) :
    Calls Tryz.prog 79 #[.slice A n c] w (DropPost (l.drop 1) (headL l) (dropB l) w) := by
  have HR := Lib.hid h
  have hlen := h.len
  have k0 := Lib.hid ((Kept.refl Old w).alloc (.cells #[.int .i64 0, .int .i64 0] 113))
  have B0 := Lib.hid (Bx.new w (0, 0))
  clear h
  by_cases z : n = 0
  · subst z
    obtain rfl : l = [] := List.eq_nil_of_length_eq_zero hlen
    have b0 := B0.out.c0
    have b1 := B0.out.c1
    have bf := Blk.frozen B0.out
    go_enter Tryz.func79, Tryz.ntmps79
    go_wp2
    exact bodyPost_ret (v := .tuple #[.slice none 0 0, run (0, 0), .bool false]) (by simp [results, Tryz.results79, go_sem]) rfl ⟨_, rfl, Made1.of_nil k0.out⟩
  · obtain ⟨g, o, x, rfl, _, hx, f1, f2, c0, c1⟩ := (HR.out.old k0.out).get (k := 0) (by omega)
    obtain ⟨t, rfl⟩ : ∃ t, l = x :: t := by
      cases l with
      | nil => cases hx
      | cons y t => simp at hx; subst hx; exact ⟨t, rfl⟩
    have hd : dropB (x :: t) = true := decide_eq_true (by simp)
    rw [hd, show headL (x :: t) = x from rfl]
    have R1 := Lib.hid (HR.out.old k0.out)
    have b0 := B0.out.c0
    have b1 := B0.out.c1
    have bl := Blk.lt B0.out
    have nz : ((n : Int) == 0) = false := beq_eq_false_iff_ne.2 (by omega)
    simp only [Nat.zero_mul, Nat.add_zero] at c0 c1
    clear hx hd
    go_enter Tryz.func79, Tryz.ntmps79
    go_wp2_with fail
    go_region_with (go_at_call 122; refine (without_first _ n c x t _ (by first | exact R1.out | exact R1.out.drew) hn hc).mono ?_; rintro e w2 ⟨v2, rfl, M2⟩; have k2 := M2.kept; have y0 := cell_on k2 c0; have y1 := cell_on k2 c1; have B2 : Bx w2 w.heap.size (0, 0) := (by first | exact B0.out.old k2 | exact B0.out.drew.old k2); have d0 := B2.c0; have d1 := B2.c1; have df := Blk.frozen B2; have dl := Blk.lt B2; have B2 := Lib.hid B2; have E := Lib.hid (show ∀ V, Kept (Only w.heap.size) w2 V → Made1 t w v2 V from fun V kv => M2.put (by first | exact k0.out | exact k0.out.drew) (Nat.le_refl _) (by first | exact bl | exact bl) kv); have KK := Lib.hid (M2.from (by first | exact k0.out | exact k0.out.drew)).kept; clear M2 k2)
    all_goals
      obtain ⟨V, hV, g0, g1, _, _, kv⟩ := B2.out.end2 KK.out (Nat.le_refl _) x
      have P := Lib.hid (E.out V kv)
      clear kv
      go_wp2
      exact bodyPost_ret (v := .tuple #[v2, run x, .bool true]) (by simp [results, Tryz.results79, go_sem, hV, g0, g1]) rfl ⟨_, rfl, by first | exact P.out | (rw [hV]; exact P.out) | exact P.out.drew⟩
end Go.Proofs.YtcndilpaijapkaaGreat.Bg
