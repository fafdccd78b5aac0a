/-
  The search for an address among a store's live stacks: slices.BinarySearchFunc with the store's own comparison. Own work; proved by walks through the landed text and the library's as it was turned.
-/
import Derived.Test.YtcndilpaijapkaaGreatRows
import Derived.WalkKit
import Derived.ProofKit
import Derived.OpenShut
import Derived.Outline
import Derived.Deep.Light
import Derived.Deep.QuietTactic
import Derived.BigQuiet
import Derived.IntWalk
import Derived.StillTailTactics
import Derived.RegionTactic
import Derived.Deep.RegionLaw
import Derived.Deep.LoopGhost
import Derived.Test.YtcndilpaijapkaaGreatJDeed
namespace Go.Proofs.YtcndilpaijapkaaGreat.Sf
open Lm
open Go.ChangeShapes Go.WideShapes Go.ChangeAt Go.RowKit
set_option maxRecDepth 100000

theorem nan_any (a : Int) (w : World) : Calls Tryz.prog 132 #[.int .i64 a] w fun e w' => e = .returned (.bool false) ∧ w = w' := by
  go_enter Tryz.func132, Tryz.ntmps132
  go_wp2
  go_ret
  exact ⟨by simp, rfl⟩
def cmpI (a p : Int) : Int := if a < p then -1 else if p < a then 1 else 0
theorem cmp_ways (a p : Int) : (a < p ∧ cmpI a p = -1) ∨ (¬ a < p ∧ p < a ∧ cmpI a p = 1) ∨ (¬ a < p ∧ ¬ p < a ∧ a = p ∧ cmpI a p = 0) := by
  unfold cmpI
  by_cases h : a < p
  · exact .inl ⟨h, if_pos h⟩
  · by_cases h1 : p < a
    · exact .inr (.inl ⟨h, h1, by rw [if_neg h, if_pos h1]⟩)
    · exact .inr (.inr ⟨h, h1, by omega, by rw [if_neg h, if_neg h1]⟩)
theorem cmp_any (a p : Int) (w : World) : Calls Tryz.prog 97 #[.int .i64 a, .int .i64 p] w fun e w' => e = .returned (.int .i64 (cmpI a p)) ∧ w = w' := by
  rcases cmp_ways a p with ⟨h, e⟩ | ⟨h, h1, e⟩ | ⟨h, h1, _, e⟩
  all_goals
    rw [e]
    clear e
    go_enter Tryz.func97, Tryz.ntmps97
    go_wp2_with (go_at_call 132; refine (nan_any _ _).mono ?_; rintro e w' ⟨rfl, rfl⟩)
    go_ret
    exact ⟨rfl, rfl⟩
/-- The program's own comparison. -/
theorem by_any (x : S) (p : Int) (w : World) : Calls Tryz.prog 96 #[spn x, .int .i64 p] w fun e w' => e = .returned (.int .i64 (cmpI x.a p)) ∧ Kept Old w w' := by
  go_enter Tryz.func96, Tryz.ntmps96
  go_wp2_with (go_at_call 97; refine (cmp_any _ _ _).mono ?_; rintro e w' ⟨rfl, rfl⟩)
  go_ret
  exact ⟨rfl, (Kept.refl Old w).alloc _⟩
/-- What the search knows: all ahead of lo begin ahead of the address, none from hi on does. -/
structure Seen (l : List S) (p : Int) (lo hi : Nat) : Prop where
  lo : ∀ (i : Nat) y, l[i]? = some y → i < lo → y.a < p
  hi : ∀ (i : Nat) y, l[i]? = some y → hi ≤ i → p ≤ y.a
theorem Seen.up {W : Int} {l : List S} {p : Int} {lo hi k : Nat} {x : S} (h : Seen l p lo hi) (v : Valid W l) (hx : l[k]? = some x) (c : x.a < p) : Seen l p (k + 1) hi :=
  ⟨fun i y hy hi => by
    by_cases e : i = k
    · subst e; rw [hx] at hy; obtain rfl := Option.some.inj hy; exact c
    · have := v.lt hy hx (by omega); omega, h.hi⟩
theorem Seen.down {W : Int} {l : List S} {p : Int} {lo hi k : Nat} {x : S} (h : Seen l p lo hi) (v : Valid W l) (hx : l[k]? = some x) (c : ¬ x.a < p) : Seen l p lo k :=
  ⟨h.lo, fun i y hy hi => by
    by_cases e : i = k
    · subst e; rw [hx] at hy; obtain rfl := Option.some.inj hy; omega
    · have := v.lt hx hy (by omega); omega⟩
theorem Seen.place {l : List S} {p : Int} {k : Nat} (h : Seen l p k k) (hk : k ≤ l.length) : placeL l p = k :=
  place_eq hk (fun j y hy hj => h.lo j y hy hj) (fun y hy => h.hi k y hy (Nat.le_refl _))
set_option maxHeartbeats 2000000 in
theorem bs_any (W : Int) (A : Option Addr) (n c : Nat) (l : List S) (p : Int) (w : World) (h : RsS w A n l) (v : Valid W l) (hn : n ≤ 1000) :
    Calls Tryz.prog 95 #[.slice A n c, .int .i64 p, .func (.func 96) #[] #[]] w
      fun e w' => e = .returned (.tuple #[.int .i64 (placeL l p : Int), .bool (hasB l p)]) ∧ Kept Old w w' := by
  have hlen := Lib.hid h.len
  have HR := Lib.hid h
  have HV := Lib.hid v
  have S0 := Lib.hid (show Seen l p 0 n from ⟨fun i y hy hi => absurd hi (Nat.not_lt_zero _), fun i y hy hi => by have := getS_len h hy; omega⟩)
  clear h v
  generalize hK : placeL l p = K
  generalize hB : hasB l p = B
  have HK := Lib.hid hK
  have HB := Lib.hid hB
  clear hK hB
  go_enter Tryz.func95, Tryz.ntmps95
  go_wp2_with fail
  go_loopg [9, 10] n (fun kx s9 s10 wr => ∃ lo hi : Nat, s9 = .int .i64 lo ∧ s10 = .int .i64 hi ∧ lo ≤ hi ∧ hi ≤ n ∧ hi - lo ≤ kx ∧ Hid (Kept Old w wr) ∧ Hid (Seen l p lo hi))
  case atStart => exact ⟨0, n, rfl, rfl, Nat.zero_le _, Nat.le_refl _, by omega, Lib.hid (Kept.refl _ _), S0⟩
  case round =>
    clear S0
    obtain ⟨lo, hi, rfl, rfl, hlh, hin, hg, K1, I⟩ := hrel
    rename World => V
    by_cases hlt : lo < hi
    · obtain ⟨g, o, x, rfl, _, hx, _, cx0, cx1, cx2⟩ := (HR.out.old K1.out).get (k := (lo + hi) / 2) (by omega)
      have hc := Lib.hid (fun V => by_any x p V)
      rcases cmp_ways x.a p with ⟨q, e⟩ | ⟨q, q1, e⟩ | ⟨q, q1, q2, e⟩
      · rw [e] at hc
        have I2 := Lib.hid (I.out.up HV.out hx q)
        clear hx e
        go_wp2_with (go_at_call 96; refine (hc.out _).mono ?_; rintro e w' ⟨rfl, k2⟩)
        go_roundg (hi - ((lo + hi) / 2 + 1))
        case measure => omega
        case rel => exact ⟨(lo + hi) / 2 + 1, hi, by rw [show ((lo : Int) + (hi : Int)) / 2 + 1 = (((lo + hi) / 2 + 1 : Nat) : Int) by omega], rfl, by omega, hin, Nat.le_refl _, Lib.hid (K1.out.trans k2), I2⟩
      · rw [e] at hc
        have I2 := Lib.hid (I.out.down HV.out hx q)
        clear hx e
        go_wp2_with (go_at_call 96; refine (hc.out _).mono ?_; rintro e w' ⟨rfl, k2⟩)
        go_roundg ((lo + hi) / 2 - lo)
        case measure => omega
        case rel => exact ⟨lo, (lo + hi) / 2, rfl, by rw [show ((lo : Int) + (hi : Int)) / 2 = (((lo + hi) / 2 : Nat) : Int) by omega], by omega, by omega, Nat.le_refl _, Lib.hid (K1.out.trans k2), I2⟩
      · rw [e] at hc
        have I2 := Lib.hid (I.out.down HV.out hx q)
        clear hx e q2
        go_wp2_with (go_at_call 96; refine (hc.out _).mono ?_; rintro e w' ⟨rfl, k2⟩)
        go_roundg ((lo + hi) / 2 - lo)
        case measure => omega
        case rel => exact ⟨lo, (lo + hi) / 2, rfl, by rw [show ((lo : Int) + (hi : Int)) / 2 = (((lo + hi) / 2 : Nat) : Int) by omega], by omega, by omega, Nat.le_refl _, Lib.hid (K1.out.trans k2), I2⟩
    · obtain rfl : hi = lo := by omega
      have ep := I.out.place (by have := hlen.out; omega)
      by_cases hh : hi < n
      · obtain ⟨g, o, x, rfl, _, hx, _, cx0, cx1, cx2⟩ := (HR.out.old K1.out).get hh
        have hc := Lib.hid (fun V => by_any x p V)
        have eh := has_some (p := p) (by rw [ep]; exact hx)
        rw [HB.out] at eh
        rw [HK.out] at ep
        have ep := Lib.hid ep
        rcases cmp_ways x.a p with ⟨q, e⟩ | ⟨q, q1, e⟩ | ⟨q, q1, q2, e⟩
        · rw [e] at hc
          rw [decide_eq_false (by omega)] at eh
          have eh := Lib.hid eh
          clear hx e
          go_wp2_with (go_at_call 96; refine (hc.out _).mono ?_; rintro e w' ⟨rfl, k2⟩)
          go_ret2
          exact ⟨by rw [ep.out, eh.out]; rfl, K1.out.trans k2⟩
        · rw [e] at hc
          rw [decide_eq_false (by omega)] at eh
          have eh := Lib.hid eh
          clear hx e
          go_wp2_with (go_at_call 96; refine (hc.out _).mono ?_; rintro e w' ⟨rfl, k2⟩)
          go_ret2
          exact ⟨by rw [ep.out, eh.out]; rfl, K1.out.trans k2⟩
        · rw [e] at hc
          rw [decide_eq_true q2] at eh
          have eh := Lib.hid eh
          clear hx e q2
          go_wp2_with (go_at_call 96; refine (hc.out _).mono ?_; rintro e w' ⟨rfl, k2⟩)
          go_ret2
          exact ⟨by rw [ep.out, eh.out]; rfl, K1.out.trans k2⟩
      · have eh := has_none (l := l) (p := p) (by rw [ep]; exact List.getElem?_eq_none (by have := hlen.out; omega))
        rw [HB.out] at eh
        rw [HK.out] at ep
        have ep := Lib.hid ep
        have eh := Lib.hid eh
        go_wp2
        go_ret2
        exact ⟨by rw [ep.out, eh.out]; rfl, K1.out⟩
end Go.Proofs.YtcndilpaijapkaaGreat.Sf
