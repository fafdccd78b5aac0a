/-
  The law's own: its example (awake); the lists that numbers make (Made). Own work; each is proved by a walk through the landed text.
-/
import Derived.Test.YtiiojhmlagkcdaaRows
import Derived.Test.YtiiojhmlagkcdaaBigApp
import Derived.Test.YtiiojhmlagkcdaaSizeCalls
import Derived.Test.YtiiojhmlagkcdaaBigCalls
import Derived.Test.YtiiojhmlagkcdaaBigList
import Derived.Test.YtiiojhmlagkcdaaBigPut
import Derived.Test.YtiiojhmlagkcdaaBigRput
import Derived.Test.YtiiojhmlagkcdaaBigTake
import Derived.Test.YtiiojhmlagkcdaaBigRtake
import Derived.Test.YtiiojhmlagkcdaaBigRight
import Derived.Test.YtiiojhmlagkcdaaBigRright
import Derived.WalkKit
import Derived.ProofKit
import Derived.OpenShut
import Derived.Outline
import Derived.Deep.Light
import Derived.Deep.QuietTactic
import Derived.BigQuiet
import Derived.IntWalk
import Derived.StillTailTactics
import Derived.RegionTactic
import Derived.Deep.RegionLaw
import Derived.ChangeAlike
import Derived.Deep.RegionHeld3
import Derived.Deep.CutRange
namespace Go.Proofs.Ytiiojhmlagkcdaa.Bg
open Go.ChangeShapes Go.WideShapes Go.ChangeAt Go.RowKit
set_option maxRecDepth 100000




theorem awake_any (w : World) : Calls Try.prog 7 #[] w fun e w' => e = .returned (.bool true) ∧ Kept Old w w' := by
  have p1 : putC [] (0, 4) = 0 := by decide
  have p2 : putL [] (0, 4) = [(0, 4)] := by decide
  have q1 : takeC [(0, 4)] 4 = 0 := by decide
  have q2 : takeL [(0, 4)] 4 = [] := by decide
  have q3 : takeA [(0, 4)] 4 = 0 := by decide
  have c1 := Lib.hid (fun W => put_any none 0 0 [] (0, 4) W (Rs.nil _ _) RightL.nil ⟨⟨by decide, by decide⟩, ⟨by decide, by decide⟩⟩ (by omega) (by omega) (fun _ => rfl))
  rw [p1, p2] at c1
  clear p1 p2
  have q1 := Lib.hid q1
  have q2 := Lib.hid q2
  have q3 := Lib.hid q3
  go_enter Try.func7, Try.ntmps7
  go_wp2_with fail
  refine (c1.out _).mono ?_
  rintro e w1 ⟨v, rfl, A, n, c, rfl, R1, hc, hA, k1⟩
  obtain rfl : n = 1 := R1.len.symm
  have R1 := Lib.hid R1
  have K1 := Lib.hid k1
  clear k1 hA
  go_wp2_with fail
  refine (take_any _ _ _ _ _ _ R1.out (by omega) hc).mono ?_
  rw [q1.out, q2.out, q3.out]
  rintro e w2 ⟨v, rfl, A2, n2, c2, rfl, R2, hc2, hA2, k2⟩
  obtain rfl : n2 = 0 := R2.len.symm
  have K2 := Lib.hid (K1.out.trans k2)
  clear k2 hA2
  go_wp2_with fail
  go_ret
  exact ⟨rfl, K2.out⟩
/-! ### Made -/
def stepB (l : List R) (b : R) : List R := if putC l b = 0 then putL l b else l
/-- The list that numbers make: from place i on, behind l. -/
def mkB (z : Nat → Int) (len : Nat) : Nat → Nat → List R → List R
  | 0, _, l => l
  | f + 1, i, l => if i + 1 < len ∧ l.length < 40 then mkB z len f (i + 2) (stepB l (z i * 64, 4 + z (i + 1) % 4)) else l
def madeB (z : Nat → Int) (len : Nat) : List R := mkB z len len 0 []
theorem mk_end (z : Nat → Int) (len f i : Nat) (l : List R) (h : ¬ (i + 1 < len ∧ l.length < 40)) : mkB z len f i l = l := by
  cases f with
  | zero => rfl
  | succ f => rw [mkB, if_neg h]
theorem mk_more (z : Nat → Int) (len f i : Nat) (l : List R) (h : i + 1 < len) (h1 : l.length < 40) : mkB z len (f + 1) i l = mkB z len f (i + 2) (stepB l (z i * 64, 4 + z (i + 1) % 4)) := by
  rw [mkB, if_pos ⟨h, h1⟩]
theorem right_step {l : List R} (r : RightL l) (b : R) : RightL (stepB l b) := by
  unfold stepB
  split
  · exact right_put r b
  · exact r
theorem step_length (l : List R) (b : R) : (stepB l b).length ≤ l.length + 1 := by
  unfold stepB
  split
  · exact put_length l b
  · omega
theorem right_mk (z : Nat → Int) (len f i : Nat) (l : List R) (r : RightL l) (h : l.length ≤ 40) : RightL (mkB z len f i l) ∧ (mkB z len f i l).length ≤ 40 := by
  induction f generalizing i l with
  | zero => exact ⟨r, h⟩
  | succ f ih =>
    rw [mkB]
    split
    · rename_i c
      exact ih _ _ (right_step r _) (by have := step_length l (z i * 64, 4 + z (i + 1) % 4); omega)
    · exact ⟨r, h⟩
theorem right_made (z : Nat → Int) (len : Nat) : RightL (madeB z len) ∧ (madeB z len).length ≤ 40 := right_mk z len len 0 [] RightL.nil (Nat.zero_le _)
def MadePost (L : List R) (w : World) (e : Ending) (w' : World) : Prop := ∃ v, e = .returned v ∧ Made1 L w v w'
set_option maxHeartbeats 4000000 in
theorem made_any (A : Option Addr) (len cap : Nat) (z : Nat → Int) (w : World) (hl : len ≤ 9223372036854775807) (hz : ∀ i, i < len → 0 ≤ z i ∧ z i ≤ 255) (h : Sl w A 1 len fun i _ => .int .u8 (z i)) :
    Calls Try.prog 11 #[.slice A len cap] w (MadePost (madeB z len) w) := by
  have HS := Lib.hid h
  have HZ := Lib.hid hz
  clear h hz
  go_enter Try.func11, Try.ntmps11
  go_wp2_with fail
  go_loopw [3, 4] (fun v i wr => ∃ (k f : Nat) (l : List R), k ≤ len ∧ k % 2 = 0 ∧ len ≤ k + f ∧ i = .int .i64 (k : Int) ∧ Hid (madeB z len = mkB z len f k l) ∧ Hid (RightL l) ∧ l.length ≤ 40 ∧ Hid (Made1 l w v wr)) (fun _ i _ => len + 2 - (intOf i).toNat)
  case atStart => exact ⟨0, len, [], by omega, by omega, by omega, rfl, Lib.hid rfl, Lib.hid RightL.nil, Nat.zero_le _, Lib.hid (Made1.of_nil (Kept.refl _ _))⟩
  case round =>
    obtain ⟨k, f, l, hk, hk2, hf, rfl, HM, HA, hN, M⟩ := hrel
    rename World => V
    obtain ⟨A3, N, c3, rfl, R3, hc3, hA3, K3⟩ := M.out
    have lN : l.length = N := R3.len
    by_cases c : k + 1 < len
    · by_cases c2 : N < 40
      · obtain ⟨g, o, rfl, hg, hc⟩ := (HS.out.old K3).lies (by omega)
        have d0 := hc k 0 (by omega) (by omega)
        have d1 := hc (k + 1) 0 (by omega) (by omega)
        simp only [Nat.mul_one, Nat.add_zero] at d0 d1
        have z0 := HZ.out k (by omega)
        have z1 := HZ.out (k + 1) (by omega)
        obtain ⟨f, rfl⟩ : ∃ f', f = f' + 1 := ⟨f - 1, by omega⟩
        have HM2 := HM.out.trans (mk_more z len f k l c (by omega))
        generalize z k = u at *
        generalize z (k + 1) = t at *
        have fu : t.tmod 4 = t % 4 := Int.tmod_eq_emod_of_nonneg (by omega)
        obtain ⟨b, hb⟩ : ∃ b : R, b = (u * 64, 4 + t % 4) := ⟨_, rfl⟩
        have fb := Lib.hid (show in64 b.1 ∧ in64 b.2 from by rw [hb]; exact ⟨⟨by show -9223372036854775808 ≤ u * 64; omega, by show u * 64 ≤ 9223372036854775807; omega⟩, ⟨by show -9223372036854775808 ≤ 4 + t % 4; omega, by show 4 + t % 4 ≤ 9223372036854775807; omega⟩⟩)
        rw [← hb] at HM2
        have HM2 := Lib.hid HM2
        have C1 := Lib.hid (fun W (h : Kept Old V W) => rput_any A3 N c3 l b W (R3.old h) HA.out fb.out (by omega) hc3 hA3.1)
        have HA2 := Lib.hid (right_step HA.out b)
        have hN2 := step_length l b
        have KV := Lib.hid K3
        have ST := Lib.hid (show stepB l b = if putC l b = 0 then putL l b else l from rfl)
        generalize stepB l b = l2 at *
        generalize putC l b = C at *
        generalize putL l b = L at *
        clear hc K3 R3 hA3
        go_wp2_with fail
        have cd0 : World.cell? { heap := V.heap, tape := V.tape, drawn := V.drawn + 1, os := V.os, output := V.output } ⟨g, o + k, none⟩ = some (.int .u8 u) := d0
        have cd1 : World.cell? { heap := V.heap, tape := V.tape, drawn := V.drawn + 1, os := V.os, output := V.output } ⟨g, o + (k + 1), none⟩ = some (.int .u8 t) := d1
        have j0 : (k : Int) < (len : Int) := by omega
        have j1 : (k : Int) + 1 < (len : Int) := by omega
        have j2 : (0 : Int) ≤ (k : Int) + 1 := by omega
        have j3 : ((k : Int) + 1).toNat = k + 1 := by omega
        have j4 : IntKind.i64.wrap u = u := IntWalk.i64_in _ (by omega)
        have j5 : IntKind.i64.wrap t = t := IntWalk.i64_in _ (by omega)
        have j6 : IntKind.i64.wrap (t % 4) = t % 4 := IntWalk.i64_in _ (by omega)
        have j7 : IntKind.i64.wrap (u * 64) = u * 64 := IntWalk.i64_in _ (by omega)
        have j8 : IntKind.i64.wrap (4 + t % 4) = 4 + t % 4 := IntWalk.i64_in _ (by omega)
        have j9 : IntKind.i64.wrap ((k : Int) + 1) = (k : Int) + 1 := IntWalk.i64_in _ (by omega)
        subst hb
        go_region_with (go_at_call 24; refine (C1.out _ (by first | exact Kept.refl Old V | exact (Kept.refl Old V).drew)).mono ?_; rintro e V2 ⟨v2, rfl, M2⟩; have ML := Lib.hid (M.out.old (Kept.trans (D := Old) (by first | exact Kept.refl Old V | exact (Kept.refl Old V).drew) M2.kept)); have M2 := Lib.hid (M2.from (by first | exact KV.out | exact KV.out.drew)))
        all_goals
          by_cases q : C = 0
          · subst q
            have ST := ST.out
            rw [if_pos rfl] at ST
            subst ST
            go_wp2
            refine ⟨⟨k + 2, f, _, by omega, by omega, by omega, by go_num, HM2, HA2, by omega, M2⟩, ?_⟩
            simp [intOf]; omega
          · have q1 : (C == 0) = false := beq_eq_false_iff_ne.2 q
            have ST := ST.out
            rw [if_neg q] at ST
            subst ST
            clear q
            go_wp2
            refine ⟨⟨k + 2, f, _, by omega, by omega, by omega, by go_num, HM2, HA2, by omega, ML⟩, ?_⟩
            simp [intOf]; omega
      · have c' : (k : Int) + 1 < (len : Int) := by omega
        have w9 : IntKind.i64.wrap ((k : Int) + 1) = (k : Int) + 1 := IntWalk.i64_in _ (by omega)
        have P := Lib.hid (show MadePost (madeB z len) w (.returned (.slice A3 N c3)) V from ⟨_, rfl, by rw [HM.out, mk_end _ _ _ _ _ (by omega)]; exact M.out⟩)
        go_wp2
        go_ret
        exact P.out
    · have P := Lib.hid (show MadePost (madeB z len) w (.returned (.slice A3 N c3)) V from ⟨_, rfl, by rw [HM.out, mk_end _ _ _ _ _ (by omega)]; exact M.out⟩)
      have c' : ¬ (k : Int) + 1 < (len : Int) := by omega
      go_wp2
      go_ret
      exact P.out
end Go.Proofs.Ytiiojhmlagkcdaa.Bg
