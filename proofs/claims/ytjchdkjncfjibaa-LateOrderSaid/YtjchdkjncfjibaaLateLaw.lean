/-
  The law's own: its example (awake); whether all pages are spans' first ones (May); whether two queues are alike (Same). Own work; each is proved by a walk through the landed text.
-/
import Derived.Test.YtjchdkjncfjibaaRows
import Derived.Test.YtjchdkjncfjibaaLateRput
import Derived.Test.YtjchdkjncfjibaaIntSame
import Derived.WalkKit
import Derived.ProofKit
import Derived.OpenShut
import Derived.Outline
import Derived.Deep.Light
import Derived.Deep.QuietTactic
import Derived.BigQuiet
import Derived.IntWalk
import Derived.StillTailTactics
import Derived.RegionTactic
import Derived.Deep.RegionLaw
import Derived.Deep.RegionHeld3
namespace Go.Proofs.Ytjchdkjncfjibaa.Lq
open Go.ChangeShapes Go.WideShapes Go.ChangeAt Go.RowKit
set_option maxRecDepth 100000

theorem nn {A : Option Addr} {n c : Nat} (hc : n ≤ c) (h : A = none → c = 0) : A = none → n = 0 ∧ c = 0 := fun e => ⟨by have := h e; omega, h e⟩
theorem lput_lit {on : Bool} {l : List Int} {p C : Int} {L : List Int} {B : Bool} (e1 : putB on l p = B) (e2 : putL on l p = L) (e3 : putC on l p = C) (A : Option Addr) (n c : Nat) (w : World) (h : RsI w A n l) (hm : MayL l) (hp : inI p) (hn : n ≤ 9000) (hc : n ≤ c) (hA : A = none → c = 0) :
    Calls Try.prog 11 #[lt on A n c, .int .i64 p] w (PutPost B L C w) := by
  subst e1 e2 e3
  exact lput_any on A n c l p w h hm hp hn (nn hc hA)
theorem lhas_lit {l : List Int} {p : Int} {B : Bool} (e : decide (p ∈ l) = B) (on : Bool) (A : Option Addr) (n c : Nat) (w : World) (h : RsI w A n l) (hn : n ≤ 9000) :
    Calls Try.prog 13 #[lt on A n c, .int .i64 p] w fun e w' => e = .returned (.bool B) ∧ Kept Old w w' := by
  subst e
  exact lhas_any on A n c l p w h hn
theorem awake_any (w : World) : Calls Try.prog 8 #[] w fun e w' => e = .returned (.bool true) ∧ Kept Old w w' := by
  have c1 := Lib.hid (fun W => lput_lit (on := false) (l := []) (p := 0) (C := 9) (L := []) (B := false) (by decide) (by decide) (by decide) none 0 0 W (RsI.nil _ _) MayL.nil ⟨by decide, by decide⟩ (by omega) (by omega) (fun _ => rfl))
  have c3 := Lib.hid (fun A n c W h hn hc hA => lput_lit (on := true) (l := []) (p := 16) (C := 0) (L := [16]) (B := true) (by decide) (by decide) (by decide) A n c W h MayL.nil ⟨by decide, by decide⟩ hn hc hA)
  have c4 := Lib.hid (fun A n c W h hn => lhas_lit (l := [16]) (p := 16) (B := true) (by decide) true A n c W h hn)
  go_enter Try.func8, Try.ntmps8
  go_wp2_with fail
  refine (c1.out _).mono ?_
  rintro e w1 ⟨v, rfl, A1, n1, d1, rfl, R1, _, _, k1⟩
  have K1 := Lib.hid k1
  clear k1 R1
  go_wp2_with fail
  refine (lset_any false none 0 0 [] true _ (RsI.nil _ _) (by omega) (fun _ => ⟨rfl, rfl⟩)).mono ?_
  rintro e w2 ⟨v, rfl, A2, n2, d2, rfl, R2, h2, hA2, k2⟩
  obtain rfl : n2 = 0 := R2.len.symm
  have K2 := Lib.hid ((K1.out.alloc _).trans k2)
  have R2 := Lib.hid R2
  clear k2
  go_wp2_with fail
  refine (c3.out _ _ _ _ R2.out (by omega) h2 hA2.1).mono ?_
  rintro e w3 ⟨v, rfl, A3, n3, d3, rfl, R3, h3, hA3, k3⟩
  obtain rfl : n3 = 1 := R3.len.symm
  have K3 := Lib.hid ((K2.out.trans k3).alloc (.cells #[.bool true, .slice A3 1 d3] 24))
  have R3 := Lib.hid (R3.old ((Kept.refl Old w3).alloc (.cells #[.bool true, .slice A3 1 d3] 24)))
  clear k3 hA2 hA3 R2
  go_wp2_with fail
  refine (c4.out _ _ _ _ R3.out (by omega)).mono ?_
  rintro e w4 ⟨rfl, k4⟩
  have B := (Bq.new w3 true (.slice A3 1 d3)).old k4
  have b1 := B.c1
  have K4 := Lib.hid (K3.out.trans k4)
  clear k4 B
  go_wp2_with fail
  go_ret
  exact ⟨rfl, K4.out⟩

theorem same_yes (on : Bool) (A B : Option Addr) (n c d : Nat) (l : List Int) (w : World) (ha : RsI w A n l) (hb : RsI w B n l) (hn : n ≤ 10000) :
    Calls Try.prog 16 #[lt on A n c, lt on B n d] w fun e w' => e = .returned (.bool true) ∧ Kept Old w w' := by
  have K1 := Lib.hid (kept2 w (.cells #[.bool on, .slice A n c] 24) (.cells #[.bool on, .slice B n d] 24))
  have C := Lib.hid (sameInts_any A B n c d l _ (ha.old K1.out) (hb.old K1.out) (by omega))
  clear ha hb
  go_enter Try.func16, Try.ntmps16
  go_wp2_with fail
  refine C.out.mono ?_
  rintro e w1 ⟨rfl, k1⟩
  go_wp2_with fail
  go_ret
  exact ⟨rfl, K1.out.trans k1⟩

/-- Are all of them first pages of spans? -/
def mayB (l : List Int) : Bool := l.all mayI
theorem mayB_yes {l : List Int} (h : mayB l = true) : MayL l := fun x hx => may_yes (List.all_eq_true.1 h x hx)
theorem may_any (on : Bool) (A : Option Addr) (n c : Nat) (l : List Int) (w : World) (h : RsI w A n l) (hn : n ≤ 9000) :
    Calls Try.prog 7 #[lt on A n c] w fun e w' => e = .returned (.bool (mayB l)) ∧ Kept Old w w' := by
  have B0 := Lib.hid (Bq.new w on (.slice A n c))
  have K1 := Lib.hid ((Kept.refl Old w).alloc (.cells #[.bool on, .slice A n c] 24))
  have a1 := B0.out.c1
  have HR := Lib.hid (h.old K1.out)
  have hlen := Lib.hid h.len
  obtain ⟨r, hr⟩ : ∃ r, mayB l = r := ⟨_, rfl⟩
  rw [hr]
  have HQ := Lib.hid hr
  clear h hr
  go_enter Try.func7, Try.ntmps7
  go_wp2_with fail
  go_loopw [3] (fun i wr => ∃ k : Nat, k ≤ n ∧ i = .int .i64 (k : Int) ∧ Hid (mayB (l.take k) = true) ∧ (w.alloc (.cells #[.bool on, .slice A n c] 24)) = wr) (fun i _ => n - (intOf i).toNat)
  case atStart => exact ⟨0, by omega, rfl, Lib.hid (by simp [mayB]), rfl⟩
  case round =>
    obtain ⟨k, hk, rfl, HB, rfl⟩ := hrel
    by_cases d : k < n
    · obtain ⟨g, o, x, rfl, _, hx, _, cx⟩ := HR.out.get d
      have hx := Lib.hid hx
      have e : mayB (l.take (k + 1)) = mayI x := by
        unfold mayB
        rw [Fi.take_atI hx.out, List.all_append, show (l.take k).all mayI = true from HB.out]
        simp
      have no : mayI x = false → r = false := fun hf => by
        rw [← HQ.out]
        cases hm : mayB l with
        | false => rfl
        | true => have := List.all_eq_true.1 hm x (List.mem_of_getElem? hx.out); rw [hf] at this; cases this
      by_cases x0 : x < 0
      · have P := Lib.hid (no (decide_eq_false (by omega)))
        clear no e hx
        go_wp2_with fail
        go_ret
        exact ⟨by rw [P.out]; rfl, K1.out⟩
      · by_cases x1 : 248 < x
        · have P := Lib.hid (no (decide_eq_false (by omega)))
          clear no e hx
          go_wp2_with fail
          go_ret
          exact ⟨by rw [P.out]; rfl, K1.out⟩
        · have E := Lib.hid (e.trans (decide_eq_true (by omega)))
          clear no e hx
          go_wp2_with fail
          refine ⟨⟨k + 1, by omega, by go_num, E, by first | trivial | rfl⟩, ?_⟩
          simp [intOf]; omega
    · obtain rfl : k = n := by omega
      have P := Lib.hid (show r = true from by have := HB.out; rw [← hlen.out, List.take_length] at this; exact HQ.out.symm.trans this)
      go_wp2_with fail
      go_ret
      exact ⟨by rw [P.out]; rfl, K1.out⟩
end Go.Proofs.Ytjchdkjncfjibaa.Lq
