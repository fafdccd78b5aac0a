/-
  That the program and the document answer alike of right runs. Own work; each is proved by a walk through the landed text.
-/
import Derived.Test.YtlicfegpdegamaaRows
import Derived.Test.YtlicfegpdegamaaRunsMem
import Derived.Test.YtlicfegpdegamaaRunsCalls
import Derived.Test.YtlicfegpdegamaaRunsPutAll
import Derived.Test.YtlicfegpdegamaaRunsTake
import Derived.Test.YtlicfegpdegamaaRunsRtake
import Derived.Test.YtlicfegpdegamaaRunsRputOk
import Derived.Test.YtlicfegpdegamaaRunsRright
import Derived.WalkKit
import Derived.ProofKit
import Derived.OpenShut
import Derived.Outline
import Derived.Deep.Light
import Derived.Deep.QuietTactic
import Derived.BigQuiet
import Derived.IntWalk
import Derived.StillTailTactics
import Derived.RegionTactic
import Derived.Deep.RegionLaw
import Derived.ChangeAlike
import Derived.Deep.RegionHeld3
import Derived.Deep.CutRange
namespace Go.Proofs.Ytlicfegpdegamaa
open Go.ChangeShapes Go.WideShapes Go.ChangeAt Go.RowKit
set_option maxRecDepth 100000

def Out3 (L : List R) (x code : Int) (w : World) (e : Ending) (w' : World) : Prop := ∃ v, e = .returned (.tuple #[v, .int .i64 x, .int .i64 code]) ∧ Made1 L w v w'
def Out2 (L : List R) (code : Int) (w : World) (e : Ending) (w' : World) : Prop := ∃ v, e = .returned (.tuple #[v, .int .i64 code]) ∧ Made1 L w v w'
theorem none_made {w w' : World} (k : Kept Old w w') : Made1 [] w (.slice none 0 0) w' := ⟨none, 0, 0, rfl, Rs.nil _ _, Nat.le_refl _, fun _ => rfl, k⟩
theorem right_n {w : World} {A : Option Addr} {n : Nat} {l : List R} (h : Rs w A n l) (hr : Right 256 0 l) : n ≤ 257 := by
  have := hr.len (by omega)
  have := h.len
  omega
theorem fit_both (l : List R) (m : Int) (hr : Right 256 0 l) : ∃ (k : Int) (b : Bool),
    (∀ A n c w, Rs w A n l → Calls Try.prog 22 #[.slice A n c, .int .i64 m] w fun e w' => e = .returned (.tuple #[.int .i64 k, .bool b]) ∧ Kept Old w w') ∧
    (∀ A n c w, Rs w A n l → Calls Try.prog 25 #[.slice A n c, .int .i64 m] w fun e w' => e = .returned (.tuple #[.int .i64 k, .bool b]) ∧ Kept Old w w') := by
  by_cases hm : m < 1
  · exact ⟨0, false, fun A n c w _ => fit_bad A n c m w hm, fun A n c w h => rfit_no A n c l m w h (.inl hm) (by have := right_n h hr; omega)⟩
  · cases hf : fitB l m with
    | false => exact ⟨0, false, fun A n c w h => fit_no A n c l m w h (by omega) hf (by have := right_n h hr; omega), fun A n c w h => rfit_no A n c l m w h (.inr hf) (by have := right_n h hr; omega)⟩
    | true =>
      obtain ⟨i, x, f⟩ := fits_of hf
      exact ⟨i, true, fun A n c w h => fit_ok A n c l m i x w h (by omega) f (by have := right_n h hr; omega), fun A n c w h => rfit_ok A n c l m i x w h (by omega) f (by have := right_n h hr; omega)⟩
theorem take_both (l : List R) (m : Int) (hr : Right 256 0 l) : ∃ (L : List R) (x code : Int), Right 256 0 L ∧
    (∀ A n c w, Rs w A n l → n ≤ c → Calls Try.prog 13 #[.slice A n c, .int .i64 m] w (Out3 L x code w)) ∧
    (∀ A n c w, Rs w A n l → Calls Try.prog 14 #[.slice A n c, .int .i64 m] w (Out3 L x code w)) := by
  by_cases hm : m < 1
  · exact ⟨[], 0, 1, trivial, fun A n c w _ _ => (take_bad A n c m w hm).mono fun e w' h => ⟨_, h.1, none_made h.2⟩, fun A n c w h => (rtake_bad A n c m w hm).mono fun e w' h => ⟨_, h.1, none_made h.2⟩⟩
  · cases hf : fitB l m with
    | false => exact ⟨[], 0, 3, trivial, fun A n c w h _ => (take_full A n c l m w h (by omega) hf (by have := right_n h hr; omega)).mono fun e w' h => ⟨_, h.1, none_made h.2⟩, fun A n c w h => (rtake_full A n c l m w h (by omega) hf (by have := right_n h hr; omega)).mono fun e w' h => ⟨_, h.1, none_made h.2⟩⟩
    | true =>
      obtain ⟨i, x, f⟩ := fits_of hf
      exact ⟨takeL l m i x, x.1, 0, right_take hr f (by omega), fun A n c w h hc => take_ok A n c l m i x w h hr hc (by omega) f (by have := right_n h hr; omega), fun A n c w h => rtake_ok A n c l m i x w h hr (by omega) f (by have := right_n h hr; omega)⟩
theorem put_both (l : List R) (r : R) (hr : Right 256 0 l) (h64 : in64 r.2) : ∃ (L : List R) (code : Int), Right 256 0 L ∧
    (∀ A n c w, Rs w A n l → n ≤ c → (A = none → c = 0) → Calls Try.prog 15 #[.slice A n c, run r] w (Out2 L code w)) ∧
    (∀ A n c w, Rs w A n l → Calls Try.prog 16 #[.slice A n c, run r] w (Out2 L code w)) := by
  cases hb : liesB r 256 with
  | false => exact ⟨[], 1, trivial, fun A n c w _ _ _ => (put_bad A n c r w h64 hb).mono fun e w' h => ⟨_, h.1, none_made h.2⟩, fun A n c w _ => (rput_bad A n c r w hb).mono fun e w' h => ⟨_, h.1, none_made h.2⟩⟩
  | true =>
    obtain ⟨h0, h1, h2⟩ := of_decide_eq_true hb
    cases hf : freeB l r.1 r.2 with
    | false => exact ⟨[], 4, trivial, fun A n c w h _ _ => (put_twice A n c l r w h hr (by have := right_n h hr; omega) h0 h1 h2 hf).mono fun e w' h => ⟨_, h.1, none_made h.2⟩, fun A n c w h => (rput_twice A n c l r w h hr (by have := right_n h hr; omega) h0 h1 h2 hf).mono fun e w' h => ⟨_, h.1, none_made h.2⟩⟩
    | true => exact ⟨putL l r.1 r.2, 0, right_put hr h0 h0 h1 h2 (free_mem hf), fun A n c w h hc hA => put_ok A n c l r w h hr hc hA (by have := right_n h hr; omega) h0 h1 h2 hf, fun A n c w h => rput_ok A n c l r w h hr (by have := right_n h hr; omega) h0 h1 h2 hf⟩
set_option maxHeartbeats 8000000 in
theorem same_any (A : Option Addr) (n c : Nat) (l : List R) (m p : Int) (r : R) (w : World) (h : Rs w A n l) (hr : Right 256 0 l) (hc : n ≤ c) (hA : A = none → c = 0) (h64 : in64 r.2) :
    Calls Try.prog 12 #[.slice A n c, .int .i64 m, .int .i64 p, run r] w fun e w' => e = .returned (.bool true) ∧ Kept Old w w' := by
  obtain ⟨k, b, F1, F2⟩ := fit_both l m hr
  obtain ⟨L1, x1, code1, R1, T1, T2⟩ := take_both l m hr
  obtain ⟨L2, code2, R2, P1, P2⟩ := put_both l r hr h64
  have HR := Lib.hid h
  have HT := Lib.hid hr
  have HA := Lib.hid hA
  have F1 := Lib.hid F1
  have F2 := Lib.hid F2
  have T1 := Lib.hid T1
  have T2 := Lib.hid T2
  have P1 := Lib.hid P1
  have P2 := Lib.hid P2
  have R1 := Lib.hid R1
  have R2 := Lib.hid R2
  clear h hr hA h64
  go_enter Try.func12, Try.ntmps12
  go_wp2_with fail
  refine (F1.out _ _ _ _ (HR.out.old ((Kept.refl Old w).alloc _))).mono ?_
  rintro e w1 ⟨rfl, q⟩
  have B := Lib.hid ((Bx.new w r).old q)
  have K := Lib.hid (((Kept.refl Old w).alloc _).trans q)
  clear q
  go_wp2_with fail
  refine (F2.out _ _ _ _ (HR.out.old K.out)).mono ?_
  rintro e w2 ⟨rfl, q⟩
  have B := Lib.hid (B.out.old q)
  have K := Lib.hid (K.out.trans q)
  clear q
  go_wp2_with fail
  refine (T1.out _ _ _ _ (HR.out.old K.out) hc).mono ?_
  rintro e w3 ⟨v1, rfl, A1, n1, c1, rfl, S1, _, _, q⟩
  have B := Lib.hid (B.out.old q)
  have K := Lib.hid (K.out.trans q)
  have S1 := Lib.hid S1
  clear q
  go_wp2_with fail
  refine (T2.out _ _ _ _ (HR.out.old K.out)).mono ?_
  rintro e w4 ⟨v2, rfl, A2, n2, c2, rfl, S2, _, _, q⟩
  have B := Lib.hid (B.out.old q)
  have K := Lib.hid (K.out.trans q)
  have S1 := Lib.hid (S1.out.old q)
  have S2 := Lib.hid S2
  clear q
  have x0 := B.out.c0
  have x1' := B.out.c1
  go_wp2_with fail
  refine (P1.out _ _ _ _ (HR.out.old K.out) hc HA.out).mono ?_
  rintro e w5 ⟨v3, rfl, A3, n3, c3, rfl, S3, _, _, q⟩
  have B := Lib.hid (B.out.old q)
  have K := Lib.hid (K.out.trans q)
  have S1 := Lib.hid (S1.out.old q)
  have S2 := Lib.hid (S2.out.old q)
  have S3 := Lib.hid S3
  clear q x0 x1'
  have x0 := B.out.c0
  have x1' := B.out.c1
  go_wp2_with fail
  refine (P2.out _ _ _ _ (HR.out.old K.out)).mono ?_
  rintro e w6 ⟨v4, rfl, A4, n4, c4, rfl, S4, _, _, q⟩
  have K := Lib.hid (K.out.trans q)
  have S1 := Lib.hid (S1.out.old q)
  have S2 := Lib.hid (S2.out.old q)
  have S3 := Lib.hid (S3.out.old q)
  have S4 := Lib.hid S4
  clear q x0 x1'
  obtain rfl : n2 = n1 := by have := S1.out.len; have := S2.out.len; omega
  obtain rfl : n4 = n3 := by have := S3.out.len; have := S4.out.len; omega
  go_wp2_with fail
  refine (same_yes A1 A2 n2 c1 c2 L1 _ S1.out S2.out (by have := right_n S1.out R1.out; omega)).mono ?_
  rintro e w7 ⟨rfl, q⟩
  have K := Lib.hid (K.out.trans q)
  have S3 := Lib.hid (S3.out.old q)
  have S4 := Lib.hid (S4.out.old q)
  clear q
  go_wp2_with fail
  refine (same_yes A3 A4 n4 c3 c4 L2 _ S3.out S4.out (by have := right_n S3.out R2.out; omega)).mono ?_
  rintro e w8 ⟨rfl, q⟩
  have K := Lib.hid (K.out.trans q)
  clear q
  go_wp2_with fail
  refine (total_any A n c l _ (HR.out.old K.out) HT.out).mono ?_
  rintro e w9 ⟨rfl, q⟩
  have K := Lib.hid (K.out.trans q)
  clear q
  go_wp2_with fail
  refine (rtotal_any A n c l _ (HR.out.old K.out) HT.out).mono ?_
  rintro e w10 ⟨rfl, q⟩
  have K := Lib.hid (K.out.trans q)
  clear q
  go_wp2_with fail
  refine (most_any A n c l _ (HR.out.old K.out) HT.out).mono ?_
  rintro e w11 ⟨rfl, q⟩
  have K := Lib.hid (K.out.trans q)
  clear q
  go_wp2_with fail
  refine (rmost_any A n c l _ (HR.out.old K.out) HT.out).mono ?_
  rintro e w12 ⟨rfl, q⟩
  have K := Lib.hid (K.out.trans q)
  clear q
  go_wp2_with fail
  refine (has_any A n c l p _ (HR.out.old K.out) HT.out).mono ?_
  rintro e w13 ⟨rfl, q⟩
  have K := Lib.hid (K.out.trans q)
  clear q
  go_wp2_with fail
  refine (rhas_any A n c l p _ (HR.out.old K.out) HT.out).mono ?_
  rintro e w14 ⟨rfl, q⟩
  have K := Lib.hid (K.out.trans q)
  clear q
  go_wp2_with fail
  go_ret
  exact ⟨rfl, K.out⟩
end Go.Proofs.Ytlicfegpdegamaa
