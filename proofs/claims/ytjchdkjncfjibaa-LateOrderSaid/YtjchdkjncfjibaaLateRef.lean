/-
  What the document's own SetLate, PutLate, NextLate and HasLate answer. Own work; each is proved by a walk through the landed text.
-/
import Derived.Test.YtjchdkjncfjibaaRows
import Derived.Test.YtjchdkjncfjibaaLateNext
import Derived.WalkKit
import Derived.ProofKit
import Derived.OpenShut
import Derived.Outline
import Derived.Deep.Light
import Derived.Deep.QuietTactic
import Derived.BigQuiet
import Derived.IntWalk
import Derived.StillTailTactics
import Derived.RegionTactic
import Derived.Deep.RegionLaw
import Derived.Deep.RegionHeld3
namespace Go.Proofs.Ytjchdkjncfjibaa.Lq
open Go.ChangeShapes Go.WideShapes Go.ChangeAt Go.RowKit
set_option maxRecDepth 100000

theorem rover_any (q p : Int) (w : World) (hq : 0 ≤ q ∧ q ≤ 248) (hp : 0 ≤ p ∧ p ≤ 248) :
    Calls Try.prog 24 #[.int .i64 q, .int .i64 8, .int .i64 p, .int .i64 8] w fun e w' => e = .returned (.bool (hitI q p)) ∧ w = w' := by
  obtain ⟨q0, q1⟩ := hq
  obtain ⟨p0, p1⟩ := hp
  by_cases d : q < p + 8
  · by_cases d2 : p < q + 8
    · rw [show hitI q p = true from decide_eq_true ⟨d2, d⟩]
      go_enter Try.func24, Try.ntmps24
      go_wp2
      go_ret
      exact ⟨rfl, rfl⟩
    · rw [show hitI q p = false from decide_eq_false (by omega)]
      go_enter Try.func24, Try.ntmps24
      go_wp2
      go_ret
      exact ⟨rfl, rfl⟩
  · rw [show hitI q p = false from decide_eq_false (by omega)]
    go_enter Try.func24, Try.ntmps24
    go_wp2
    go_ret
    exact ⟨rfl, rfl⟩
theorem empty_own (V : World) : OwI (V.alloc (.cells #[] 3)) V.heap.size (.slice (some ⟨V.heap.size, 0, none⟩) 0 0) 0 [] := OwI.made V V.heap.size 0 #[] (Nat.le_refl _) (Nat.zero_le _) rfl
theorem rset_any (on : Bool) (A : Option Addr) (n c : Nat) (l : List Int) (x : Bool) (w : World) (h : RsI w A n l) (hn : n ≤ 9000) (hA : A = none → n = 0 ∧ c = 0) :
    Calls Try.prog 19 #[lt on A n c, .bool x] w (SetPost x l w) := by
  have hA := Lib.hid hA
  have K1 := Lib.hid (kept2 w (.cells #[.bool on, .slice A n c] 24) (.cells #[.bool false, .slice none 0 0] 24))
  have B1 := Lib.hid (Bq.new2 w (.cells #[.bool on, .slice A n c] 24) _ false (.slice none 0 0) rfl)
  have B0 := Lib.hid ((Bq.new w on (.slice A n c)).alloc (.cells #[.bool false, .slice none 0 0] 24))
  have a1 := B0.out.c1
  have HR := Lib.hid (h.old K1.out)
  clear h
  generalize hW : ((w.alloc (.cells #[.bool on, .slice A n c] 24)).alloc (.cells #[.bool false, .slice none 0 0] 24)) = V at *
  have hW2 := Lib.hid hW
  have EO := Lib.hid (empty_own V)
  have EK := Lib.hid ((Kept.refl Old V).alloc (.cells #[] 3))
  have hV : w.heap.size < V.heap.size := by rw [← hW2.out]; simp; omega
  go_enter Try.func19, Try.ntmps19
  go_wp2_with (first
    | (at_builtin; refine app_wpI rfl (.tmp 6) (.tmp 8) rfl rfl V.heap.size (.slice (some ⟨V.heap.size, 0, none⟩) 0 0) 0 [] rfl EO.out A n c l rfl (HR.out.old EK.out) hA.out (by omega) (by omega) EK.out.size n (by omega) l (by simp) ?_; intro v6 w6 O6 k6 a6; obtain ⟨A6, c6, rfl, _⟩ := O6.out.rs; have K6 := Lib.hid (EO.out.step EK.out k6.out); have B2 := Lib.hid (B1.out.old K6.out); have b0 := B2.out.c0; have b1 := B2.out.c1; have f0 := B2.out.f0; have f1 := B2.out.f1; clear k6 a6))
  obtain ⟨W, hW3, r0, r1, K'⟩ := Bq.end2 B2.out (made_endI O6.out K6.out) K1.out (by omega) (by rw [← hW2.out]; simp) x
  rw [hW3]
  exact bodyPost_ret (v := .agg #[.bool x, .slice A6 n c6]) (by simp [results, Try.results19, go_sem, r0, r1]) rfl ⟨_, rfl, K'⟩

theorem rhas_any (on : Bool) (A : Option Addr) (n c : Nat) (l : List Int) (p : Int) (w : World) (h : RsI w A n l) (hn : n ≤ 9000) :
    Calls Try.prog 20 #[lt on A n c, .int .i64 p] w fun e w' => e = .returned (.bool (decide (p ∈ l))) ∧ Kept Old w w' := by
  have B0 := Lib.hid (Bq.new w on (.slice A n c))
  have K1 := Lib.hid ((Kept.refl Old w).alloc (.cells #[.bool on, .slice A n c] 24))
  have a1 := B0.out.c1
  have HR := Lib.hid (h.old K1.out)
  have hlen := Lib.hid h.len
  obtain ⟨r, hr⟩ : ∃ r, decide (p ∈ l) = r := ⟨_, rfl⟩
  rw [hr]
  have HQ := Lib.hid hr
  clear h hr
  go_enter Try.func20, Try.ntmps20
  go_wp2_with fail
  go_loopw [5] (fun i wr => ∃ k : Nat, k ≤ n ∧ i = .int .i64 (k : Int) ∧ Hid (p ∉ l.take k) ∧ (w.alloc (.cells #[.bool on, .slice A n c] 24)) = wr) (fun i _ => n - (intOf i).toNat)
  case atStart => exact ⟨0, by omega, rfl, Lib.hid (by simp), rfl⟩
  case round =>
    obtain ⟨k, hk, rfl, HB, rfl⟩ := hrel
    by_cases d : k < n
    · obtain ⟨g, o, x, rfl, _, hx, _, cx⟩ := HR.out.get d
      have hx := Lib.hid hx
      by_cases e : x = p
      · subst e
        have P := Lib.hid (show r = true from HQ.out.symm.trans (decide_eq_true (List.mem_of_getElem? hx.out)))
        clear hx
        go_wp2_with fail
        go_ret
        exact ⟨by rw [P.out]; rfl, K1.out⟩
      · have e' : (x == p) = false := by simp [e]
        have hs := Lib.hid (show p ∉ l.take (k + 1) from fun hm => by
          rw [Fi.take_atI hx.out] at hm
          rcases List.mem_append.1 hm with hm | hm
          · exact HB.out hm
          · exact e (List.mem_singleton.1 hm).symm)
        have ee := Lib.hid e
        clear e hx
        go_wp2_with fail
        refine ⟨⟨k + 1, by omega, by go_num, hs, by first | trivial | rfl⟩, ?_⟩
        simp [intOf]; omega
    · obtain rfl : k = n := by omega
      have P := Lib.hid (show r = false from HQ.out.symm.trans (decide_eq_false (by have := HB.out; rw [← hlen.out, List.take_length] at this; exact this)))
      go_wp2_with fail
      go_ret
      exact ⟨by rw [P.out]; rfl, K1.out⟩
end Go.Proofs.Ytjchdkjncfjibaa.Lq
