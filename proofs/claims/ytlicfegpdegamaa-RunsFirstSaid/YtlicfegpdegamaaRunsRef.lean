/-
  What the document's own functions on runs answer (but TakeRun and PutRun). Own work; each is proved by a walk through the landed text.
-/
import Derived.Test.YtlicfegpdegamaaRows
import Derived.Test.YtlicfegpdegamaaRunsMem
import Derived.Test.YtlicfegpdegamaaRunsCalls
import Derived.WalkKit
import Derived.ProofKit
import Derived.OpenShut
import Derived.Outline
import Derived.Deep.Light
import Derived.Deep.QuietTactic
import Derived.BigQuiet
import Derived.IntWalk
import Derived.StillTailTactics
import Derived.RegionTactic
import Derived.Deep.RegionLaw
import Derived.ChangeAlike
import Derived.Deep.RegionHeld3
namespace Go.Proofs.Ytlicfegpdegamaa
open Go.ChangeShapes Go.WideShapes Go.ChangeAt Go.RowKit
set_option maxRecDepth 100000

theorem rtotal_any (A : Option Addr) (n c : Nat) (l : List R) (w : World) (h : Rs w A n l) (hr : Right 256 0 l) : Calls Try.prog 26 #[.slice A n c] w fun e w' => e = .returned (.int .i64 (totalL l)) ∧ Kept Old w w' := by
  have hn : n ≤ 257 := by have := hr.len (by omega); have := h.len; omega
  have HR := Lib.hid h
  have HT := Lib.hid hr
  clear h hr
  go_enter Try.func26, Try.ntmps26
  go_wp2
  go_loopw [3, 4] (fun s i wr => ∃ k : Nat, k ≤ n ∧ s = .int .i64 (totalL (l.take k)) ∧ i = .int .i64 (k : Int) ∧ Hid (Kept Old w wr)) (fun _ i _ => n - (intOf i).toNat)
  case atStart => exact ⟨0, by omega, by simp [totalL], rfl, Lib.hid (Kept.refl _ _)⟩
  case round =>
    obtain ⟨k, hk, rfl, rfl, K⟩ := hrel
    rename World => W
    by_cases c : k < n
    · obtain ⟨g, o, x, rfl, _, hx, f1, f2, c0, c1⟩ := (HR.out.old K.out).get c
      have bx := HT.out.at hx
      have tb := total_le (HT.out.take k) (by omega)
      have ts := Lib.hid (total_snoc hx)
      generalize totalL (l.take k) = t at *
      clear hx
      go_wp2
      refine ⟨⟨k + 1, by omega, by rw [ts.out], by go_num, Lib.hid K.out⟩, ?_⟩
      simp [intOf]; omega
    · have e : l.take k = l := List.take_of_length_le (by have := HR.out.len; omega)
      rw [e]
      go_wp2
      go_ret
      exact ⟨rfl, K.out⟩
theorem rmost_any (A : Option Addr) (n c : Nat) (l : List R) (w : World) (h : Rs w A n l) (hr : Right 256 0 l) : Calls Try.prog 27 #[.slice A n c] w fun e w' => e = .returned (.int .i64 (mostL l)) ∧ Kept Old w w' := by
  have hn : n ≤ 257 := by have := hr.len (by omega); have := h.len; omega
  have HR := Lib.hid h
  have HT := Lib.hid hr
  clear h hr
  go_enter Try.func27, Try.ntmps27
  go_wp2
  go_loopw [3, 4] (fun s i wr => ∃ k : Nat, k ≤ n ∧ s = .int .i64 (mostL (l.take k)) ∧ i = .int .i64 (k : Int) ∧ Hid (Kept Old w wr)) (fun _ i _ => n - (intOf i).toNat)
  case atStart => exact ⟨0, by omega, by simp [mostL], rfl, Lib.hid (Kept.refl _ _)⟩
  case round =>
    obtain ⟨k, hk, rfl, rfl, K⟩ := hrel
    rename World => W
    by_cases c : k < n
    · obtain ⟨g, o, x, rfl, _, hx, f1, f2, c0, c1⟩ := (HR.out.old K.out).get c
      have ts := Lib.hid (most_snoc hx)
      generalize mostL (l.take k) = t at *
      clear hx
      go_wp2
      all_goals
        refine ⟨⟨k + 1, by omega, by rw [ts.out]; congr 1; omega, by go_num, Lib.hid K.out⟩, ?_⟩
        simp [intOf]; omega
    · have e : l.take k = l := List.take_of_length_le (by have := HR.out.len; omega)
      rw [e]
      go_wp2
      go_ret
      exact ⟨rfl, K.out⟩
theorem rfit_ok (A : Option Addr) (n c : Nat) (l : List R) (m : Int) (i : Nat) (x : R) (w : World) (h : Rs w A n l) (hm : 1 ≤ m) (f : Fits l m i x) (hn : n ≤ 1000) : Calls Try.prog 25 #[.slice A n c, .int .i64 m] w fun e w' => e = .returned (.tuple #[.int .i64 (i : Int), .bool true]) ∧ Kept Old w w' := by
  have hi : i < n := by have := f.lt; have := h.len; omega
  have HR := Lib.hid h
  have HF := Lib.hid f
  clear h f
  go_enter Try.func25, Try.ntmps25
  go_wp2
  go_loopw [6] (fun j wr => ∃ k : Nat, k ≤ i ∧ j = .int .i64 (k : Int) ∧ Hid (Kept Old w wr)) (fun j _ => i + 1 - (intOf j).toNat)
  case atStart => exact ⟨0, by omega, rfl, Lib.hid (Kept.refl _ _)⟩
  case round =>
    obtain ⟨k, hk, rfl, K⟩ := hrel
    rename World => W
    obtain ⟨g, o, y, rfl, _, hx, f1, f2, c0, c1⟩ := (HR.out.old K.out).get (k := k) (by omega)
    by_cases c : k < i
    · have : y.2 < m := HF.out.below y (List.mem_of_getElem? (i := k) (by rw [List.getElem?_take, if_pos c]; exact hx))
      clear hx
      go_wp2
      refine ⟨⟨k + 1, by omega, by go_num, Lib.hid K.out⟩, ?_⟩
      simp [intOf]; omega
    · obtain rfl : k = i := by omega
      have hb : m ≤ y.2 := by have := HF.out.at_; rw [hx] at this; obtain rfl := Option.some.inj this; exact HF.out.big
      clear hx
      go_wp2
      go_ret2
      exact ⟨rfl, K.out⟩
theorem rfit_no (A : Option Addr) (n c : Nat) (l : List R) (m : Int) (w : World) (h : Rs w A n l) (f : m < 1 ∨ fitB l m = false) (hn : n ≤ 1000) : Calls Try.prog 25 #[.slice A n c, .int .i64 m] w fun e w' => e = .returned (.tuple #[.int .i64 0, .bool false]) ∧ Kept Old w w' := by
  have HR := Lib.hid h
  have HF := Lib.hid (show m < 1 ∨ ∀ y ∈ l, y.2 < m from f.imp id fit_none)
  clear h f
  go_enter Try.func25, Try.ntmps25
  go_wp2
  go_loopw [6] (fun j wr => ∃ k : Nat, k ≤ n ∧ j = .int .i64 (k : Int) ∧ Hid (Kept Old w wr)) (fun j _ => n - (intOf j).toNat)
  case atStart => exact ⟨0, by omega, rfl, Lib.hid (Kept.refl _ _)⟩
  case round =>
    obtain ⟨k, hk, rfl, K⟩ := hrel
    rename World => W
    by_cases c : k < n
    · obtain ⟨g, o, y, rfl, _, hx, f1, f2, c0, c1⟩ := (HR.out.old K.out).get (k := k) (by omega)
      rcases (show m < 1 ∨ (1 ≤ m ∧ y.2 < m) from by rcases HF.out with q | q; exact .inl q; have := q y (List.mem_of_getElem? hx); omega) with q | ⟨q, q'⟩
      all_goals
        clear hx
        go_wp2
        refine ⟨⟨k + 1, by omega, by go_num, Lib.hid K.out⟩, ?_⟩
        simp [intOf]; omega
    · go_wp2
      go_ret2
      exact ⟨rfl, K.out⟩
theorem rhas_any (A : Option Addr) (n c : Nat) (l : List R) (p : Int) (w : World) (h : Rs w A n l) (hr : Right 256 0 l) : Calls Try.prog 28 #[.slice A n c, .int .i64 p] w fun e w' => e = .returned (.bool (hasB l p)) ∧ Kept Old w w' := by
  have hn : n ≤ 257 := by have := hr.len (by omega); have := h.len; omega
  have HR := Lib.hid h
  have HT := Lib.hid hr
  clear h hr
  go_enter Try.func28, Try.ntmps28
  go_wp2
  go_loopw [5] (fun i wr => ∃ k : Nat, k ≤ n ∧ i = .int .i64 (k : Int) ∧ Hid (hasB (l.take k) p = false) ∧ Hid (Kept Old w wr)) (fun i _ => n - (intOf i).toNat)
  case atStart => exact ⟨0, by omega, rfl, Lib.hid (by simp [hasB]), Lib.hid (Kept.refl _ _)⟩
  case round =>
    obtain ⟨k, hk, rfl, HB, K⟩ := hrel
    rename World => W
    by_cases c : k < n
    · obtain ⟨g, o, x, rfl, _, hx, f1, f2, c0, c1⟩ := (HR.out.old K.out).get c
      have bx := HT.out.at hx
      have wr : IntKind.i64.wrap (x.1 + x.2) = x.1 + x.2 := IntWalk.i64_in _ (by omega)
      have hs := Lib.hid (has_snoc p hx)
      have hy := Lib.hid (has_hit (g := p) hx)
      clear hx f1 f2
      by_cases d : x.1 ≤ p
      · have d' : decide (x.1 ≤ p) = true := decide_eq_true d
        by_cases d2 : p < x.1 + x.2
        · have d2' : decide (p < x.1 + x.2) = true := decide_eq_true d2
          have P : hasB l p = true := hy.out ⟨d, d2⟩
          go_wp2_with fail
          go_quiet (fail)
          go_wp2
          go_ret
          exact ⟨by rw [P]; rfl, K.out.drewN _⟩
        · have d2' : decide (p < x.1 + x.2) = false := decide_eq_false d2
          go_wp2_with fail
          go_quiet (fail)
          go_wp2
          refine ⟨⟨k + 1, by omega, by go_num, Lib.hid (hs.out HB.out (by omega)), Lib.hid (K.out.drewN _)⟩, ?_⟩
          simp [intOf]; omega
      · have d' : decide (x.1 ≤ p) = false := decide_eq_false d
        go_wp2_with fail
        go_quiet (fail)
        go_wp2
        refine ⟨⟨k + 1, by omega, by go_num, Lib.hid (hs.out HB.out (by omega)), Lib.hid (K.out.drewN _)⟩, ?_⟩
        simp [intOf]; omega
    · have e : l.take k = l := List.take_of_length_le (by have := HR.out.len; omega)
      rw [e] at HB
      go_wp2
      go_ret
      exact ⟨by rw [HB.out]; rfl, K.out⟩
theorem over_no (x r : R) (w : World) (h0 : 0 ≤ x.1) (h1 : 1 ≤ x.2) (h2 : x.1 + x.2 ≤ 256) (g0 : 0 ≤ r.1) (g1 : 1 ≤ r.2) (g2 : r.1 + r.2 ≤ 256) (c : x.1 + x.2 ≤ r.1 ∨ r.1 + r.2 ≤ x.1) :
    Calls Try.prog 31 #[.int .i64 x.1, .int .i64 x.2, .int .i64 r.1, .int .i64 r.2] w fun e w' => e = .returned (.bool false) ∧ Kept Old w w' := by
  by_cases d : x.1 < r.1 + r.2
  · have d2 : ¬ r.1 < x.1 + x.2 := by omega
    clear c
    go_enter Try.func31, Try.ntmps31
    go_wp2
    go_ret
    exact ⟨rfl, Kept.refl _ _⟩
  · clear c
    go_enter Try.func31, Try.ntmps31
    go_wp2
    go_ret
    exact ⟨rfl, Kept.refl _ _⟩
theorem over_yes (x r : R) (w : World) (h0 : 0 ≤ x.1) (h1 : 1 ≤ x.2) (h2 : x.1 + x.2 ≤ 256) (g0 : 0 ≤ r.1) (g1 : 1 ≤ r.2) (g2 : r.1 + r.2 ≤ 256) (c : x.1 < r.1 + r.2) (d : r.1 < x.1 + x.2) :
    Calls Try.prog 31 #[.int .i64 x.1, .int .i64 x.2, .int .i64 r.1, .int .i64 r.2] w fun e w' => e = .returned (.bool true) ∧ Kept Old w w' := by
  go_enter Try.func31, Try.ntmps31
  go_wp2
  go_ret
  exact ⟨rfl, Kept.refl _ _⟩
theorem same_yes (A B : Option Addr) (n c d : Nat) (l : List R) (w : World) (ha : Rs w A n l) (hb : Rs w B n l) (hn : n ≤ 1000) :
    Calls Try.prog 17 #[.slice A n c, .slice B n d] w fun e w' => e = .returned (.bool true) ∧ Kept Old w w' := by
  have HA := Lib.hid ha
  have HB := Lib.hid hb
  clear ha hb
  go_enter Try.func17, Try.ntmps17
  go_wp2
  go_loopw [5] (fun i wr => ∃ k : Nat, k ≤ n ∧ i = .int .i64 (k : Int) ∧ Hid (Kept Old w wr)) (fun i _ => n - (intOf i).toNat)
  case atStart => exact ⟨0, by omega, rfl, Lib.hid (Kept.refl _ _)⟩
  case round =>
    obtain ⟨k, hk, rfl, K⟩ := hrel
    rename World => W
    by_cases c : k < n
    · obtain ⟨g, o, x, rfl, _, hx, _, _, c0, c1⟩ := (HA.out.old K.out).get c
      obtain ⟨g', o', y, rfl, _, hy, _, _, e0, e1⟩ := (HB.out.old K.out).get c
      obtain rfl : x = y := by rw [hx] at hy; injection hy
      clear hx hy
      go_wp2_with fail
      go_quiet (fail)
      go_wp2
      refine ⟨⟨k + 1, by omega, by go_num, Lib.hid (K.out.drewN _)⟩, ?_⟩
      simp [intOf]; omega
    · go_wp2
      go_ret
      exact ⟨rfl, K.out⟩
theorem rright_ways (x : R) (p : Int) : (decide (x.2 < 1) = true ∧ ¬ (0 ≤ x.1 ∧ 1 ≤ x.2 ∧ x.1 + x.2 ≤ p)) ∨ (decide (x.2 < 1) = false ∧ decide (x.1 < 0) = true ∧ ¬ (0 ≤ x.1 ∧ 1 ≤ x.2 ∧ x.1 + x.2 ≤ p)) ∨ (decide (x.2 < 1) = false ∧ decide (x.1 < 0) = false ∧ decide (p < x.1) = true ∧ ¬ (0 ≤ x.1 ∧ 1 ≤ x.2 ∧ x.1 + x.2 ≤ p)) ∨
    (decide (x.2 < 1) = false ∧ decide (x.1 < 0) = false ∧ decide (p < x.1) = false ∧ decide (p - x.1 < x.2) = true ∧ ¬ (0 ≤ x.1 ∧ 1 ≤ x.2 ∧ x.1 + x.2 ≤ p)) ∨ (decide (x.2 < 1) = false ∧ decide (x.1 < 0) = false ∧ decide (p < x.1) = false ∧ decide (p - x.1 < x.2) = false ∧ (0 ≤ x.1 ∧ 1 ≤ x.2 ∧ x.1 + x.2 ≤ p)) := by
  simp only [decide_eq_false_iff_not, decide_eq_true_eq]
  omega
end Go.Proofs.Ytlicfegpdegamaa
