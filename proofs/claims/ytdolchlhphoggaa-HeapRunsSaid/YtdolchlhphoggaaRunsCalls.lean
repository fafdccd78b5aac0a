/-
  What each function of package runs answers of right runs (and Right of any). Own work; each is proved by a walk through the landed text.
-/
import Derived.Test.YtdolchlhphoggaaRows
import Derived.Test.YtdolchlhphoggaaRunsMem
import Derived.WalkKit
import Derived.ProofKit
import Derived.OpenShut
import Derived.Outline
import Derived.Deep.Light
import Derived.Deep.QuietTactic
import Derived.BigQuiet
import Derived.IntWalk
import Derived.StillTailTactics
import Derived.RegionTactic
import Derived.Deep.RegionLaw
import Derived.ChangeAlike
import Derived.Deep.RegionHeld3
namespace Go.Proofs.Ytdolchlhphoggaa
open Go.ChangeShapes Go.WideShapes Go.ChangeAt Go.RowKit
set_option maxRecDepth 100000

theorem end_any (x : R) (w : World) (h : in64 (x.1 + x.2)) : Calls Try.prog 38 #[run x] w fun e w' => e = .returned (.int .i64 (x.1 + x.2)) ∧ Kept Old w w' := by
  obtain ⟨h1, h2⟩ := h
  go_enter Try.func38, Try.ntmps38
  go_wp2
  go_ret
  exact ⟨rfl, (Kept.refl _ _).alloc _⟩
def liesB (x : R) (p : Int) : Bool := decide (0 ≤ x.1 ∧ 1 ≤ x.2 ∧ x.1 + x.2 ≤ p)
theorem lies_cases (x : R) (p : Int) : (¬ 0 ≤ x.1 ∧ liesB x p = false ∧ True) ∨ (0 ≤ x.1 ∧ liesB x p = false ∧ ¬ 1 ≤ x.2) ∨ (0 ≤ x.1 ∧ liesB x p = false ∧ 1 ≤ x.2 ∧ ¬ x.1 ≤ p - x.2) ∨ (0 ≤ x.1 ∧ liesB x p = true ∧ 1 ≤ x.2 ∧ x.1 ≤ p - x.2) := by
  unfold liesB
  simp only [decide_eq_false_iff_not, decide_eq_true_eq, and_true]
  omega
theorem lies_any (x : R) (p : Int) (w : World) (h : in64 x.2) (hp : 0 ≤ p ∧ p ≤ 256) : Calls Try.prog 39 #[run x, .int .i64 p] w fun e w' => e = .returned (.bool (liesB x p)) ∧ Kept Old w w' := by
  obtain ⟨h1, h2⟩ := h
  obtain ⟨p1, p2⟩ := hp
  rcases lies_cases x p with ⟨c, e, _⟩ | ⟨c, e, d⟩ | ⟨c, e, d, f⟩ | ⟨c, e, d, f⟩
  all_goals
    rw [e]
    clear e
    go_enter Try.func39, Try.ntmps39
    go_wp2
    go_ret
    exact ⟨rfl, (Kept.refl _ _).alloc _⟩
theorem total_any (A : Option Addr) (n c : Nat) (l : List R) (w : World) (h : Rs w A n l) (hr : Right 256 0 l) : Calls Try.prog 24 #[.slice A n c] w fun e w' => e = .returned (.int .i64 (totalL l)) ∧ Kept Old w w' := by
  have hn : n ≤ 257 := by have := hr.len (by omega); have := h.len; omega
  have HR := Lib.hid h
  have HT := Lib.hid hr
  clear h hr
  go_enter Try.func24, Try.ntmps24
  go_wp2
  go_loopw [3, 8] (fun s i wr => ∃ k : Nat, k ≤ n ∧ s = .int .i64 (totalL (l.take k)) ∧ i = .int .i64 (k : Int) ∧ Hid (Kept Old w wr)) (fun _ i _ => n - (intOf i).toNat)
  case atStart => exact ⟨0, by omega, by simp [totalL], rfl, Lib.hid (Kept.refl _ _)⟩
  case round =>
    obtain ⟨k, hk, rfl, rfl, K⟩ := hrel
    rename World => W
    by_cases c : k < n
    · obtain ⟨g, o, x, rfl, _, hx, f1, f2, c0, c1⟩ := (HR.out.old K.out).get c
      have bx := HT.out.at hx
      have tb := total_le (HT.out.take k) (by omega)
      have ts := Lib.hid (total_snoc hx)
      generalize totalL (l.take k) = t at *
      clear hx
      go_wp2
      refine ⟨⟨k + 1, by omega, by rw [ts.out], by go_num, Lib.hid (K.out.alloc _)⟩, ?_⟩
      simp [intOf]; omega
    · have e : l.take k = l := List.take_of_length_le (by have := HR.out.len; omega)
      rw [e]
      go_wp2
      go_ret
      exact ⟨rfl, K.out⟩
theorem has_any (A : Option Addr) (n c : Nat) (l : List R) (p : Int) (w : World) (h : Rs w A n l) (hr : Right 256 0 l) : Calls Try.prog 22 #[.slice A n c, .int .i64 p] w fun e w' => e = .returned (.bool (hasB l p)) ∧ Kept Old w w' := by
  have hn : n ≤ 257 := by have := hr.len (by omega); have := h.len; omega
  have HR := Lib.hid h
  have HT := Lib.hid hr
  clear h hr
  go_enter Try.func22, Try.ntmps22
  go_wp2
  go_loopw [9] (fun i wr => ∃ k : Nat, k ≤ n ∧ i = .int .i64 (k : Int) ∧ Hid (hasB (l.take k) p = false) ∧ Hid (Kept Old w wr)) (fun i _ => n - (intOf i).toNat)
  case atStart => exact ⟨0, by omega, rfl, Lib.hid (by simp [hasB]), Lib.hid (Kept.refl _ _)⟩
  case round =>
    obtain ⟨k, hk, rfl, HB, K⟩ := hrel
    rename World => W
    by_cases c : k < n
    · obtain ⟨g, o, x, rfl, _, hx, f1, f2, c0, c1⟩ := (HR.out.old K.out).get c
      have bx := HT.out.at hx
      have hs := Lib.hid (has_snoc p hx)
      have hy := Lib.hid (has_hit (g := p) hx)
      clear hx
      have ei := Lib.hid (⟨by omega, by omega⟩ : in64 (x.1 + x.2))
      by_cases d : x.1 ≤ p
      · go_wp2_with fail
        refine (end_any x _ ei.out).mono ?_
        rintro e w' ⟨rfl, k1⟩
        by_cases d2 : p < x.1 + x.2
        · have P : hasB l p = true := hy.out ⟨d, d2⟩
          go_wp2
          go_ret
          exact ⟨by rw [P]; rfl, (K.out.alloc _).trans k1⟩
        · go_wp2
          refine ⟨⟨k + 1, by omega, by go_num, Lib.hid (hs.out HB.out (by omega)), Lib.hid ((K.out.alloc _).trans k1)⟩, ?_⟩
          simp [intOf]; omega
      · go_wp2
        refine ⟨⟨k + 1, by omega, by go_num, Lib.hid (hs.out HB.out (by omega)), Lib.hid (K.out.alloc _)⟩, ?_⟩
        simp [intOf]; omega
    · have e : l.take k = l := List.take_of_length_le (by have := HR.out.len; omega)
      rw [e] at HB
      go_wp2
      go_ret
      exact ⟨by rw [HB.out]; rfl, K.out⟩
theorem most_any (A : Option Addr) (n c : Nat) (l : List R) (w : World) (h : Rs w A n l) (hr : Right 256 0 l) : Calls Try.prog 26 #[.slice A n c] w fun e w' => e = .returned (.int .i64 (mostL l)) ∧ Kept Old w w' := by
  have hn : n ≤ 257 := by have := hr.len (by omega); have := h.len; omega
  have HR := Lib.hid h
  have HT := Lib.hid hr
  clear h hr
  go_enter Try.func26, Try.ntmps26
  go_wp2
  go_loopw [3, 8] (fun s i wr => ∃ k : Nat, k ≤ n ∧ s = .int .i64 (mostL (l.take k)) ∧ i = .int .i64 (k : Int) ∧ Hid (Kept Old w wr)) (fun _ i _ => n - (intOf i).toNat)
  case atStart => exact ⟨0, by omega, by simp [mostL], rfl, Lib.hid (Kept.refl _ _)⟩
  case round =>
    obtain ⟨k, hk, rfl, rfl, K⟩ := hrel
    rename World => W
    by_cases c : k < n
    · obtain ⟨g, o, x, rfl, _, hx, f1, f2, c0, c1⟩ := (HR.out.old K.out).get c
      have ts := Lib.hid (most_snoc hx)
      generalize mostL (l.take k) = t at *
      clear hx
      go_wp2
      all_goals
        refine ⟨⟨k + 1, by omega, by rw [ts.out]; congr 1; omega, by go_num, Lib.hid (K.out.alloc _)⟩, ?_⟩
        simp [intOf]; omega
    · have e : l.take k = l := List.take_of_length_le (by have := HR.out.len; omega)
      rw [e]
      go_wp2
      go_ret
      exact ⟨rfl, K.out⟩
theorem fit_ok (A : Option Addr) (n c : Nat) (l : List R) (m : Int) (i : Nat) (x : R) (w : World) (h : Rs w A n l) (hm : 1 ≤ m) (f : Fits l m i x) (hn : n ≤ 1000) : Calls Try.prog 28 #[.slice A n c, .int .i64 m] w fun e w' => e = .returned (.tuple #[.int .i64 (i : Int), .bool true]) ∧ Kept Old w w' := by
  have hi : i < n := by have := f.lt; have := h.len; omega
  have HR := Lib.hid h
  have HF := Lib.hid f
  clear h f
  go_enter Try.func28, Try.ntmps28
  go_wp2
  go_loopw [12] (fun j wr => ∃ k : Nat, k ≤ i ∧ j = .int .i64 (k : Int) ∧ Hid (Kept Old w wr)) (fun j _ => i + 1 - (intOf j).toNat)
  case atStart => exact ⟨0, by omega, rfl, Lib.hid (Kept.refl _ _)⟩
  case round =>
    obtain ⟨k, hk, rfl, K⟩ := hrel
    rename World => W
    obtain ⟨g, o, y, rfl, _, hx, f1, f2, c0, c1⟩ := (HR.out.old K.out).get (k := k) (by omega)
    by_cases c : k < i
    · have : y.2 < m := HF.out.below y (List.mem_of_getElem? (i := k) (by rw [List.getElem?_take, if_pos c]; exact hx))
      clear hx
      go_wp2
      refine ⟨⟨k + 1, by omega, by go_num, Lib.hid (K.out.alloc _)⟩, ?_⟩
      simp [intOf]; omega
    · obtain rfl : k = i := by omega
      have hb : m ≤ y.2 := by have := HF.out.at_; rw [hx] at this; obtain rfl := Option.some.inj this; exact HF.out.big
      clear hx
      go_wp2
      go_ret2
      exact ⟨rfl, K.out.alloc _⟩
theorem fit_no (A : Option Addr) (n c : Nat) (l : List R) (m : Int) (w : World) (h : Rs w A n l) (hm : 1 ≤ m) (f : fitB l m = false) (hn : n ≤ 1000) : Calls Try.prog 28 #[.slice A n c, .int .i64 m] w fun e w' => e = .returned (.tuple #[.int .i64 0, .bool false]) ∧ Kept Old w w' := by
  have HR := Lib.hid h
  have HF := Lib.hid (fit_none f)
  clear h f
  go_enter Try.func28, Try.ntmps28
  go_wp2
  go_loopw [12] (fun j wr => ∃ k : Nat, k ≤ n ∧ j = .int .i64 (k : Int) ∧ Hid (Kept Old w wr)) (fun j _ => n - (intOf j).toNat)
  case atStart => exact ⟨0, by omega, rfl, Lib.hid (Kept.refl _ _)⟩
  case round =>
    obtain ⟨k, hk, rfl, K⟩ := hrel
    rename World => W
    by_cases c : k < n
    · obtain ⟨g, o, y, rfl, _, hx, f1, f2, c0, c1⟩ := (HR.out.old K.out).get (k := k) (by omega)
      have : y.2 < m := HF.out y (List.mem_of_getElem? hx)
      clear hx
      go_wp2
      refine ⟨⟨k + 1, by omega, by go_num, Lib.hid (K.out.alloc _)⟩, ?_⟩
      simp [intOf]; omega
    · go_wp2
      go_ret2
      exact ⟨rfl, K.out⟩
theorem fit_bad (A : Option Addr) (n c : Nat) (m : Int) (w : World) (hm : m < 1) : Calls Try.prog 28 #[.slice A n c, .int .i64 m] w fun e w' => e = .returned (.tuple #[.int .i64 0, .bool false]) ∧ Kept Old w w' := by
  go_enter Try.func28, Try.ntmps28
  go_wp2
  go_ret2
  exact ⟨rfl, Kept.refl _ _⟩
theorem right_any (A : Option Addr) (n c : Nat) (l : List R) (p : Int) (w : World) (h : Rs w A n l) (hn : n ≤ 1000) : Calls Try.prog 23 #[.slice A n c, .int .i64 p] w fun e w' => e = .returned (.bool (rightL p l)) ∧ Kept Old w w' := by
  by_cases hp0 : 0 ≤ p
  · by_cases hp1 : p ≤ 256
    · rw [show rightL p l = rightB p 0 l by unfold rightL; rw [decide_eq_true ⟨hp0, hp1⟩, Bool.true_and]]
      have HR := Lib.hid h
      clear h
      go_enter Try.func23, Try.ntmps23
      go_wp2
      go_loopw [5, 16] (fun f j wr => ∃ k : Nat, k ≤ n ∧ f = .int .i64 (nextAt l k) ∧ j = .int .i64 (k : Int) ∧ Hid (rightB p 0 l = rightB p (nextAt l k) (l.drop k)) ∧ Hid (Kept Old w wr)) (fun _ j _ => n - (intOf j).toNat)
      case atStart => exact ⟨0, by omega, rfl, rfl, Lib.hid rfl, Lib.hid (Kept.refl _ _)⟩
      case round =>
        obtain ⟨k, hk, rfl, rfl, HB, K⟩ := hrel
        rename World => W
        by_cases c : k < n
        · obtain ⟨g, o, x, rfl, _, hx, f1, f2, c0, c1⟩ := (HR.out.old K.out).get c
          have yes := Lib.hid (right_yes HB.out hx)
          have no := Lib.hid (right_no HB.out hx)
          have nx := Lib.hid (nextAt_succ l k x hx)
          clear hx HB
          generalize nextAt l k = f at *
          have hl := lies_any x p (W.alloc (.cells #[.int .i64 x.1, .int .i64 x.2] 63)) f2 ⟨hp0, hp1⟩
          have bx := (Bx.new W x)
          cases hb : liesB x p with
          | false =>
            have P : rightB p 0 l = false := no.out (fun q => by have := of_decide_eq_false hb; omega)
            rw [hb] at hl
            clear hb yes no
            have hl := Lib.hid hl
            go_wp2_with fail
            refine hl.out.mono ?_
            rintro e w' ⟨rfl, k1⟩
            go_wp2
            go_ret
            exact ⟨by rw [P]; rfl, (K.out.alloc _).trans k1⟩
          | true =>
            obtain ⟨q1, q2, q3⟩ := of_decide_eq_true hb
            rw [hb] at hl
            clear hb
            have hl := Lib.hid hl
            have bx := Lib.hid bx
            go_wp2_with fail
            refine hl.out.mono ?_
            rintro e w' ⟨rfl, k1⟩
            have b2 := bx.out.old k1
            have x0 := b2.c0
            have x1 := b2.c1
            have K1 := Lib.hid ((K.out.alloc _).trans k1)
            clear bx b2 k1 hl K
            by_cases d : f ≤ x.1
            · go_wp2_with fail
              refine (end_any x _ ⟨by omega, by omega⟩).mono ?_
              rintro e w2 ⟨rfl, k2⟩
              have P := Lib.hid (yes.out ⟨q1, q2, q3, d⟩)
              clear yes no
              go_wp2
              refine ⟨⟨k + 1, by omega, by rw [nx.out], by go_num, P, Lib.hid (K1.out.trans k2)⟩, ?_⟩
              simp [intOf]; omega
            · have P : rightB p 0 l = false := no.out (fun q => by omega)
              clear yes no
              go_wp2
              go_ret
              exact ⟨by rw [P]; rfl, K1.out⟩
        · have P : rightB p 0 l = true := right_end HB.out (by have := HR.out.len; omega)
          go_wp2
          go_ret
          exact ⟨by rw [P]; rfl, K.out⟩
    · rw [show rightL p l = false by unfold rightL; rw [decide_eq_false (by omega), Bool.false_and]]
      clear h
      go_enter Try.func23, Try.ntmps23
      go_wp2
      go_ret
      exact ⟨rfl, Kept.refl _ _⟩
  · rw [show rightL p l = false by unfold rightL; rw [decide_eq_false (by omega), Bool.false_and]]
    clear h
    go_enter Try.func23, Try.ntmps23
    go_wp2
    go_ret
    exact ⟨rfl, Kept.refl _ _⟩
theorem join_any (x y : R) (w : World) (h : in64 (x.2 + y.2)) : Calls Try.prog 47 #[run x, run y] w fun e w' => e = .returned (run (x.1, x.2 + y.2)) ∧ Kept Old w w' := by
  obtain ⟨h1, h2⟩ := h
  go_enter Try.func47, Try.ntmps47
  go_wp2
  exact bodyPost_ret (v := run (x.1, x.2 + y.2)) (by simp [results, Try.results47, go_sem]) rfl ⟨rfl, (((Kept.refl _ _).alloc _).alloc _).alloc _⟩
theorem cell_on {w w' : World} (k : Kept Old w w') {p : Addr} {v : Value} (h : w.cell? p = some v) : w'.cell? p = some v := (k.cell (block_lt_of_cell h) (fun x => x)).trans h
/-- The place of a run that is free: all below end ahead of it, all others begin behind it. -/
structure Place (l : List R) (r : R) (i : Nat) : Prop where
  le : i ≤ l.length
  lo : ∀ x ∈ l.take i, x.1 + x.2 ≤ r.1
  hi : ∀ x ∈ l.drop i, r.1 + r.2 ≤ x.1
theorem Place.free {l : List R} {r : R} {i : Nat} (h : Place l r i) : freeB l r.1 r.2 = true := by
  refine free_of fun x hx => ?_
  rw [← List.take_append_drop i l] at hx
  rcases List.mem_append.1 hx with hx | hx
  · exact .inl (h.lo x hx)
  · exact .inr (h.hi x hx)
theorem lo_snoc {l : List R} {r x : R} {k : Nat} (h : ∀ y ∈ l.take k, y.1 + y.2 ≤ r.1) (hx : l[k]? = some x) (c : x.1 + x.2 ≤ r.1) : ∀ y ∈ l.take (k + 1), y.1 + y.2 ≤ r.1 := by
  intro y hy
  rw [take_snoc hx] at hy
  rcases List.mem_append.1 hy with hy | hy
  · exact h y hy
  · obtain rfl := List.mem_singleton.1 hy; exact c
theorem hi_all {l : List R} {r x : R} {k : Nat} (hr : Right 256 0 l) (hx : l[k]? = some x) (c : r.1 + r.2 ≤ x.1) : ∀ y ∈ l.drop k, r.1 + r.2 ≤ y.1 := by
  intro y hy
  rw [drop_cons hx] at hy
  rcases List.mem_cons.1 hy with rfl | hy
  · exact c
  · rw [split_at hx] at hr
    obtain ⟨_, _, _, _, _, h2⟩ := right_append.1 hr
    have := h2.mem hy
    have := (right_append.1 hr).2.2.1
    omega
end Go.Proofs.Ytdolchlhphoggaa
