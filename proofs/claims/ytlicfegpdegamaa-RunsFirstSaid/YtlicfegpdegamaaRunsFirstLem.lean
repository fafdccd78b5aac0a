/-
  Words for the law RunsFirst: what is left behind a take, part by part. Own work; each is proved by a walk through the landed text.
-/
import Derived.Test.YtlicfegpdegamaaRows
import Derived.Test.YtlicfegpdegamaaRunsMem
import Derived.Test.YtlicfegpdegamaaRunsCalls
import Derived.Test.YtlicfegpdegamaaRunsMade
import Derived.Test.YtlicfegpdegamaaRunsAwake
import Derived.Test.YtlicfegpdegamaaRunsBoth
import Derived.WalkKit
import Derived.ProofKit
import Derived.OpenShut
import Derived.Outline
import Derived.Deep.Light
import Derived.Deep.QuietTactic
import Derived.BigQuiet
import Derived.IntWalk
import Derived.StillTailTactics
import Derived.RegionTactic
import Derived.Deep.RegionLaw
import Derived.ChangeAlike
import Derived.Deep.RegionHeld3
import Derived.Deep.CutRange
namespace Go.Proofs.Ytlicfegpdegamaa
open Go.ChangeShapes Go.WideShapes Go.ChangeAt Go.RowKit
set_option maxRecDepth 100000

theorem take_len {l : List R} {m : Int} {i : Nat} {x : R} (f : Fits l m i x) : (takeL l m i x).length + (if x.2 - m = 0 then 1 else 0) = l.length := by
  have := f.lt
  unfold takeL rest
  by_cases c : x.2 - m = 0
  · simp [c]; omega
  · simp [c]; omega
theorem same_yes2 (A B : Option Addr) (n n' c d : Nat) (l : List R) (w : World) (ha : Rs w A n l) (hb : Rs w B n' l) (hn : n ≤ 1000) :
    Calls Try.prog 17 #[.slice A n c, .slice B n' d] w fun e w' => e = .returned (.bool true) ∧ Kept Old w w' := by
  obtain rfl : n = n' := by have := ha.len; have := hb.len; omega
  exact same_yes A B n c d l w ha hb hn
theorem take_parts {l : List R} {m : Int} {i : Nat} {x : R} (h : i ≤ l.length) (c : x.2 - m = 0) : (takeL l m i x).take i = l.take i ∧ (takeL l m i x).drop i = l.drop (i + 1) := by
  have lk : (l.take i).length = i := by simp; omega
  unfold takeL rest
  rw [if_pos c, List.nil_append]
  exact ⟨List.take_left' lk, List.drop_left' lk⟩
theorem take_parts2 {l : List R} {m : Int} {i : Nat} {x : R} (h : i ≤ l.length) (c : ¬ x.2 - m = 0) : (takeL l m i x).take i = l.take i ∧ (takeL l m i x)[i]? = some (x.1 + m, x.2 - m) ∧ (takeL l m i x).drop (i + 1) = l.drop (i + 1) := by
  have lk : (l.take i).length = i := by simp; omega
  have lk1 : (l.take i ++ [(x.1 + m, x.2 - m)]).length = i + 1 := by simp; omega
  unfold takeL rest
  rw [if_neg c]
  refine ⟨List.take_left' lk, ?_, ?_⟩
  · rw [List.getElem?_append_right (by omega), lk]; simp
  · rw [← List.append_assoc]
    exact List.drop_left' lk1
theorem rs_any {w : World} {g o n : Nat} {l : List R} (h : Rs w (some ⟨g, o, none⟩) n l) (i : Nat) (L : List R) (hL : l.drop i = L) : ∀ A : Option Addr, (i < n → A = some ⟨g, o + i * 2, none⟩) → Rs w A (n - i) L := by
  subst hL
  exact fun A hA => h.drop A hA
/-- Both lists, as a round finds them. -/
structure Fi (w W : World) (A A1 : Option Addr) (n n1 : Nat) (l La : List R) : Prop where
  a : Rs W A n l
  la : Rs W A1 n1 La
  kept : Kept Old w W
theorem Fi.old {w W W' : World} {A A1 : Option Addr} {n n1 : Nat} {l La : List R} (h : Fi w W A A1 n n1 l La) (q : Kept Old W W') : Fi w W' A A1 n n1 l La := ⟨h.a.old q, h.la.old q, h.kept.trans q⟩
end Go.Proofs.Ytlicfegpdegamaa
