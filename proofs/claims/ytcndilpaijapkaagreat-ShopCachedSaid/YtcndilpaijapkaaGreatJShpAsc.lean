/-
  A store's ascend: a slice of pieces in ascending order of addresses. Own work, on the library's contract of slices.SortFunc; the comparison is walked through the landed text.
-/
import Derived.Test.YtcndilpaijapkaaGreatRows
import Derived.WalkKit
import Derived.ProofKit
import Derived.OpenShut
import Derived.Outline
import Derived.Deep.Light
import Derived.Deep.QuietTactic
import Derived.IntWalk
import Derived.Test.YtcndilpaijapkaaGreatJShpF
import Derived.Test.YtcndilpaijapkaaGreatJShpSearch
import Derived.Test.YtcndilpaijapkaaGreatJSortLaid
namespace Go.Proofs.YtcndilpaijapkaaGreat.Shp
open Sto
open Go.ChangeShapes Go.WideShapes Go.ChangeAt Go.RowKit Go.Shelf Go.Lib Go.Sort
set_option maxRecDepth 100000

theorem asc_cmp (x y : Pc.R) (W : World) : Calls Tryz.prog 117 #[.agg #[.int .i64 x.1, .int .i64 x.2], .agg #[.int .i64 y.1, .int .i64 y.2]] W fun e w' => e = .returned (.int .i64 (Sf.cmpI x.1 y.1)) ∧ ∃ q os', w' = grow (W.drewN q) os' := by
  have hcon := Lib.hid (fun V => Sf.cmp_any x.1 y.1 V)
  generalize Sf.cmpI x.1 y.1 = r at hcon ⊢
  go_enter Tryz.func117, Tryz.ntmps117
  go_wp2_with (go_at_call 97; refine (hcon.out _).mono ?_; rintro e w' ⟨rfl, rfl⟩)
  go_ret
  exact ⟨rfl, 0, _, by rw [alloc_eq_grow, alloc_eq_grow, grow_grow]; rfl⟩
theorem cmpI_lt (x y : Pc.R) : Sf.cmpI x.1 y.1 < 0 ↔ x.1 < y.1 := by
  unfold Sf.cmpI
  by_cases h : x.1 < y.1
  · simp [h]
  · by_cases h1 : y.1 < x.1 <;> simp [h, h1]
theorem asc_agg (w : World) : (isAgg 54).run Tryz.prog w = .ok true w := by
  first | exact Tryz.isAgg54 w | rfl
theorem asc_size (w : World) : (Go.sizeOf 54).run Tryz.prog w = .ok 2 w := by
  first | exact Tryz.sizeOf54 w | rfl
/-- What is behind the call: the slice reads as the list in ascending order; only its own block has turned. -/
def AscPost (l : List Pc) (n : Nat) (v : Value) (W : World) (e : Ending) (W' : World) : Prop := e = .returned (.tuple #[]) ∧ ∃ M A c, v = .slice A n c ∧ SortOf l M ∧ Pc.Rs W' A n M ∧ n ≤ c ∧ Kept (fun b => some b = v.ownBlock) W W'
theorem asc_any {W : World} {B : Nat} {v : Value} {n : Nat} {l : List Pc} (h : Pc.Ow W B v n l) (nd : l.Pairwise (fun x y => x.1 ≠ y.1)) (hn : n ≤ 3000) : Calls Tryz.prog 75 #[v] W (AscPost l n v W) := by
  have hl := h.len
  by_cases n0 : n = 0
  · subst n0
    obtain rfl : l = [] := List.eq_nil_of_length_eq_zero hl
    obtain ⟨A, c, rfl, r, hc, _⟩ := h.rs
    have hn0 := AnyF.slices_SortFunc_none Tryz.sortLays A c (.func (.func 117) #[] #[]) W
    change Calls Tryz.prog 116 _ _ _ at hn0
    have hcon := Lib.hid hn0
    clear hn0
    have E := Lib.hid (show AscPost [] 0 (.slice A 0 c) W (.returned (.tuple #[])) W from ⟨rfl, [], A, c, rfl, ⟨.nil, .nil⟩, r, hc, Kept.refl _ _⟩)
    clear r h hc
    go_enter Tryz.func75, Tryz.ntmps75
    go_wp2_with (go_at_call 116; refine hcon.out.mono ?_; rintro e w' ⟨rfl, rfl⟩)
    go_end0
    exact E.out
  · rcases h.ways with ⟨_, z⟩ | ⟨g, cap, rfl, hc, _, hg, f⟩
    · exact absurd z n0
    · obtain ⟨A, c, ev, r, _, _⟩ := h.rs
      injection ev with e1 _ e3
      subst e1
      subst e3
      have hsz : l.toArray.size = n := hl
      have eg : ∀ args w, (callFunc 117 args).run Tryz.prog w = .ok (.enter 117 args) w := enters_of Tryz.func117 (by kernel_rfl) rfl
      have H := r.holds f
      have hcon := AnyQ.slices_SortFunc Tryz.sortLays 2 asc_agg asc_size Pc.encP (fun _ => rfl) (fun x v hv => by simp [Pc.encP] at hv; rcases hv with rfl | rfl <;> rfl) (fun x y => Sf.cmpI x.1 y.1) (Pc.swoP _ cmpI_lt) 117 #[] g 0 cap l.toArray W eg (fun _ _ _ _ x y => asc_cmp x y _) H hg (by omega)
      change Calls Tryz.prog 116 _ _ _ at hcon
      rw [hsz] at hcon
      have E : ∀ d' m os, PermIn 0 n l.toArray d' → SortedIn (ltOf fun x y : Pc.R => Sf.cmpI x.1 y.1) 0 n d' → AscPost l n (.slice (some ⟨g, 0, none⟩) n cap) W (.returned (.tuple #[])) (sortWorldK Pc.encP 2 W g 0 m d' os) := fun d' m os p s => by
        rw [← hsz] at p s
        have so := Pc.sorted_of cmpI_lt p s nd
        have ln : d'.toList.length = n := so.perm.length_eq.trans hl
        have hd : d'.size = l.toArray.size := p.1
        have ha : d'.toList.toArray = d' := by simp
        have HK : HoldsK Pc.encP 2 (sortWorldK Pc.encP 2 W g 0 m d' os) g 0 d'.toList.toArray := by rw [ha]; exact holdsK_sortWorldK Pc.encP 2 W g 0 m l.toArray d' os hg H hd
        exact ⟨rfl, d'.toList, _, cap, rfl, so, Pc.rs_holds HK (lt_sortWorldK Pc.encP 2 W g 0 m d' os hg) ln (fun x hx => h.fit x (so.perm.mem_iff.1 hx)), hc, (Pc.kept_sort W g 0 m d' os).mono fun i e => by have e : i = g := e; subst e; rfl⟩
      have E := Lib.hid E
      have hcon := Lib.hid hcon
      clear H r h f eg
      go_enter Tryz.func75, Tryz.ntmps75
      go_wp2_with (go_at_call 116; refine hcon.out.mono ?_; rintro e w' ⟨rfl, d', m, os, p, s, rfl⟩)
      go_end0
      exact E.out _ _ _ p s
end Go.Proofs.YtcndilpaijapkaaGreat.Shp
