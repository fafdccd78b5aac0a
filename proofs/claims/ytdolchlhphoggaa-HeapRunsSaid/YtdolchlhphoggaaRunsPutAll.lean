/-
  What Put answers where the run may be put, all ways together. Own work; each is proved by a walk through the landed text.
-/
import Derived.Test.YtdolchlhphoggaaRows
import Derived.Test.YtdolchlhphoggaaRunsMem
import Derived.Test.YtdolchlhphoggaaRunsCalls
import Derived.Test.YtdolchlhphoggaaRunsPutLem
import Derived.Test.YtdolchlhphoggaaRunsPut00
import Derived.Test.YtdolchlhphoggaaRunsPut22
import Derived.Test.YtdolchlhphoggaaRunsPut21
import Derived.Test.YtdolchlhphoggaaRunsPut20
import Derived.Test.YtdolchlhphoggaaRunsPut12
import Derived.Test.YtdolchlhphoggaaRunsPut11
import Derived.Test.YtdolchlhphoggaaRunsPut10
import Derived.Test.YtdolchlhphoggaaRunsPut02
import Derived.Test.YtdolchlhphoggaaRunsPut01
import Derived.WalkKit
import Derived.ProofKit
import Derived.OpenShut
import Derived.Outline
import Derived.Deep.Light
import Derived.Deep.QuietTactic
import Derived.BigQuiet
import Derived.IntWalk
import Derived.StillTailTactics
import Derived.RegionTactic
import Derived.Deep.RegionLaw
import Derived.ChangeAlike
import Derived.Deep.RegionHeld3
import Derived.Deep.CutRange
namespace Go.Proofs.Ytdolchlhphoggaa
open Go.ChangeShapes Go.WideShapes Go.ChangeAt Go.RowKit
set_option maxRecDepth 100000

theorem lo_strict {l : List R} {r x : R} {j : Nat} (hr : Right 256 0 l) (hp : Place l r (j + 1)) (hx : l[j]? = some x) (ne : x.1 + x.2 ≠ r.1) : ∀ y ∈ l.take (j + 1), y.1 + y.2 < r.1 := by
  intro y hy
  have bx := hr.at hx
  have hxm : x ∈ l.take (j + 1) := by rw [take_snoc hx]; simp
  have q := hp.lo x hxm
  rw [take_snoc hx] at hy
  rcases List.mem_append.1 hy with hy | hy
  · rw [split_at hx] at hr
    obtain ⟨h1, a0, a1, a2, a3, h2⟩ := right_append.1 hr
    have := lastF_mem h1 y hy
    omega
  · obtain rfl := List.mem_singleton.1 hy
    omega
theorem put_ok (A : Option Addr) (n c : Nat) (l : List R) (r : R) (w : World) (h : Rs w A n l) (hr : Right 256 0 l) (hc : n ≤ c) (hA : A = none → c = 0) (hn : n ≤ 900) (h0 : 0 ≤ r.1) (h1 : 1 ≤ r.2) (h2 : r.1 + r.2 ≤ 256) (hf : freeB l r.1 r.2 = true) :
    Calls Try.prog 35 #[.slice A n c, run r] w (PutPost (putL l r.1 r.2) w) := by
  by_cases n0 : n = 0
  · subst n0
    obtain rfl : l = [] := List.eq_nil_of_length_eq_zero h.len
    exact put_00 A c r w hA h0 h1 h2 _ rfl
  · obtain ⟨g, o, rfl, _, _⟩ := h.lies (by omega)
    obtain ⟨i, hp⟩ := place_exists (r := r) hr (free_mem hf)
    have hl := h.len
    have hi : i ≤ n := by have := hp.le; omega
    rcases Nat.eq_zero_or_pos i with rfl | ip
    · have e := put_place (n := r.2) hr (i := 0) (a := r.1) (fun x hx => by simp at hx) hp.hi h1
      rw [List.take_zero, List.nil_append, List.drop_zero] at e
      obtain ⟨y, hy⟩ : ∃ y, l[0]? = some y := ⟨l[0], List.getElem?_eq_getElem (by omega)⟩
      have ec : l = y :: l.drop 1 := by have := drop_cons hy; simpa using this
      by_cases ey : r.1 + r.2 = y.1
      · refine put_b0a2 g o n c l r y w h hr hc hn (by omega) h0 h1 h2 hp hy ey _ ?_
        rw [e, ec, front_cons, if_pos ey]; simp
      · refine put_b0a1 g o n c l r y w h hr hc hn (by omega) h0 h1 h2 hp hy ey _ ?_
        rw [e, ec, front_cons, if_neg ey]; simp
    · obtain ⟨j, rfl⟩ : ∃ j, i = j + 1 := ⟨i - 1, by omega⟩
      obtain ⟨x, hx⟩ : ∃ x, l[j]? = some x := ⟨l[j], List.getElem?_eq_getElem (by omega)⟩
      by_cases ex : x.1 + x.2 = r.1
      · have e := put_join (n := r.2) hr hx ex
        by_cases il : j + 1 < n
        · obtain ⟨y, hy⟩ : ∃ y, l[j + 1]? = some y := ⟨l[j + 1], List.getElem?_eq_getElem (by omega)⟩
          by_cases ey : r.1 + r.2 = y.1
          · refine put_b2a2 g o n c l r x y j w h hr hc hn (by omega) h0 h1 h2 hp hx ex hy ey _ ?_
            rw [e, drop_cons hy, front_cons, if_pos (by omega)]; simp
          · refine put_b2a1 g o n c l r x y j w h hr hc hn (by omega) h0 h1 h2 hp hx ex hy ey _ ?_
            rw [e, drop_cons hy, front_cons, if_neg (by omega)]; simp
        · refine put_b2a0 g o n c l r x j w h hr hc hn (by omega) h0 h1 h2 hp hx ex (by omega) _ ?_
          rw [e, List.drop_eq_nil_of_le (by omega)]; simp [front]
      · have e := put_place (n := r.2) hr (lo_strict hr hp hx ex) hp.hi h1
        by_cases il : j + 1 < n
        · obtain ⟨y, hy⟩ : ∃ y, l[j + 1]? = some y := ⟨l[j + 1], List.getElem?_eq_getElem (by omega)⟩
          by_cases ey : r.1 + r.2 = y.1
          · refine put_b1a2 g o n c l r x y j w h hr hc hn (by omega) h0 h1 h2 hp hx ex hy ey _ ?_
            rw [e, drop_cons hy, front_cons, if_pos (by omega)]; simp
          · refine put_b1a1 g o n c l r x y j w h hr hc hn (by omega) h0 h1 h2 hp hx ex hy ey _ ?_
            rw [e, drop_cons hy, front_cons, if_neg (by omega)]; simp
        · refine put_b1a0 g o n c l r x j w h hr hc hn (by omega) h0 h1 h2 hp hx ex (by omega) _ ?_
          rw [e, List.drop_eq_nil_of_le (by omega)]; simp [front]
end Go.Proofs.Ytdolchlhphoggaa
