/-
  Plain facts for chapter 6's laws: a span behind all others; how many pages spans have. Own work; no program is walked here.
-/
import Derived.Test.YtibgggchofpllaaSpanSt
namespace Go.Proofs.Ytibgggchofpllaa

theorem place_all {l : List S} {q : Int} (h : ∀ y ∈ l, y.a + y.n ≤ q) : placeL l q = l.length :=
  place_eq (Nat.le_refl _) (fun _ y hy _ => h y (List.mem_of_getElem? hy)) (fun y hy => by have := (List.getElem?_eq_some_iff.1 hy).1; omega)
theorem hit_all {l : List S} {x : S} (h : ∀ y ∈ l, y.a + y.n ≤ x.a) : hitB l x = false := by
  unfold hitB
  rw [place_all h, List.getElem?_eq_none (Nat.le_refl _)]
theorem of_all {l : List S} {q : Int} (h : ∀ y ∈ l, y.a + y.n ≤ q) : ofL l q = none := by
  unfold ofL
  rw [place_all h, List.getElem?_eq_none (Nat.le_refl _)]
theorem ins_all {l : List S} {x : S} (h : ∀ y ∈ l, y.a + y.n ≤ x.a) : insL l x = l ++ [x] := by
  unfold insL
  rw [place_all h]
  simp
/-- Whatever may be added leaves the bound. -/
theorem Good.add' {P Q : Int} {l : List S} (g : Good Q l) {x : S} (ok : Ok Q x) : Good Q (addL P l x) := by
  unfold addL
  split
  · split
    · exact g
    · rename_i h
      exact g.ins ok (by simpa using h)
  · exact g
/-- A span behind all others: added, asked for, removed. -/
structure Back (l : List S) (s : S) : Prop where
  c0 : addC 200 l s = 0
  l0 : addL 200 l s = l ++ [s]
  c1 : remC (l ++ [s]) (s.a + 1) = 2
  l1 : remL (l ++ [s]) (s.a + 1) = l ++ [s]
  x1 : remX (l ++ [s]) (s.a + 1) = noS
  c2 : addC 200 (l ++ [s]) ⟨s.a + s.n - 1, 1, 0⟩ = 4
  l2 : addL 200 (l ++ [s]) ⟨s.a + s.n - 1, 1, 0⟩ = l ++ [s]
  c3 : remC (l ++ [s]) s.a = 0
  x3 : remX (l ++ [s]) s.a = s
  l3 : remL (l ++ [s]) s.a = l
  c4 : remC l s.a = 2
  x4 : remX l s.a = noS
  l4 : remL l s.a = l
  c5 : addC 200 l ⟨s.a + s.n - 1, 1, 0⟩ = 0
  ok : Ok 200 s
  oy : Ok 200 ⟨s.a + s.n - 1, 1, 0⟩
theorem back_of {l : List S} (g : Good 108 l) (s : S) (h1 : 110 ≤ s.a) (h2 : s.a ≤ 169) (h3 : 2 ≤ s.n) (h4 : s.n ≤ 21) (h5 : 0 ≤ s.c) (h6 : s.c ≤ 7) : Back l s := by
  have e : ∀ q, 108 ≤ q → ∀ y ∈ l, y.a + y.n ≤ q := fun q hq y hy => by have := (g.each y hy).up; omega
  have ok : Ok 200 s := ⟨by omega, by omega, by omega, by omega, by omega⟩
  have oy : Ok 200 ⟨s.a + s.n - 1, 1, 0⟩ := ⟨by show 0 ≤ s.a + s.n - 1; omega, by show (1 : Int) ≤ 1; omega, by show s.a + s.n - 1 + 1 ≤ 200; omega, by show (0 : Int) ≤ 0; omega, by show (0 : Int) < 8; omega⟩
  have ht := hit_all (x := s) (e s.a (by omega))
  have hi := ins_all (x := s) (e s.a (by omega))
  have gm : Good 200 (l ++ [s]) := by rw [← hi]; exact (g.mono (by omega)).ins ok ht
  have hs : (l ++ [s])[l.length]? = some s := by simp
  have o1 := of_at gm (p := s.a + 1) hs (by omega) (by omega)
  have b1 : begL (l ++ [s]) (s.a + 1) = none := by unfold begL; rw [o1]; simp only; rw [if_neg (by omega)]
  have b3 : begL (l ++ [s]) s.a = some s := beg_at gm hs rfl
  have b4 : begL l s.a = none := by unfold begL; rw [of_all (e s.a (by omega))]
  have hy : hitB (l ++ [s]) ⟨s.a + s.n - 1, 1, 0⟩ = true := by
    unfold hitB
    rw [place_in gm (p := s.a + s.n - 1) hs (by omega) (by omega), hs]
    exact decide_eq_true (by show s.a < s.a + s.n - 1 + 1; omega)
  have hz : hitB l ⟨s.a + s.n - 1, 1, 0⟩ = false := hit_all (e _ (by show 108 ≤ s.a + s.n - 1; omega))
  have d3 : delL (l ++ [s]) s.a = l := by
    unfold delL
    rw [place_in gm hs (by omega) (by omega)]
    simp
  refine ⟨?_, ?_, ?_, ?_, ?_, ?_, ?_, ?_, ?_, ?_, ?_, ?_, ?_, ?_, ok, oy⟩
  · simp [addC, of_ok ok, ht]
  · simp [addL, of_ok ok, ht, hi]
  · simp [remC, b1]
  · simp [remL, b1]
  · simp [remX, b1]
  · simp [addC, of_ok oy, hy]
  · simp [addL, of_ok oy, hy]
  · simp [remC, b3]
  · simp [remX, b3]
  · simp [remL, b3, d3]
  · simp [remC, b4]
  · simp [remX, b4]
  · simp [remL, b4]
  · simp [addC, of_ok oy, hz]
end Go.Proofs.Ytibgggchofpllaa
