/-
  append of a slice of integers that came in onto a literal of three. Own work; no program is walked here.
-/
import Derived.Test.YtdolchlhphoggaaRows
import Derived.Test.YtdolchlhphoggaaKept
import Derived.Test.YtdolchlhphoggaaShell
import Derived.WalkKit
import Derived.OwnWalk
import Derived.Maps.AppendAt
namespace Go.Proofs.Ytdolchlhphoggaa
open Go.ChangeShapes Go.WideShapes Go.ChangeAt Go.RowKit
set_option maxRecDepth 100000

theorem Try.intInfo : (Try.prog.info? 3).map (fun i => (i.zero, i.size, i.bytes)) = some (some (.int .i64 0), 1, 8) := by kernel_rfl
/-- The literal of three, and what came in behind it. -/
def litInts (p q r : Int) (z : Nat → Int) (n : Nat) : List Value := [.int .i64 p, .int .i64 q, .int .i64 r] ++ (List.range n).map fun i => .int .i64 (z i)
theorem lit_at (p q r : Int) (z : Nat → Int) (n y : Nat) (h : y < 3 + n) : ∃ u : Int, (litInts p q r z n)[y]? = some (.int .i64 u) := by
  unfold litInts
  rcases Nat.lt_or_ge y 3 with c | c
  · rw [List.getElem?_append_left (by simpa using c)]
    match y, c with
    | 0, _ => exact ⟨p, rfl⟩
    | 1, _ => exact ⟨q, rfl⟩
    | 2, _ => exact ⟨r, rfl⟩
  · rw [List.getElem?_append_right (by simpa using c)]
    refine ⟨z (y - 3), ?_⟩
    rw [List.getElem?_map]
    have : (List.range n)[y - [Value.int .i64 p, .int .i64 q, .int .i64 r].length]? = some (y - 3) := by
      show (List.range n)[y - 3]? = _
      rw [List.getElem?_range (by omega)]
    rw [this]
    rfl
theorem app_ints (W : World) (p q r : Int) (a : Option Addr) (len cap : Nat) (z : Nat → Int) (h : Sl W a 1 len fun i _ => .int .i64 (z i)) (hl : len ≤ cap) (hr : cap * 8 ≤ 140737488351232) (hn : a = none → len = 0 ∧ cap = 0) :
    ∃ g c w', (Builtin.append_ #[22, 22] 22 #[.slice (some ⟨W.heap.size, 0, none⟩) 3 3, .slice a len cap]).run Try.prog (W.alloc (.cells #[.int .i64 p, .int .i64 q, .int .i64 r] 3)) = .ok (.slice (some ⟨g, 0, none⟩) (3 + len) c) w' ∧
      (∀ y, y < 3 + len → ∃ u : Int, w'.cell? ⟨g, y, none⟩ = some (.int .i64 u)) ∧ Kept Old W w' ∧ g < w'.heap.size := by
  obtain ⟨i0, hi, hz0, hz1, hz2⟩ := info_parts Try.intInfo
  have k0 := (Kept.refl Old W).alloc (.cells #[.int .i64 p, .int .i64 q, .int .i64 r] 3)
  have b0 := Blk.new W 3 [.int .i64 p, .int .i64 q, .int .i64 r]
  have own : (W.alloc (.cells #[.int .i64 p, .int .i64 q, .int .i64 r] 3)).ownsRow W.heap.size 3 1 (.slice (some ⟨W.heap.size, 0, none⟩) 3 3) 3 [.int .i64 p, .int .i64 q, .int .i64 r] :=
    ⟨rfl, .inr ⟨W.heap.size, 3, #[.int .i64 p, .int .i64 q, .int .i64 r], rfl, Nat.le_refl _, b0, Nat.le_refl _, by simp only [maxLen]; omega, rfl, rfl⟩⟩
  have fin : ∀ (v' : Value) (w' : World), w'.ownsRow W.heap.size 3 1 v' (3 + len) (litInts p q r z len) → ∃ g c, v' = .slice (some ⟨g, 0, none⟩) (3 + len) c ∧ (∀ y, y < 3 + len → ∃ u : Int, w'.cell? ⟨g, y, none⟩ = some (.int .i64 u)) ∧ g < w'.heap.size := fun v' w' o => by
    rcases o.2 with ⟨_, e⟩ | ⟨g, cp, cur, rfl, hb, hg, hn', hm, hs, ht⟩
    · omega
    · refine ⟨g, cp, rfl, fun y hy => ?_, (Array.getElem?_eq_some_iff.1 hg).1⟩
      obtain ⟨u, hu⟩ := lit_at p q r z len y hy
      refine ⟨u, ?_⟩
      rw [cell_of_row w' g y cur 3 (0, 0) hg]
      rw [← ht, List.getElem?_take, if_pos (by omega)] at hu
      simpa using hu
  cases a with
  | none =>
    obtain ⟨rfl, rfl⟩ := hn rfl
    have hrun := run_append_owned_none (P := Try.prog) (w := W.alloc (.cells #[.int .i64 p, .int .i64 q, .int .i64 r] 3)) W.heap.size 22 22 3 i0 1 Try.underlying22 hi _ 3 _ own
    obtain ⟨g, c, e, f1, f2⟩ := fin _ _ (by simpa [litInts] using own)
    injection e with e1 e2 e3
    injection e1 with e1
    injection e1 with e1
    subst e1
    subst e3
    exact ⟨_, _, _, hrun, f1, k0, f2⟩
  | some ad =>
    have cells : ∀ j u, ((List.range len).map fun i => Value.int .i64 (z i))[j]? = some u → (W.alloc (.cells #[.int .i64 p, .int .i64 q, .int .i64 r] 3)).cell? (ad.add j) = some u := fun j u hu => by
      have hj : j < len := by have := (List.getElem?_eq_some_iff.1 hu).1; simpa using this
      rw [List.getElem?_map, List.getElem?_range hj] at hu
      simp only [Option.map_some, Option.some.injEq] at hu
      subst hu
      obtain ⟨g, o, e, hg, hc⟩ := h.lies (by omega)
      injection e with e
      subst e
      have d0 := hc j 0 hj (by omega)
      simp only [Nat.mul_one, Nat.add_zero] at d0
      rw [addr_add]
      exact (k0.cell (p := ⟨g, o + j, none⟩) hg (fun x => x)).trans d0
    obtain ⟨v', w', hrun, ho, hg, _, hat⟩ := run_append_own_at (P := Try.prog) (W.alloc (.cells #[.int .i64 p, .int .i64 q, .int .i64 r] 3)) W.heap.size 22 22 3 i0 _ 1 8 Try.underlying22 hi hz0 hz1 hz2 rfl (by omega) _ 3 _ own ad len cap ((List.range len).map fun i => Value.int .i64 (z i)) (by simp) cells (by intro u hu; obtain ⟨i, _, rfl⟩ := List.mem_map.1 hu; rfl) (by simp only [maxLen]; omega) (by omega) k0.size
    obtain ⟨g, c, rfl, f1, f2⟩ := fin v' w' ho
    refine ⟨g, c, w', hrun, f1, k0.join (Kept.grown (D := fun k => k = W.heap.size) (Kept.refl _ _) hg (fun g e _ => by simp [Value.ownBlock] at e; exact e.symm)) (fun i hi e => ?_), f2⟩
    have : i = W.heap.size := e
    omega
end Go.Proofs.Ytdolchlhphoggaa
