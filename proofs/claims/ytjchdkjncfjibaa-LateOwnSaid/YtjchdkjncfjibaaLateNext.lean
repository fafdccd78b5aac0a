/-
  What Next of package late answers of a queue that is not empty. Own work; proved by a walk through the landed text.
-/
import Derived.Test.YtjchdkjncfjibaaRows
import Derived.Test.YtjchdkjncfjibaaLatePut
import Derived.WalkKit
import Derived.ProofKit
import Derived.OpenShut
import Derived.Outline
import Derived.Deep.Light
import Derived.Deep.QuietTactic
import Derived.BigQuiet
import Derived.IntWalk
import Derived.StillTailTactics
import Derived.RegionTactic
import Derived.Deep.RegionLaw
import Derived.Deep.RegionHeld3
namespace Go.Proofs.Ytjchdkjncfjibaa.Lq
open Go.ChangeShapes Go.WideShapes Go.ChangeAt Go.RowKit
set_option maxRecDepth 100000

theorem cell_on {w w' : World} (k : Kept Old w w') {p : Addr} {v : Value} (h : w.cell? p = some v) : w'.cell? p = some v := (k.cell (block_lt_of_cell h) (fun x => x)).trans h
theorem put_far {w : World} {b : Nat} {x y : Value} {p : Addr} {v : Value} (h : w.cell? p = some v) (hp : p.block ≠ b) : ((w.setCell ⟨b, 0, none⟩ x).setCell ⟨b, 1, none⟩ y).cell? p = some v := ((put2_kept w b x y).cell (block_lt_of_cell h) hp).trans h
theorem rs_tail {w : World} {g o n : Nat} {x : Int} {t : List Int} (h : RsI w (some ⟨g, o, none⟩) (n + 1) (x :: t)) (A' : Option Addr) (hA : 0 < n → A' = some ⟨g, o + 1, none⟩) : RsI w A' n t :=
  ⟨by have := h.len; simp at this; omega, fun y hy => h.fit y (List.mem_cons_of_mem _ hy), fun h0 => by
    obtain ⟨g', o', e, hg, c⟩ := h.lies (by omega)
    injection e with e
    injection e with e1 e2
    subst e1 e2
    refine ⟨g, o + 1, hA h0, hg, fun j y hy => ?_⟩
    have := c (j + 1) y (by simpa using hy)
    rw [show o + 1 + j = o + (j + 1) by omega]
    exact this⟩
set_option maxHeartbeats 2000000 in
theorem lnext_some (on : Bool) (A : Option Addr) (n c : Nat) (x : Int) (t : List Int) (w : World) (h : RsI w A (n + 1) (x :: t)) (hn : n ≤ 9000) (hc : n + 1 ≤ c) :
    Calls Try.prog 12 #[lt on A (n + 1) c] w (NextPost on t x true w) := by
  have K1 := Lib.hid (kept2 w (.cells #[.bool on, .slice A (n + 1) c] 24) (.cells #[.bool false, .slice none 0 0] 24))
  have B1 := Lib.hid (Bq.new2 w (.cells #[.bool on, .slice A (n + 1) c] 24) _ false (.slice none 0 0) rfl)
  have B0 := Lib.hid ((Bq.new w on (.slice A (n + 1) c)).alloc (.cells #[.bool false, .slice none 0 0] 24))
  have R1 := Lib.hid (h.old K1.out)
  obtain ⟨g, o, y, rfl, hg, hx, _, cx⟩ := h.get (k := 0) (by omega)
  have cx := cell_on K1.out cx
  obtain rfl : y = x := by simpa using hx.symm
  have a0 := B0.out.c0
  have a1 := B0.out.c1
  have b0 := B1.out.c0
  have b1 := B1.out.c1
  have f0 := B1.out.f0
  have f1 := B1.out.f1
  rw [Nat.add_zero] at cx
  clear h hx
  generalize hW : ((w.alloc (.cells #[.bool on, .slice (some ⟨g, o, none⟩) (n + 1) c] 24)).alloc (.cells #[.bool false, .slice none 0 0] 24)) = V at *
  have J := Lib.hid (fun (A' : Option Addr) (hA : 0 < n → A' = some ⟨g, o + 1, none⟩) (hA2 : A' = none → n = 0 ∧ c - 1 = 0) W (k : Kept Old V W) => joined_any A' n (c - 1) t none 0 0 [] W ((rs_tail R1.out A' hA).old k) (RsI.nil _ _) (by omega) (by omega) hA2 (fun _ => ⟨rfl, rfl⟩))
  have hW := Lib.hid hW
  have cs : (1 < c ∧ ((1 : Nat) == c) = false ∧ (c - 1 == 0) = false) ∨ (c = 1 ∧ n = 0) := by
    by_cases d : c = 1
    · exact .inr ⟨d, by omega⟩
    · exact .inl ⟨by omega, beq_eq_false_iff_ne.2 (by omega), beq_eq_false_iff_ne.2 (by omega)⟩
  go_enter Try.func12, Try.ntmps12
  go_wp2_with fail
  have nz : ((n : Int) + 1 == 0) = false := beq_eq_false_iff_ne.2 (by omega)
  have n1 : (1 : Int) ≤ (n : Int) + 1 := by omega
  have n2 : 1 ≤ n + 1 := by omega
  have g1 : g ≠ w.heap.size + 1 := by omega
  have g2 : w.heap.size ≠ w.heap.size + 1 := by omega
  rcases cs with ⟨cs, ce, cf⟩ | ⟨rfl, rfl⟩
  · go_region_held3 (fun w' => w'.cell? ⟨w.heap.size, 0, none⟩ = some (.bool on) ∧ w'.cell? ⟨w.heap.size, 1, none⟩ = some (.slice (some ⟨g, o, none⟩) (n + 1) c) ∧ w'.cell? ⟨g, o, none⟩ = some (.int .i64 y))
      (first
        | (exact ⟨‹_›, ‹_›, ‹_›⟩)
        | (exact ⟨put_far ‹_› g2, put_far ‹_› g2, put_far ‹_› g1⟩)
        | go_keep)
      (first
        | (go_at_call 21; refine (J.out _ (by intro h; first | rfl | exact if_neg (by omega)) (by intro h; first | cases h | (split at h <;> first | cases h | exact ⟨by omega, by omega⟩)) _ (by first | exact Kept.refl Old V | exact (Kept.refl Old V).drew)).mono ?_; rintro e V2 ⟨v, rfl, M⟩; rw [List.append_nil] at M; obtain ⟨A2, n2, c2, rfl⟩ := M.form; have k2 := M.kept; have a0 := cell_on k2 a0; have a1 := cell_on k2 a1; have cx := cell_on k2 cx; have B2 := B1.out.old (w' := V2) ⟨k2.os, k2.tape, k2.output, k2.size, k2.block⟩; have f0 := B2.f0; have f1 := B2.f1; have b0 := B2.c0; have b1 := B2.c1; have M := Lib.hid M; have B2 := Lib.hid B2; clear k2))
    go_wp2
    obtain ⟨W, hW, r0, r1, K'⟩ := Bq.end2 B2.out (M.out.from (by first | exact Kept.refl Old V | exact (Kept.refl Old V).drew)) (by first | exact K1.out | exact K1.out.drew) (by omega) (by rw [← hW.out]; simp) on
    rw [hW]
    exact bodyPost_ret (v := .tuple #[.agg #[.bool on, .slice A2 n2 c2], .int .i64 y, .bool true]) (by simp [results, Try.results12, go_sem, r0, r1]) rfl ⟨_, rfl, K'⟩
  · go_region_held3 (fun w' => w'.cell? ⟨w.heap.size, 0, none⟩ = some (.bool on) ∧ w'.cell? ⟨w.heap.size, 1, none⟩ = some (.slice (some ⟨g, o, none⟩) (0 + 1) 1) ∧ w'.cell? ⟨g, o, none⟩ = some (.int .i64 y))
      (first
        | (exact ⟨‹_›, ‹_›, ‹_›⟩)
        | (exact ⟨put_far ‹_› g2, put_far ‹_› g2, put_far ‹_› g1⟩)
        | go_keep)
      (first
        | (go_at_call 21; refine (J.out _ (by intro h; omega) (by intro h; first | cases h | (split at h <;> first | cases h | exact ⟨by omega, by omega⟩)) _ (by first | exact Kept.refl Old V | exact (Kept.refl Old V).drew)).mono ?_; rintro e V2 ⟨v, rfl, M⟩; rw [List.append_nil] at M; obtain ⟨A2, n2, c2, rfl⟩ := M.form; have k2 := M.kept; have a0 := cell_on k2 a0; have a1 := cell_on k2 a1; have cx := cell_on k2 cx; have B2 := B1.out.old (w' := V2) ⟨k2.os, k2.tape, k2.output, k2.size, k2.block⟩; have f0 := B2.f0; have f1 := B2.f1; have b0 := B2.c0; have b1 := B2.c1; have M := Lib.hid M; have B2 := Lib.hid B2; clear k2))
    go_wp2
    obtain ⟨W, hW, r0, r1, K'⟩ := Bq.end2 B2.out (M.out.from (by first | exact Kept.refl Old V | exact (Kept.refl Old V).drew)) (by first | exact K1.out | exact K1.out.drew) (by omega) (by rw [← hW.out]; simp) on
    rw [hW]
    exact bodyPost_ret (v := .tuple #[.agg #[.bool on, .slice A2 n2 c2], .int .i64 y, .bool true]) (by simp [results, Try.results12, go_sem, r0, r1]) rfl ⟨_, rfl, K'⟩
theorem lnext_any (on : Bool) (A : Option Addr) (n c : Nat) (l : List Int) (w : World) (h : RsI w A n l) (hn : n ≤ 9000) (hc : n ≤ c) :
    Calls Try.prog 12 #[lt on A n c] w (NextPost (nextB on l) (l.drop 1) (nextX l) (nextK l) w) := by
  have hl := h.len
  cases l with
  | nil =>
    obtain rfl : n = 0 := hl.symm
    exact lnext_none on A c w
  | cons x t =>
    obtain ⟨m, rfl⟩ : ∃ m, n = m + 1 := ⟨t.length, by simpa using hl.symm⟩
    exact lnext_some on A m c x t w h (by omega) hc
end Go.Proofs.Ytjchdkjncfjibaa.Lq
