/-
  What Made (chapter 5's laws) answers: right runs, by numbers. Own work; each is proved by a walk through the landed text.
-/
import Derived.Test.YtlicfegpdegamaaRows
import Derived.Test.YtlicfegpdegamaaRunsMem
import Derived.Test.YtlicfegpdegamaaRunsCalls
import Derived.Test.YtlicfegpdegamaaRunsPutLem
import Derived.Test.YtlicfegpdegamaaShell
import Derived.WalkKit
import Derived.ProofKit
import Derived.OpenShut
import Derived.Outline
import Derived.Deep.Light
import Derived.Deep.QuietTactic
import Derived.BigQuiet
import Derived.IntWalk
import Derived.StillTailTactics
import Derived.RegionTactic
import Derived.Deep.RegionLaw
import Derived.ChangeAlike
import Derived.Deep.RegionHeld3
import Derived.Deep.CutRange
namespace Go.Proofs.Ytlicfegpdegamaa
open Go.ChangeShapes Go.WideShapes Go.ChangeAt Go.RowKit
set_option maxRecDepth 100000

/-- The runs that numbers make: from place i on, where the next page is a, behind l. -/
def mkL (z : Nat → Int) (len : Nat) : Nat → Nat → Int → List R → List R
  | 0, _, _, l => l
  | f + 1, i, a, l =>
    if i + 1 < len then
      if 256 - (a + z i % 9 + (if l = [] then 0 else 1)) < 1 + z (i + 1) % 20 then l
      else mkL z len f (i + 2) (a + z i % 9 + (if l = [] then 0 else 1) + (1 + z (i + 1) % 20)) (l ++ [(a + z i % 9 + (if l = [] then 0 else 1), 1 + z (i + 1) % 20)])
    else l
def madeL (z : Nat → Int) (len : Nat) : List R := mkL z len len 0 0 []
theorem mk_end (z : Nat → Int) (len f i : Nat) (a : Int) (l : List R) (h : ¬ i + 1 < len) : mkL z len f i a l = l := by
  cases f with
  | zero => rfl
  | succ f => rw [mkL, if_neg h]
theorem mk_stop (z : Nat → Int) (len f i : Nat) (a b m : Int) (l : List R) (h : i + 1 < len) (hb : a + z i % 9 + (if l = [] then 0 else 1) = b) (hm : 1 + z (i + 1) % 20 = m) (c : 256 - b < m) : mkL z len (f + 1) i a l = l := by
  rw [mkL, if_pos h, hb, hm, if_pos c]
theorem mk_more (z : Nat → Int) (len f i : Nat) (a b m : Int) (l : List R) (h : i + 1 < len) (hb : a + z i % 9 + (if l = [] then 0 else 1) = b) (hm : 1 + z (i + 1) % 20 = m) (c : ¬ 256 - b < m) : mkL z len (f + 1) i a l = mkL z len f (i + 2) (b + m) (l ++ [(b, m)]) := by
  rw [mkL, if_pos h, hb, hm, if_neg c]
/-- Where the runs stand. -/
structure At (a : Int) (l : List R) : Prop where
  right : Right 256 0 l
  at_ : (l = [] ∧ a = 0) ∨ (l ≠ [] ∧ lastF 0 l = a + 1)
theorem lastF_snoc (f : Int) (l : List R) (x : R) : lastF f (l ++ [x]) = x.1 + x.2 + 1 := by
  induction l generalizing f with
  | nil => rfl
  | cons y t ih => exact ih _
theorem At.bounds {a : Int} {l : List R} (h : At a l) : 0 ≤ a ∧ a ≤ 256 := by
  rcases h.at_ with ⟨_, e⟩ | ⟨_, e⟩
  · omega
  · have h1 := lastF_ge h.right
    have h2 := lastF_le h.right (by omega)
    cases l with
    | nil => contradiction
    | cons x t =>
      obtain ⟨b0, b1, b2, b3, h3⟩ := h.right
      have := lastF_ge h3
      simp only [lastF] at e h2
      omega
theorem At.step {a b m : Int} {l : List R} (h : At a l) (y : Int) (hy : 0 ≤ y) (hb : a + y + (if l = [] then 0 else 1) = b) (hm : 1 ≤ m) (c : ¬ 256 - b < m) : At (b + m) (l ++ [(b, m)]) := by
  have hbd := h.bounds
  refine ⟨right_append.2 ⟨h.right, ?_⟩, .inr ⟨by simp, by rw [lastF_snoc]⟩⟩
  rcases h.at_ with ⟨e, e'⟩ | ⟨e, e'⟩
  · rw [if_pos e] at hb
    subst e
    exact ⟨by show 0 ≤ b; omega, hm, by show b + m ≤ 256; omega, by show (0 : Int) ≤ b; omega, trivial⟩
  · rw [if_neg e] at hb
    exact ⟨by show 0 ≤ b; omega, hm, by show b + m ≤ 256; omega, by show _ ≤ b; omega, trivial⟩
/-- What Made answers. -/
def MadePost (L : List R) (w : World) (e : Ending) (w' : World) : Prop := ∃ v, e = .returned v ∧ Made1 L w v w' ∧ Right 256 0 L
set_option maxHeartbeats 4000000 in
theorem made_any (A : Option Addr) (len cap : Nat) (z : Nat → Int) (w : World) (hl : len ≤ 9223372036854775807) (hz : ∀ i, i < len → 0 ≤ z i ∧ z i ≤ 255) (h : Sl w A 1 len fun i _ => .int .u8 (z i)) :
    Calls Try.prog 18 #[.slice A len cap] w (MadePost (madeL z len) w) := by
  have HS := Lib.hid h
  have HZ := Lib.hid hz
  clear h hz
  go_enter Try.func18, Try.ntmps18
  go_wp2_with fail
  generalize hs0 : w.heap.size = s0 at *
  go_loopw [3, 4, 5] (fun v a i wr => ∃ (k N f : Nat) (b : Int) (l : List R), k ≤ 2 * N ∧ N ≤ 257 ∧ len ≤ k + f ∧ a = .int .i64 b ∧ i = .int .i64 (k : Int) ∧ Hid (madeL z len = mkL z len f k b l) ∧ Hid (At b l) ∧ Hid (Ow wr s0 v N l) ∧ Hid (Kept Old w wr)) (fun _ _ i _ => 600 - (intOf i).toNat)
  case atStart => exact ⟨0, 0, len, 0, [], by omega, by omega, by omega, rfl, rfl, Lib.hid rfl, Lib.hid ⟨trivial, .inl ⟨rfl, rfl⟩⟩, Lib.hid (Ow.nil _ _), Lib.hid (Kept.refl _ _)⟩
  case round =>
    obtain ⟨k, N, f, b, l, hk, hN, hf, rfl, rfl, HM, HA, O, K⟩ := hrel
    rename World => W
    have bb := HA.out.bounds
    have hsz := Lib.hid (show s0 ≤ W.heap.size from by rw [← hs0]; exact K.out.size)
    obtain ⟨A3, c3, rfl, _, _, _⟩ := O.out.rs
    by_cases c : k + 1 < len
    · obtain ⟨g, o, rfl, hg, hc⟩ := HS.out.lies (by omega)
      have z0 := HZ.out k (by omega)
      have z1 := HZ.out (k + 1) (by omega)
      have y0 : W.cell? ⟨g, o + k, none⟩ = some (.int .u8 (z k)) := by
        have := hc k 0 (by omega) (by omega)
        rw [Nat.mul_one, Nat.add_zero] at this
        exact (K.out.cell (p := ⟨g, o + k, none⟩) hg (fun x => x)).trans this
      have y1 : W.cell? ⟨g, o + (k + 1), none⟩ = some (.int .u8 (z (k + 1))) := by
        have := hc (k + 1) 0 (by omega) (by omega)
        rw [Nat.mul_one, Nat.add_zero] at this
        exact (K.out.cell (p := ⟨g, o + (k + 1), none⟩) hg (fun x => x)).trans this
      clear hc
      obtain ⟨f, rfl⟩ : ∃ f', f = f' + 1 := ⟨f - 1, by omega⟩
      have lN : l.length = N := O.out.len
      by_cases d : N = 0
      · have el : l = [] := List.eq_nil_of_length_eq_zero (by omega)
        have hb1 := Lib.hid (show b + z k % 9 + (if l = [] then 0 else 1) = b + z k % 9 from by rw [if_pos el]; omega)
        clear el lN
        subst d
        by_cases e : 256 - (b + z k % 9) < 1 + z (k + 1) % 20
        · have P : MadePost (madeL z len) w (.returned (.slice A3 0 c3)) W := by
            rw [HM.out, mk_stop z len f k b _ _ l c hb1.out rfl e]
            exact ⟨_, rfl, made_end O.out K.out, HA.out.right⟩
          have P := Lib.hid P
          go_wp2
          go_ret
          exact P.out
        · have H1 := Lib.hid (HM.out.trans (mk_more z len f k b _ _ l c hb1.out rfl e))
          have A1 := Lib.hid (HA.out.step (z k % 9) (by omega) hb1.out (by omega) e)
          have i1 := Lib.hid (show in64 (b + z k % 9) ∧ in64 (1 + z (k + 1) % 20) from ⟨⟨by omega, by omega⟩, ⟨by omega, by omega⟩⟩)
          clear hb1
          go_wp2_with (at_builtin; refine app_wp rfl (.tmp 39) (.tmp 43) rfl rfl s0 (.slice A3 0 c3) 0 l rfl (O.out.alloc _) (some ⟨W.heap.size, 0, none⟩) 1 1 [(b + z k % 9, 1 + z (k + 1) % 20)] rfl (Rs.one W (b + z k % 9, 1 + z (k + 1) % 20) i1.out.1 i1.out.2 _ rfl) (by intro h; cases h) (by omega) (by omega) (Nat.le_trans hsz.out ((Kept.refl Old W).alloc _).size) 1 rfl (l ++ [(b + z k % 9, 1 + z (k + 1) % 20)]) rfl ?_; intro v2 w2 O2 k2 a2; have K2 := Lib.hid ((O.out.alloc _).stepB (by omega) (K.out.alloc _) k2.out); clear k2 a2)
          refine ⟨⟨k + 2, 1, f, (b + z k % 9) + (1 + z (k + 1) % 20), _, by omega, by omega, by omega, by go_num, by go_num, H1, A1, O2, K2⟩, ?_⟩
          simp [intOf]; omega
      · have el : l ≠ [] := fun q => d (by rw [← lN, q]; rfl)
        have hN0 : 0 < N := by omega
        have hb1 := Lib.hid (show b + z k % 9 + (if l = [] then 0 else 1) = b + z k % 9 + 1 from by rw [if_neg el])
        clear el d
        by_cases e : 256 - (b + z k % 9 + 1) < 1 + z (k + 1) % 20
        · have P : MadePost (madeL z len) w (.returned (.slice A3 N c3)) W := by
            rw [HM.out, mk_stop z len f k b _ _ l c hb1.out rfl e]
            exact ⟨_, rfl, made_end O.out K.out, HA.out.right⟩
          have P := Lib.hid P
          go_wp2
          go_ret
          exact P.out
        · have H1 := Lib.hid (HM.out.trans (mk_more z len f k b _ _ l c hb1.out rfl e))
          have A1 := Lib.hid (HA.out.step (z k % 9) (by omega) hb1.out (by omega) e)
          have N1 : N + 1 ≤ 257 := by have := A1.out.right.len (by omega); simp only [List.length_append, List.length_singleton] at this; omega
          have i1 := Lib.hid (show in64 (b + z k % 9 + 1) ∧ in64 (1 + z (k + 1) % 20) from ⟨⟨by omega, by omega⟩, ⟨by omega, by omega⟩⟩)
          clear hb1
          go_wp2_with (at_builtin; refine app_wp rfl (.tmp 39) (.tmp 43) rfl rfl s0 (.slice A3 N c3) N l rfl (O.out.alloc _) (some ⟨W.heap.size, 0, none⟩) 1 1 [(b + z k % 9 + 1, 1 + z (k + 1) % 20)] rfl (Rs.one W (b + z k % 9 + 1, 1 + z (k + 1) % 20) i1.out.1 i1.out.2 _ rfl) (by intro h; cases h) (by omega) (by omega) (Nat.le_trans hsz.out ((Kept.refl Old W).alloc _).size) (N + 1) rfl (l ++ [(b + z k % 9 + 1, 1 + z (k + 1) % 20)]) rfl ?_; intro v2 w2 O2 k2 a2; have K2 := Lib.hid ((O.out.alloc _).stepB (by omega) (K.out.alloc _) k2.out); clear k2 a2)
          refine ⟨⟨k + 2, N + 1, f, (b + z k % 9 + 1) + (1 + z (k + 1) % 20), _, by omega, by omega, by omega, by go_num, by go_num, H1, A1, O2, K2⟩, ?_⟩
          simp [intOf]; omega
    · have P : MadePost (madeL z len) w (.returned (.slice A3 N c3)) W := by
        rw [HM.out, mk_end _ _ _ _ _ _ c]
        exact ⟨_, rfl, made_end O.out K.out, HA.out.right⟩
      have c' : ¬ (k : Int) + 1 < (len : Int) := by omega
      go_wp2
      go_ret
      exact P
end Go.Proofs.Ytlicfegpdegamaa
