/-
  What the document's own TakeRun answers of right runs. Own work; each is proved by a walk through the landed text.
-/
import Derived.Test.YtdolchlhphoggaaRows
import Derived.Test.YtdolchlhphoggaaRunsMem
import Derived.Test.YtdolchlhphoggaaRunsCalls
import Derived.Test.YtdolchlhphoggaaRunsPutLem
import Derived.Test.YtdolchlhphoggaaRunsRef
import Derived.Test.YtdolchlhphoggaaRunsTake
import Derived.WalkKit
import Derived.ProofKit
import Derived.OpenShut
import Derived.Outline
import Derived.Deep.Light
import Derived.Deep.QuietTactic
import Derived.BigQuiet
import Derived.IntWalk
import Derived.StillTailTactics
import Derived.RegionTactic
import Derived.Deep.RegionLaw
import Derived.ChangeAlike
import Derived.Deep.RegionHeld3
import Derived.Deep.CutRange
namespace Go.Proofs.Ytdolchlhphoggaa
open Go.ChangeShapes Go.WideShapes Go.ChangeAt Go.RowKit
set_option maxRecDepth 100000

theorem rtake_bad (A : Option Addr) (n c : Nat) (m : Int) (w : World) (hm : m < 1) : Calls Try.prog 50 #[.slice A n c, .int .i64 m] w fun e w' => e = .returned (.tuple #[.slice none 0 0, .int .i64 0, .int .i64 1]) ∧ Kept Old w w' := by
  go_enter Try.func50, Try.ntmps50
  go_wp2
  go_ret3
  exact ⟨rfl, Kept.refl _ _⟩
theorem rtake_full (A : Option Addr) (n c : Nat) (l : List R) (m : Int) (w : World) (h : Rs w A n l) (hm : 1 ≤ m) (f : fitB l m = false) (hn : n ≤ 1000) : Calls Try.prog 50 #[.slice A n c, .int .i64 m] w fun e w' => e = .returned (.tuple #[.slice none 0 0, .int .i64 0, .int .i64 3]) ∧ Kept Old w w' := by
  have hf := Lib.hid (rfit_no A n c l m w h (.inr f) hn)
  clear h f
  go_enter Try.func50, Try.ntmps50
  go_wp2_with fail
  refine hf.out.mono ?_
  rintro e w1 ⟨rfl, k1⟩
  go_wp2
  go_ret3
  exact ⟨rfl, k1⟩
set_option maxHeartbeats 4000000 in
theorem rtake_ok (A : Option Addr) (n c : Nat) (l : List R) (m : Int) (i : Nat) (x : R) (w : World) (h : Rs w A n l) (hr : Right 256 0 l) (hm : 1 ≤ m) (f : Fits l m i x) (hn : n ≤ 900) : Calls Try.prog 50 #[.slice A n c, .int .i64 m] w (TookPost (takeL l m i x) x w) := by
  have hf := Lib.hid (rfit_ok A n c l m i x w h hm f (by omega))
  have HR := Lib.hid h
  have HT := Lib.hid hr
  have hi : i < n := by have := f.lt; have := h.len; omega
  have bx := hr.at f.at_
  have big := f.big
  have HF := Lib.hid f
  have HK := Lib.hid (cut_keep hr f)
  clear h hr f
  go_enter Try.func50, Try.ntmps50
  go_wp2_with fail
  refine hf.out.mono ?_
  rintro e w1 ⟨rfl, k1⟩
  have K1 := Lib.hid k1
  clear k1 hf
  go_wp2_with fail
  generalize hs0 : w.heap.size = s0 at *
  go_loopw [9, 10] (fun v j wr => ∃ k N : Nat, k ≤ n ∧ N ≤ k ∧ j = .int .i64 (k : Int) ∧ Hid (Ow wr s0 v N (keepL ((cutAt l m i x).take k))) ∧ Hid (Kept Old w wr)) (fun _ j _ => n - (intOf j).toNat)
  case atStart => exact ⟨0, 0, by omega, by omega, rfl, Lib.hid (by simpa [keepL] using Ow.nil w1 s0), K1⟩
  case round =>
    obtain ⟨k, N, hk, hN, rfl, O, K⟩ := hrel
    rename World => W
    clear K1
    have hsz := Lib.hid (show s0 ≤ W.heap.size from by rw [← hs0]; exact K.out.size)
    by_cases c : k < n
    · obtain ⟨g, o, y, rfl, _, hx, f1, f2, c0, c1⟩ := (HR.out.old K.out).get c
      have iy := Lib.hid (show in64 y.1 ∧ in64 y.2 from ⟨f1, f2⟩)
      by_cases e : k = i
      · obtain rfl : y = x := by have := HF.out.at_; rw [← e, hx] at this; exact Option.some.inj this
        have tk : ((k : Int) == (i : Int)) = true := by simp; omega
        have tk' : (k == i) = true := by simp; omega
        have ix := Lib.hid (show in64 (y.1 + m) ∧ in64 (y.2 - m) from ⟨⟨by omega, by omega⟩, ⟨by omega, by omega⟩⟩)
        have g0 := Lib.hid (show (cutAt l m i y)[k]? = some (y.1 + m, y.2 - m) from by rw [e]; rw [e] at hx; exact cut_get_at hx)
        clear hx e
        by_cases d : y.2 - m = 0
        · have O' := Lib.hid (keep_no g0.out (by show ¬ 0 < y.2 - m; omega))
          go_wp2
          refine ⟨⟨k + 1, N, by omega, by omega, by go_num, ?_, Lib.hid (K.out.alloc _)⟩, ?_⟩
          · rw [O'.out]; exact Lib.hid (O.out.alloc _)
          · simp [intOf]; omega
        · have d1 : 0 < y.2 - m := by omega
          have O' := Lib.hid (keep_yes g0.out d1)
          clear d
          go_wp2_with (at_builtin; refine app_wp rfl (.tmp 47) (.tmp 49) rfl rfl s0 _ N _ rfl ((O.out.alloc _).alloc _) (some ⟨W.heap.size + 1, 0, none⟩) 1 1 [(y.1 + m, y.2 - m)] rfl (Rs.one _ (y.1 + m, y.2 - m) ix.out.1 ix.out.2 _ (by simp)) (by intro h; cases h) (by omega) (by omega) (Nat.le_trans hsz.out (((Kept.refl Old W).alloc _).alloc _).size) (N + 1) rfl _ O'.out.symm ?_; intro v2 w2 O2 k2 a2; have K2 := Lib.hid (((O.out.alloc _).alloc _).stepB (by omega) ((K.out.alloc _).alloc _) k2.out); clear k2 a2)
          refine ⟨⟨k + 1, N + 1, by omega, by omega, by go_num, O2, K2⟩, ?_⟩
          simp [intOf]; omega
      · have tk : ((k : Int) == (i : Int)) = false := by simp; omega
        have tk' : (k == i) = false := by simp; omega
        have e := Lib.hid e
        have by_ := HT.out.at hx
        have y2 : 0 < y.2 := by omega
        have O' := Lib.hid (keep_yes (l := cutAt l m i x) (by rw [cut_get_far e.out]; exact hx) y2)
        clear hx
        go_wp2_with (at_builtin; refine app_wp rfl (.tmp 47) (.tmp 49) rfl rfl s0 _ N _ rfl ((O.out.alloc _).alloc _) (some ⟨W.heap.size + 1, 0, none⟩) 1 1 [y] rfl (Rs.one _ y iy.out.1 iy.out.2 _ (by simp)) (by intro h; cases h) (by omega) (by omega) (Nat.le_trans hsz.out (((Kept.refl Old W).alloc _).alloc _).size) (N + 1) rfl _ O'.out.symm ?_; intro v2 w2 O2 k2 a2; have K2 := Lib.hid (((O.out.alloc _).alloc _).stepB (by omega) ((K.out.alloc _).alloc _) k2.out); clear k2 a2)
        refine ⟨⟨k + 1, N + 1, by omega, by omega, by go_num, O2, K2⟩, ?_⟩
        simp [intOf]; omega
    · obtain rfl : k = n := by omega
      obtain ⟨g, o, y, rfl, _, hx, f1, f2, c0, c1⟩ := (HR.out.old K.out).get hi
      obtain rfl : y = x := by have := HF.out.at_; rw [hx] at this; exact Option.some.inj this
      have P : TookPost (takeL l m i y) y w (.returned (.tuple #[u9, .int .i64 y.1, .int .i64 0])) W := by
        have o := O.out
        rw [List.take_of_length_le (by rw [cut_len]; have := HR.out.len; omega), HK.out] at o
        exact ⟨u9, rfl, made_end o K.out⟩
      have P := Lib.hid P
      have hi' : (i : Int) < (k : Int) := by omega
      clear hx
      go_wp2_with fail
      go_quiet (fail)
      go_wp2
      go_ret3
      obtain ⟨v', e, q⟩ := P.out
      exact ⟨v', e, q.drewN _⟩
end Go.Proofs.Ytdolchlhphoggaa
