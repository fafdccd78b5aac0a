/-
  Joined texts of RunsRef; own work.
-/
import Derived.Test.YtcndilpaijapkaaGreatRows
import Derived.WalkKit
import Derived.ProofKit
import Derived.OpenShut
import Derived.Outline
import Derived.Deep.Light
import Derived.Deep.QuietTactic
import Derived.BigQuiet
import Derived.IntWalk
import Derived.StillTailTactics
import Derived.RegionTactic
import Derived.Deep.RegionLaw
import Derived.ChangeAlike
import Derived.Deep.RegionHeld3
import Derived.Deep.CutRange
import Derived.Test.YtcndilpaijapkaaGreatJRuns
import Derived.Test.YtcndilpaijapkaaGreatJRunsPutb
/- What the document's own functions on runs answer (but TakeRun and PutRun). Own work; each is proved by a walk through the landed text. -/
namespace Go.Proofs.YtcndilpaijapkaaGreat
open Go.ChangeShapes Go.WideShapes Go.ChangeAt Go.RowKit
set_option maxRecDepth 100000

theorem rfit_ok (A : Option Addr) (n c : Nat) (l : List R) (m : Int) (i : Nat) (x : R) (w : World) (h : Rs w A n l) (hm : 1 ≤ m) (f : Fits l m i x) (hn : n ≤ 1000) : Calls Tryz.prog 152 #[.slice A n c, .int .i64 m] w fun e w' => e = .returned (.tuple #[.int .i64 (i : Int), .bool true]) ∧ Kept Old w w' := by
  have hi : i < n := by have := f.lt; have := h.len; omega
  have HR := Lib.hid h
  have HF := Lib.hid f
  clear h f
  go_enter Tryz.func152, Tryz.ntmps152
  go_wp2
  go_loopw [6] (fun j wr => ∃ k : Nat, k ≤ i ∧ j = .int .i64 (k : Int) ∧ Hid (Kept Old w wr)) (fun j _ => i + 1 - (intOf j).toNat)
  case atStart => exact ⟨0, by omega, rfl, Lib.hid (Kept.refl _ _)⟩
  case round =>
    obtain ⟨k, hk, rfl, K⟩ := hrel
    rename World => W
    obtain ⟨g, o, y, rfl, _, hx, f1, f2, c0, c1⟩ := (HR.out.old K.out).get (k := k) (by omega)
    by_cases c : k < i
    · have : y.2 < m := HF.out.below y (List.mem_of_getElem? (i := k) (by rw [List.getElem?_take, if_pos c]; exact hx))
      clear hx
      go_wp2
      refine ⟨⟨k + 1, by omega, by go_num, Lib.hid K.out⟩, ?_⟩
      simp [intOf]; omega
    · obtain rfl : k = i := by omega
      have hb : m ≤ y.2 := by have := HF.out.at_; rw [hx] at this; obtain rfl := Option.some.inj this; exact HF.out.big
      clear hx
      go_wp2
      go_ret2
      exact ⟨rfl, K.out⟩
theorem rfit_no (A : Option Addr) (n c : Nat) (l : List R) (m : Int) (w : World) (h : Rs w A n l) (f : m < 1 ∨ fitB l m = false) (hn : n ≤ 1000) : Calls Tryz.prog 152 #[.slice A n c, .int .i64 m] w fun e w' => e = .returned (.tuple #[.int .i64 0, .bool false]) ∧ Kept Old w w' := by
  have HR := Lib.hid h
  have HF := Lib.hid (show m < 1 ∨ ∀ y ∈ l, y.2 < m from f.imp id fit_none)
  clear h f
  go_enter Tryz.func152, Tryz.ntmps152
  go_wp2
  go_loopw [6] (fun j wr => ∃ k : Nat, k ≤ n ∧ j = .int .i64 (k : Int) ∧ Hid (Kept Old w wr)) (fun j _ => n - (intOf j).toNat)
  case atStart => exact ⟨0, by omega, rfl, Lib.hid (Kept.refl _ _)⟩
  case round =>
    obtain ⟨k, hk, rfl, K⟩ := hrel
    rename World => W
    by_cases c : k < n
    · obtain ⟨g, o, y, rfl, _, hx, f1, f2, c0, c1⟩ := (HR.out.old K.out).get (k := k) (by omega)
      rcases (show m < 1 ∨ (1 ≤ m ∧ y.2 < m) from by rcases HF.out with q | q; exact .inl q; have := q y (List.mem_of_getElem? hx); omega) with q | ⟨q, q'⟩
      all_goals
        clear hx
        go_wp2
        refine ⟨⟨k + 1, by omega, by go_num, Lib.hid K.out⟩, ?_⟩
        simp [intOf]; omega
    · go_wp2
      go_ret2
      exact ⟨rfl, K.out⟩
theorem over_no (x r : R) (w : World) (h0 : 0 ≤ x.1) (h1 : 1 ≤ x.2) (h2 : x.1 + x.2 ≤ 256) (g0 : 0 ≤ r.1) (g1 : 1 ≤ r.2) (g2 : r.1 + r.2 ≤ 256) (c : x.1 + x.2 ≤ r.1 ∨ r.1 + r.2 ≤ x.1) :
    Calls Tryz.prog 41 #[.int .i64 x.1, .int .i64 x.2, .int .i64 r.1, .int .i64 r.2] w fun e w' => e = .returned (.bool false) ∧ Kept Old w w' := by
  by_cases d : x.1 < r.1 + r.2
  · have d2 : ¬ r.1 < x.1 + x.2 := by omega
    clear c
    go_enter Tryz.func41, Tryz.ntmps41
    go_wp2
    go_ret
    exact ⟨rfl, Kept.refl _ _⟩
  · clear c
    go_enter Tryz.func41, Tryz.ntmps41
    go_wp2
    go_ret
    exact ⟨rfl, Kept.refl _ _⟩
theorem over_yes (x r : R) (w : World) (h0 : 0 ≤ x.1) (h1 : 1 ≤ x.2) (h2 : x.1 + x.2 ≤ 256) (g0 : 0 ≤ r.1) (g1 : 1 ≤ r.2) (g2 : r.1 + r.2 ≤ 256) (c : x.1 < r.1 + r.2) (d : r.1 < x.1 + x.2) :
    Calls Tryz.prog 41 #[.int .i64 x.1, .int .i64 x.2, .int .i64 r.1, .int .i64 r.2] w fun e w' => e = .returned (.bool true) ∧ Kept Old w w' := by
  go_enter Tryz.func41, Tryz.ntmps41
  go_wp2
  go_ret
  exact ⟨rfl, Kept.refl _ _⟩
end Go.Proofs.YtcndilpaijapkaaGreat
/- What Take answers of right runs. Own work; each is proved by a walk through the landed text. -/
namespace Go.Proofs.YtcndilpaijapkaaGreat
open Go.ChangeShapes Go.WideShapes Go.ChangeAt Go.RowKit
set_option maxRecDepth 100000

theorem take_bad (A : Option Addr) (n c : Nat) (m : Int) (w : World) (hm : m < 1) : Calls Tryz.prog 181 #[.slice A n c, .int .i64 m] w fun e w' => e = .returned (.tuple #[.slice none 0 0, .int .i64 0, .int .i64 1]) ∧ Kept Old w w' := by
  go_enter Tryz.func181, Tryz.ntmps181
  go_wp2
  go_ret3
  exact ⟨rfl, Kept.refl _ _⟩
theorem take_full (A : Option Addr) (n c : Nat) (l : List R) (m : Int) (w : World) (h : Rs w A n l) (hm : 1 ≤ m) (f : fitB l m = false) (hn : n ≤ 1000) : Calls Tryz.prog 181 #[.slice A n c, .int .i64 m] w fun e w' => e = .returned (.tuple #[.slice none 0 0, .int .i64 0, .int .i64 3]) ∧ Kept Old w w' := by
  have hf := Lib.hid (fit_no A n c l m w h hm f hn)
  clear h f
  go_enter Tryz.func181, Tryz.ntmps181
  go_wp2_with fail
  refine hf.out.mono ?_
  rintro e w1 ⟨rfl, k1⟩
  go_wp2
  go_ret3
  exact ⟨rfl, k1⟩
/-- What Take answers where a run fits. -/
def TookPost (L : List R) (x : R) (w : World) (e : Ending) (w' : World) : Prop := ∃ v, e = .returned (.tuple #[v, .int .i64 x.1, .int .i64 0]) ∧ Made1 L w v w'
set_option maxHeartbeats 4000000 in
theorem take_ok (A : Option Addr) (n c : Nat) (l : List R) (m : Int) (i : Nat) (x : R) (w : World) (h : Rs w A n l) (hr : Right 256 0 l) (hc : n ≤ c) (hm : 1 ≤ m) (f : Fits l m i x) (hn : n ≤ 1000) : Calls Tryz.prog 181 #[.slice A n c, .int .i64 m] w (TookPost (takeL l m i x) x w) := by
  have hf := Lib.hid (fit_ok A n c l m i x w h hm f hn)
  have HR := Lib.hid h
  have HT := Lib.hid hr
  have hi : i < n := by have := f.lt; have := h.len; omega
  have bx := hr.at f.at_
  have big := f.big
  have HF := Lib.hid f
  clear h hr f
  go_enter Tryz.func181, Tryz.ntmps181
  go_wp2_with fail
  refine hf.out.mono ?_
  rintro e w1 ⟨rfl, k1⟩
  obtain ⟨g, o, y, rfl, _, hx, f1, f2, c0, c1⟩ := (HR.out.old k1).get (k := i) (by omega)
  obtain rfl : x = y := by have := HF.out.at_; rw [hx] at this; exact (Option.some.inj this).symm
  obtain ⟨w2, hmk, ow2, k2⟩ := make_runs w1 w.heap.size n (by omega) k1.size
  have cw := Lib.hid (show w.cell? ⟨g, o + i * 2, none⟩ = some (.int .i64 x.1) ∧ w.cell? ⟨g, o + i * 2 + 1, none⟩ = some (.int .i64 x.2) from by
    obtain ⟨g', o', e, hg, cc⟩ := HR.out.lies (by omega)
    injection e with e
    injection e with e1 e2
    subst e1
    subst e2
    exact cc i x hx)
  have K2 := Lib.hid (k1.trans k2)
  have ow2 := Lib.hid ow2
  have hx := Lib.hid hx
  clear c0 c1 hf k1 k2
  generalize w1.heap.size = s1 at *
  have wi : IntKind.i64.wrap ((i : Int) + 1) = (i : Int) + 1 := IntWalk.i64_in _ (by omega)
  have hle : (i : Int) + 1 ≤ (n : Int) := by omega
  have hge : 0 ≤ (i : Int) + 1 := by omega
  by_cases d : x.2 - m = 0
  · go_wp2_with (at_builtin; refine app_wp rfl (.tmp 24) (.tmp 27) rfl rfl w.heap.size (.slice (some ⟨s1, 0, none⟩) 0 n) 0 [] rfl ow2.out (some ⟨g, o, none⟩) i c (l.take i) rfl ((HR.out.old K2.out).take (by omega)) (by intro h; cases h) (by omega) (by omega) K2.out.size i (by omega) (l.take i) rfl ?_; intro v3 w3 O3 k3 a3; have K3 := Lib.hid (ow2.out.step K2.out k3.out); have C0 := cell_on K3.out cw.out.1; have C1 := cell_on K3.out cw.out.2; clear k3 a3)
    have L3 := Lib.hid (show l.take i ++ l.drop (i + 1) = takeL l m i x by unfold takeL rest; rw [if_pos d, List.nil_append])
    clear d
    go_region_law (refine app_step rfl (.tmp 50) (.tmp 54) rfl rfl w.heap.size v3 i (l.take i) (by simp [Act.eval, Act.put]) (by first | exact O3.out | exact O3.out.drew) (if c = i + 1 then some ⟨g, o, none⟩ else some ⟨g, o + (i + 1) * 2, none⟩) (n - (i + 1)) (c - (i + 1)) (l.drop (i + 1)) (by simp [Act.eval, Act.put]) (by first | exact (HR.out.old K3.out).drop _ (fun h => if_neg (by omega)) | exact ((HR.out.old K3.out).drop _ (fun h => if_neg (by omega))).drew) (by intro h; split at h <;> cases h) (by omega) (by omega) (by first | exact K3.out.size | exact K3.out.drew.size) _ rfl (takeL l m i x) L3.out ?_; intro v5 w5 O5 k5 a5; have K5 := Lib.hid (Ow.step (by first | exact O3.out | exact O3.out.drew) (by first | exact K3.out | exact K3.out.drew) k5.out); have C5 := cell_on K5.out cw.out.1; have P := Lib.hid (show TookPost (takeL l m i x) x w (.returned (.tuple #[v5, .int .i64 x.1, .int .i64 0])) w5 from ⟨v5, rfl, made_end O5.out K5.out⟩); clear k5 a5)
    all_goals go_wp2
    all_goals go_ret3
    all_goals exact P.out
  · have L4 := Lib.hid (show (l.take i ++ [(x.1 + m, x.2 - m)]) ++ l.drop (i + 1) = takeL l m i x by unfold takeL rest; rw [if_neg d, List.append_assoc])
    have d1 : 0 < x.2 - m := by omega
    have i1 := Lib.hid (show in64 (x.1 + m) ∧ in64 (x.2 - m) from ⟨⟨by omega, by omega⟩, ⟨by omega, by omega⟩⟩)
    clear d
    go_wp2_with (first | (at_builtin; refine app_wp rfl (.tmp 24) (.tmp 27) rfl rfl w.heap.size (.slice (some ⟨s1, 0, none⟩) 0 n) 0 [] rfl ow2.out (some ⟨g, o, none⟩) i c (l.take i) rfl ((HR.out.old K2.out).take (by omega)) (by intro h; cases h) (by omega) (by omega) K2.out.size i (by omega) (l.take i) rfl ?_; intro v3 w3 O3 k3 a3; have K3 := Lib.hid (ow2.out.step K2.out k3.out); have C0 := cell_on K3.out cw.out.1; have C1 := cell_on K3.out cw.out.2; clear k3 a3) | (at_builtin; refine app_wp rfl (.tmp 38) (.tmp 48) rfl rfl w.heap.size v3 i (l.take i) rfl (O3.out.alloc _) (some ⟨w3.heap.size, 0, none⟩) 1 1 [(x.1 + m, x.2 - m)] rfl (Rs.one w3 (x.1 + m, x.2 - m) i1.out.1 i1.out.2 _ rfl) (by intro h; cases h) (by omega) (by omega) (K3.out.alloc _).size (i + 1) rfl (l.take i ++ [(x.1 + m, x.2 - m)]) rfl ?_; intro v4 w4 O4 k4 a4; have K4 := Lib.hid ((O3.out.alloc _).step (K3.out.alloc _) k4.out); have D0 := cell_on K4.out cw.out.1; have D1 := cell_on K4.out cw.out.2; clear k4 a4))
    clear d1
    go_region_law (refine app_step rfl (.tmp 50) (.tmp 54) rfl rfl w.heap.size v4 (i + 1) (l.take i ++ [(x.1 + m, x.2 - m)]) (by simp [Act.eval, Act.put]) (by first | exact O4.out | exact O4.out.drew) (if c = i + 1 then some ⟨g, o, none⟩ else some ⟨g, o + (i + 1) * 2, none⟩) (n - (i + 1)) (c - (i + 1)) (l.drop (i + 1)) (by simp [Act.eval, Act.put]) (by first | exact (HR.out.old K4.out).drop _ (fun h => if_neg (by omega)) | exact ((HR.out.old K4.out).drop _ (fun h => if_neg (by omega))).drew) (by intro h; split at h <;> cases h) (by omega) (by omega) (by first | exact K4.out.size | exact K4.out.drew.size) _ rfl (takeL l m i x) L4.out ?_; intro v5 w5 O5 k5 a5; have K5 := Lib.hid (Ow.step (by first | exact O4.out | exact O4.out.drew) (by first | exact K4.out | exact K4.out.drew) k5.out); have C5 := cell_on K5.out cw.out.1; have P := Lib.hid (show TookPost (takeL l m i x) x w (.returned (.tuple #[v5, .int .i64 x.1, .int .i64 0])) w5 from ⟨v5, rfl, made_end O5.out K5.out⟩); clear k5 a5)
    all_goals go_wp2
    all_goals go_ret3
    all_goals exact P.out
end Go.Proofs.YtcndilpaijapkaaGreat
/- What the document's own TakeRun answers of right runs. Own work; each is proved by a walk through the landed text. -/
namespace Go.Proofs.YtcndilpaijapkaaGreat
open Go.ChangeShapes Go.WideShapes Go.ChangeAt Go.RowKit
set_option maxRecDepth 100000

theorem rtake_bad (A : Option Addr) (n c : Nat) (m : Int) (w : World) (hm : m < 1) : Calls Tryz.prog 125 #[.slice A n c, .int .i64 m] w fun e w' => e = .returned (.tuple #[.slice none 0 0, .int .i64 0, .int .i64 1]) ∧ Kept Old w w' := by
  go_enter Tryz.func125, Tryz.ntmps125
  go_wp2
  go_ret3
  exact ⟨rfl, Kept.refl _ _⟩
theorem rtake_full (A : Option Addr) (n c : Nat) (l : List R) (m : Int) (w : World) (h : Rs w A n l) (hm : 1 ≤ m) (f : fitB l m = false) (hn : n ≤ 1000) : Calls Tryz.prog 125 #[.slice A n c, .int .i64 m] w fun e w' => e = .returned (.tuple #[.slice none 0 0, .int .i64 0, .int .i64 3]) ∧ Kept Old w w' := by
  have hf := Lib.hid (rfit_no A n c l m w h (.inr f) hn)
  clear h f
  go_enter Tryz.func125, Tryz.ntmps125
  go_wp2_with fail
  refine hf.out.mono ?_
  rintro e w1 ⟨rfl, k1⟩
  go_wp2
  go_ret3
  exact ⟨rfl, k1⟩
set_option maxHeartbeats 4000000 in
theorem rtake_ok (A : Option Addr) (n c : Nat) (l : List R) (m : Int) (i : Nat) (x : R) (w : World) (h : Rs w A n l) (hr : Right 256 0 l) (hm : 1 ≤ m) (f : Fits l m i x) (hn : n ≤ 900) : Calls Tryz.prog 125 #[.slice A n c, .int .i64 m] w (TookPost (takeL l m i x) x w) := by
  have hf := Lib.hid (rfit_ok A n c l m i x w h hm f (by omega))
  have HR := Lib.hid h
  have HT := Lib.hid hr
  have hi : i < n := by have := f.lt; have := h.len; omega
  have bx := hr.at f.at_
  have big := f.big
  have HF := Lib.hid f
  have HK := Lib.hid (cut_keep hr f)
  clear h hr f
  go_enter Tryz.func125, Tryz.ntmps125
  go_wp2_with fail
  refine hf.out.mono ?_
  rintro e w1 ⟨rfl, k1⟩
  have K1 := Lib.hid k1
  clear k1 hf
  go_wp2_with fail
  generalize hs0 : w.heap.size = s0 at *
  go_loopw [9, 10] (fun v j wr => ∃ k N : Nat, k ≤ n ∧ N ≤ k ∧ j = .int .i64 (k : Int) ∧ Hid (Ow wr s0 v N (keepL ((cutAt l m i x).take k))) ∧ Hid (Kept Old w wr)) (fun _ j _ => n - (intOf j).toNat)
  case atStart => exact ⟨0, 0, by omega, by omega, rfl, Lib.hid (by simpa [keepL] using Ow.nil w1 s0), K1⟩
  case round =>
    obtain ⟨k, N, hk, hN, rfl, O, K⟩ := hrel
    rename World => W
    clear K1
    have hsz := Lib.hid (show s0 ≤ W.heap.size from by rw [← hs0]; exact K.out.size)
    by_cases c : k < n
    · obtain ⟨g, o, y, rfl, _, hx, f1, f2, c0, c1⟩ := (HR.out.old K.out).get c
      have iy := Lib.hid (show in64 y.1 ∧ in64 y.2 from ⟨f1, f2⟩)
      by_cases e : k = i
      · obtain rfl : y = x := by have := HF.out.at_; rw [← e, hx] at this; exact Option.some.inj this
        have tk : ((k : Int) == (i : Int)) = true := by simp; omega
        have tk' : (k == i) = true := by simp; omega
        have ix := Lib.hid (show in64 (y.1 + m) ∧ in64 (y.2 - m) from ⟨⟨by omega, by omega⟩, ⟨by omega, by omega⟩⟩)
        have g0 := Lib.hid (show (cutAt l m i y)[k]? = some (y.1 + m, y.2 - m) from by rw [e]; rw [e] at hx; exact cut_get_at hx)
        clear hx e
        by_cases d : y.2 - m = 0
        · have O' := Lib.hid (keep_no g0.out (by show ¬ 0 < y.2 - m; omega))
          go_wp2
          refine ⟨⟨k + 1, N, by omega, by omega, by go_num, ?_, Lib.hid (K.out.alloc _)⟩, ?_⟩
          · rw [O'.out]; exact Lib.hid (O.out.alloc _)
          · simp [intOf]; omega
        · have d1 : 0 < y.2 - m := by omega
          have O' := Lib.hid (keep_yes g0.out d1)
          clear d
          go_wp2_with (at_builtin; refine app_wp rfl (.tmp 47) (.tmp 49) rfl rfl s0 _ N _ rfl ((O.out.alloc _).alloc _) (some ⟨W.heap.size + 1, 0, none⟩) 1 1 [(y.1 + m, y.2 - m)] rfl (Rs.one _ (y.1 + m, y.2 - m) ix.out.1 ix.out.2 _ (by simp)) (by intro h; cases h) (by omega) (by omega) (Nat.le_trans hsz.out (((Kept.refl Old W).alloc _).alloc _).size) (N + 1) rfl _ O'.out.symm ?_; intro v2 w2 O2 k2 a2; have K2 := Lib.hid (((O.out.alloc _).alloc _).stepB (by omega) ((K.out.alloc _).alloc _) k2.out); clear k2 a2)
          refine ⟨⟨k + 1, N + 1, by omega, by omega, by go_num, O2, K2⟩, ?_⟩
          simp [intOf]; omega
      · have tk : ((k : Int) == (i : Int)) = false := by simp; omega
        have tk' : (k == i) = false := by simp; omega
        have e := Lib.hid e
        have by_ := HT.out.at hx
        have y2 : 0 < y.2 := by omega
        have O' := Lib.hid (keep_yes (l := cutAt l m i x) (by rw [cut_get_far e.out]; exact hx) y2)
        clear hx
        go_wp2_with (at_builtin; refine app_wp rfl (.tmp 47) (.tmp 49) rfl rfl s0 _ N _ rfl ((O.out.alloc _).alloc _) (some ⟨W.heap.size + 1, 0, none⟩) 1 1 [y] rfl (Rs.one _ y iy.out.1 iy.out.2 _ (by simp)) (by intro h; cases h) (by omega) (by omega) (Nat.le_trans hsz.out (((Kept.refl Old W).alloc _).alloc _).size) (N + 1) rfl _ O'.out.symm ?_; intro v2 w2 O2 k2 a2; have K2 := Lib.hid (((O.out.alloc _).alloc _).stepB (by omega) ((K.out.alloc _).alloc _) k2.out); clear k2 a2)
        refine ⟨⟨k + 1, N + 1, by omega, by omega, by go_num, O2, K2⟩, ?_⟩
        simp [intOf]; omega
    · obtain rfl : k = n := by omega
      obtain ⟨g, o, y, rfl, _, hx, f1, f2, c0, c1⟩ := (HR.out.old K.out).get hi
      obtain rfl : y = x := by have := HF.out.at_; rw [hx] at this; exact Option.some.inj this
      have P : TookPost (takeL l m i y) y w (.returned (.tuple #[u9, .int .i64 y.1, .int .i64 0])) W := by
        have o := O.out
        rw [List.take_of_length_le (by rw [cut_len]; have := HR.out.len; omega), HK.out] at o
        exact ⟨u9, rfl, made_end o K.out⟩
      have P := Lib.hid P
      have hi' : (i : Int) < (k : Int) := by omega
      clear hx
      go_wp2_with fail
      go_quiet (fail)
      go_wp2
      go_ret3
      obtain ⟨v', e, q⟩ := P.out
      exact ⟨v', e, q.drewN _⟩
end Go.Proofs.YtcndilpaijapkaaGreat
/- What the document's own PutRun answers of right runs. Own work; each is proved by a walk through the landed text. -/
namespace Go.Proofs.YtcndilpaijapkaaGreat
open Go.ChangeShapes Go.WideShapes Go.ChangeAt Go.RowKit
set_option maxRecDepth 100000

/-! ### Two lists of the call's own, apart from one another -/
theorem Ow.far {D : Nat → Prop} {w w' : World} {B : Nat} {v : Value} {n : Nat} {l : List R} (h : Ow w B v n l) (k : Kept D w w') (hd : ∀ g, some g = v.ownBlock → ¬ D g) : Ow w' B v n l := by
  refine ⟨⟨h.row.1, ?_⟩, h.fit⟩
  rcases h.row.2 with hn | ⟨g, cap, cur, rfl, hb, hg, rest⟩
  · exact .inl hn
  · refine .inr ⟨g, cap, cur, rfl, hb, ?_, rest⟩
    rw [k.block g (Array.getElem?_eq_some_iff.1 hg).1 (hd g rfl)]
    exact hg
structure Two (w : World) (B : Nat) (va : Value) (na : Nat) (la : List R) (vb : Value) (nb : Nat) (lb : List R) : Prop where
  a : Ow w B va na la
  b : Ow w B vb nb lb
  apart : ∀ k, some k = va.ownBlock → some k ≠ vb.ownBlock
theorem Two.swap {w : World} {B : Nat} {va vb : Value} {na nb : Nat} {la lb : List R} (h : Two w B va na la vb nb lb) : Two w B vb nb lb va na la := ⟨h.b, h.a, fun k e f => h.apart k f e⟩
theorem Two.alloc {w : World} {B : Nat} {va vb : Value} {na nb : Nat} {la lb : List R} (h : Two w B va na la vb nb lb) (o : Obj) : Two (w.alloc o) B va na la vb nb lb := ⟨h.a.alloc o, h.b.alloc o, h.apart⟩
theorem Two.left {w w' : World} {B : Nat} {va vb v' : Value} {na nb n' : Nat} {la lb l' : List R} (h : Two w B va na la vb nb lb) (o : Ow w' B v' n' l') (k : Kept (fun k => some k = va.ownBlock) w w') (at_ : v'.ownBlock = va.ownBlock ∨ v'.ownBlock = some w.heap.size) : Two w' B v' n' l' vb nb lb :=
  ⟨o, h.b.far k (fun g e f => h.apart g f e), fun g e f => by
    rcases at_ with q | q
    · exact h.apart g (by rw [e, q]) f
    · rw [q] at e
      have := (h.b.own g f).2
      injection e with e
      omega⟩
theorem Two.put {w : World} {b : Nat} {va vb : Value} {na nb : Nat} {la lb : List R} (h : Two w (b + 1) va na la vb nb lb) (p : Addr) (hp : p.block = b) (u : Value) : Two (w.setCell p u) (b + 1) va na la vb nb lb := by
  have k : Kept (fun i => i = b) w (w.setCell p u) := Kept.setCell (Kept.refl _ _) (fun _ => hp) u
  exact ⟨h.a.far k (fun g e f => by have := (h.a.own g e).1; omega), h.b.far k (fun g e f => by have := (h.b.own g e).1; omega), h.apart⟩
theorem Bx.put1 {w : World} {b : Nat} {x : R} (h : Bx w b x) (z : Int) : Bx (w.setCell ⟨b, 1, none⟩ (.int .i64 z)) b (x.1, z) := Blk.put h 1 (.int .i64 z)
/-- A round's state. -/
structure Pr (w : World) (b : Nat) (va vb : Value) (na nb : Nat) (s : St) (W : World) : Prop where
  two : Two W (b + 1) va na s.ah vb nb s.be
  box : Bx W b (s.a, s.n)
  kept : Kept Old w W
  own : w.heap.size ≤ b
theorem Pr.alloc {w W : World} {b : Nat} {va vb : Value} {na nb : Nat} {s : St} (h : Pr w b va vb na nb s W) (o : Obj) : Pr w b va vb na nb s (W.alloc o) := ⟨h.two.alloc o, h.box.alloc o, h.kept.alloc o, h.own⟩
theorem Pr.size {w W : World} {b : Nat} {va vb : Value} {na nb : Nat} {s : St} (h : Pr w b va vb na nb s W) : b + 1 ≤ W.heap.size := Blk.lt h.box
theorem Pr.left {w W W' : World} {b : Nat} {va vb v' : Value} {na nb n' : Nat} {s : St} {l' : List R} (h : Pr w b va vb na nb s W) (o : Ow W' (b + 1) v' n' l') (k : Kept (fun k => some k = va.ownBlock) W W') (at_ : v'.ownBlock = va.ownBlock ∨ v'.ownBlock = some W.heap.size) : Pr w b v' vb n' nb ⟨s.a, s.n, l', s.be⟩ W' :=
  ⟨h.two.left o k at_, h.two.a.box k h.box, h.two.a.stepB (Nat.le_trans h.own (Nat.le_succ _)) h.kept k, h.own⟩
theorem Pr.right {w W W' : World} {b : Nat} {va vb v' : Value} {na nb n' : Nat} {s : St} {l' : List R} (h : Pr w b va vb na nb s W) (o : Ow W' (b + 1) v' n' l') (k : Kept (fun k => some k = vb.ownBlock) W W') (at_ : v'.ownBlock = vb.ownBlock ∨ v'.ownBlock = some W.heap.size) : Pr w b va v' na n' ⟨s.a, s.n, s.ah, l'⟩ W' :=
  ⟨(h.two.swap.left o k at_).swap, h.two.b.box k h.box, h.two.b.stepB (Nat.le_trans h.own (Nat.le_succ _)) h.kept k, h.own⟩
theorem Pr.put2 {w W : World} {b : Nat} {va vb : Value} {na nb : Nat} {s : St} (h : Pr w b va vb na nb s W) (y z : Int) : Pr w b va vb na nb ⟨y, z, s.ah, s.be⟩ ((W.setCell ⟨b, 0, none⟩ (.int .i64 y)).setCell ⟨b, 1, none⟩ (.int .i64 z)) :=
  ⟨(h.two.put _ rfl _).put _ rfl _, h.box.put2 y z, Bx.kept2 h.kept h.own _ _, h.own⟩
theorem Pr.put1 {w W : World} {b : Nat} {va vb : Value} {na nb : Nat} {s : St} (h : Pr w b va vb na nb s W) (z : Int) : Pr w b va vb na nb ⟨s.a, z, s.ah, s.be⟩ (W.setCell ⟨b, 1, none⟩ (.int .i64 z)) :=
  ⟨h.two.put _ rfl _, h.box.put1 z, h.kept.setCell (p := ⟨b, 1, none⟩) (fun e => absurd e (Nat.not_lt.2 h.own)) _, h.own⟩

theorem rput_ways (r : R) : (decide (r.2 < 1) = true ∧ True) ∨ (¬ r.2 < 1 ∧ r.1 < 0) ∨ (¬ r.2 < 1 ∧ ¬ r.1 < 0 ∧ 256 < r.1) ∨ (¬ r.2 < 1 ∧ ¬ r.1 < 0 ∧ ¬ 256 < r.1 ∧ 256 - r.1 < r.2) ∨ liesB r 256 = true := by
  unfold liesB
  simp only [decide_eq_true_eq, and_true]
  omega
theorem rput_bad (A : Option Addr) (n c : Nat) (r : R) (w : World) (hb : liesB r 256 = false) : Calls Tryz.prog 104 #[.slice A n c, run r] w fun e w' => e = .returned (.tuple #[.slice none 0 0, .int .i64 1]) ∧ Kept Old w w' := by
  rcases rput_ways r with ⟨d, _⟩ | ⟨d1, d2⟩ | ⟨d1, d2, d3⟩ | ⟨d1, d2, d3, d4⟩ | d
  · have d := of_decide_eq_true d
    clear hb
    go_enter Tryz.func104, Tryz.ntmps104
    go_wp2
    go_ret2
    exact ⟨rfl, (Kept.refl _ _).alloc _⟩
  · clear hb
    go_enter Tryz.func104, Tryz.ntmps104
    go_wp2
    go_ret2
    exact ⟨rfl, (Kept.refl _ _).alloc _⟩
  · clear hb
    go_enter Tryz.func104, Tryz.ntmps104
    go_wp2
    go_ret2
    exact ⟨rfl, (Kept.refl _ _).alloc _⟩
  · clear hb
    go_enter Tryz.func104, Tryz.ntmps104
    go_wp2
    go_ret2
    exact ⟨rfl, (Kept.refl _ _).alloc _⟩
  · rw [hb] at d; cases d
theorem free_snoc {l : List R} {a n : Int} {k : Nat} {x : R} (h : ∀ y ∈ l.take k, y.1 + y.2 ≤ a ∨ a + n ≤ y.1) (hx : l[k]? = some x) (c : x.1 + x.2 ≤ a ∨ a + n ≤ x.1) : ∀ y ∈ l.take (k + 1), y.1 + y.2 ≤ a ∨ a + n ≤ y.1 := by
  intro y hy
  rw [take_snoc hx] at hy
  rcases List.mem_append.1 hy with hy | hy
  · exact h y hy
  · obtain rfl := List.mem_singleton.1 hy; exact c
set_option maxHeartbeats 4000000 in
theorem rput_twice (A : Option Addr) (n c : Nat) (l : List R) (r : R) (w : World) (h : Rs w A n l) (hr : Right 256 0 l) (hn : n ≤ 900) (h0 : 0 ≤ r.1) (h1 : 1 ≤ r.2) (h2 : r.1 + r.2 ≤ 256) (hf : freeB l r.1 r.2 = false) : Calls Tryz.prog 104 #[.slice A n c, run r] w fun e w' => e = .returned (.tuple #[.slice none 0 0, .int .i64 4]) ∧ Kept Old w w' := by
  have HR := Lib.hid h
  have HT := Lib.hid hr
  have hf := Lib.hid hf
  clear h hr
  have q1 : r.1 ≤ 256 := by omega
  have q2 : r.2 ≤ 256 - r.1 := by omega
  go_enter Tryz.func104, Tryz.ntmps104
  go_wp2_with fail
  have K0 := Lib.hid ((Kept.refl Old w).alloc (.cells #[.int .i64 r.1, .int .i64 r.2] 91))
  have B0 := Lib.hid (Bx.new w r)
  generalize hb : w.heap.size = b at *
  go_loopw [6] (fun j wr => ∃ k : Nat, k ≤ n ∧ j = .int .i64 (k : Int) ∧ Hid (∀ y ∈ l.take k, y.1 + y.2 ≤ r.1 ∨ r.1 + r.2 ≤ y.1) ∧ Hid (Bx wr b r) ∧ Hid (Kept Old w wr)) (fun j _ => n - (intOf j).toNat)
  case atStart => exact ⟨0, by omega, rfl, Lib.hid (fun y hy => by simp at hy), B0, K0⟩
  case round =>
    obtain ⟨k, hk, rfl, HL, B, K⟩ := hrel
    rename World => W
    clear B0 K0
    by_cases c : k < n
    · obtain ⟨g, o, x, rfl, _, hx, f1, f2, c0, c1⟩ := (HR.out.old K.out).get c
      have bx := HT.out.at hx
      have r0 := B.out.c0
      have r1 := B.out.c1
      have hx := Lib.hid hx
      go_wp2_with fail
      go_still_tail 14, (by kernel_rfl)
      change wpList _ _ _ _ _ W.drew
      clear r0 r1 c0 c1
      go_wp2_with fail
      by_cases d : x.1 + x.2 ≤ r.1 ∨ r.1 + r.2 ≤ x.1
      · refine (over_no x r _ bx.1 bx.2.1 bx.2.2 h0 h1 h2 d).mono ?_
        rintro e w1 ⟨rfl, k1⟩
        have L := Lib.hid (free_snoc HL.out hx.out d)
        clear d
        go_wp2
        refine ⟨⟨k + 1, by omega, by go_num, L, Lib.hid (B.out.drew.old k1), Lib.hid (K.out.drew.trans k1)⟩, ?_⟩
        simp [intOf]; omega
      · refine (over_yes x r _ bx.1 bx.2.1 bx.2.2 h0 h1 h2 (by omega) (by omega)).mono ?_
        rintro e w1 ⟨rfl, k1⟩
        go_wp2
        go_ret2
        exact ⟨rfl, K.out.drew.trans k1⟩
    · exfalso
      have q := free_of HL.out
      rw [List.take_of_length_le (by have := HR.out.len; omega), hf.out] at q
      cases q
end Go.Proofs.YtcndilpaijapkaaGreat
/- What the document's own PutRun answers where the run may be put. Own work; each is proved by a walk through the landed text. -/
namespace Go.Proofs.YtcndilpaijapkaaGreat
open Go.ChangeShapes Go.WideShapes Go.ChangeAt Go.RowKit
set_option maxRecDepth 100000

theorem Ow.rsAt {w : World} {B : Nat} {A : Option Addr} {n m c : Nat} {l : List R} (h : Ow w B (.slice A m c) n l) : Rs w A n l ∧ (A = none → n = 0 ∧ c = 0) := by
  have h' := h.row.2
  obtain ⟨A', c', e, r, _, hA⟩ := h.rs
  injection e with e1 e2 e3
  subst e1
  subst e2
  subst e3
  refine ⟨r, fun q => ⟨?_, hA q⟩⟩
  rcases h' with ⟨_, z⟩ | ⟨g, cap, cur, e, _⟩
  · exact z
  · injection e with e1
    rw [q] at e1
    cases e1
set_option maxHeartbeats 8000000 in
theorem rput_ok (A : Option Addr) (n c : Nat) (l : List R) (r : R) (w : World) (h : Rs w A n l) (hr : Right 256 0 l) (hn : n ≤ 900) (h0 : 0 ≤ r.1) (h1 : 1 ≤ r.2) (h2 : r.1 + r.2 ≤ 256) (hf : freeB l r.1 r.2 = true) : Calls Tryz.prog 104 #[.slice A n c, run r] w (PutPost (putL l r.1 r.2) w) := by
  have HR := Lib.hid h
  have HT := Lib.hid hr
  have hf := Lib.hid hf
  clear h hr
  have q1 : r.1 ≤ 256 := by omega
  have q2 : r.2 ≤ 256 - r.1 := by omega
  go_enter Tryz.func104, Tryz.ntmps104
  go_wp2_with fail
  have K0 := Lib.hid ((Kept.refl Old w).alloc (.cells #[.int .i64 r.1, .int .i64 r.2] 91))
  have B0 := Lib.hid (Bx.new w r)
  generalize hb : w.heap.size = b at *
  go_loopw [6] (fun j wr => ∃ k : Nat, k ≤ n ∧ j = .int .i64 (k : Int) ∧ Hid (∀ y ∈ l.take k, y.1 + y.2 ≤ r.1 ∨ r.1 + r.2 ≤ y.1) ∧ Hid (Bx wr b r) ∧ Hid (Kept Old w wr)) (fun j _ => n - (intOf j).toNat)
  case atStart => exact ⟨0, by omega, rfl, Lib.hid (fun y hy => by simp at hy), B0, K0⟩
  case round =>
    obtain ⟨k, hk, rfl, HL, B, K⟩ := hrel
    rename World => W
    clear B0 K0
    by_cases c : k < n
    · obtain ⟨g, o, x, rfl, _, hx, f1, f2, c0, c1⟩ := (HR.out.old K.out).get c
      have bx := HT.out.at hx
      have r0 := B.out.c0
      have r1 := B.out.c1
      have hx := Lib.hid hx
      go_wp2_with fail
      go_still_tail 14, (by kernel_rfl)
      change wpList _ _ _ _ _ W.drew
      clear r0 r1 c0 c1
      go_wp2_with fail
      by_cases d : x.1 + x.2 ≤ r.1 ∨ r.1 + r.2 ≤ x.1
      · refine (over_no x r _ bx.1 bx.2.1 bx.2.2 h0 h1 h2 d).mono ?_
        rintro e w1 ⟨rfl, k1⟩
        have L := Lib.hid (free_snoc HL.out hx.out d)
        clear d
        go_wp2
        refine ⟨⟨k + 1, by omega, by go_num, L, Lib.hid (B.out.drew.old k1), Lib.hid (K.out.drew.trans k1)⟩, ?_⟩
        simp [intOf]; omega
      · exfalso
        have := free_mem hf.out x (List.mem_of_getElem? hx.out)
        exact d this
    · have S0 : Pr w b (.slice none 0 0) (.slice none 0 0) 0 0 (putFold (l.take 0) r.1 r.2) W := ⟨⟨Ow.nil _ _, Ow.nil _ _, fun k e => by cases e⟩, B.out, K.out, by omega⟩
      have S0 := Lib.hid S0
      clear B K HL
      go_wp2_with fail
      clear c hk
      go_loopw [7, 8, 9] (fun va vb j wr => ∃ k na nb : Nat, k ≤ n ∧ na + nb ≤ k ∧ j = .int .i64 (k : Int) ∧ Hid (Pr w b va vb na nb (putFold (l.take k) r.1 r.2) wr)) (fun _ _ j _ => n - (intOf j).toNat)
      case atStart => exact ⟨0, 0, 0, by omega, by omega, rfl, S0⟩
      case round =>
        clear S0
        obtain ⟨k, na, nb, hk, hab, rfl, S⟩ := hrel
        rename World => V
        have small := fold_small HT.out ⟨h0, q1⟩ ⟨h1, by omega⟩ k
        by_cases c : k < n
        · obtain ⟨g, o, y, rfl, _, hx, f1, f2, c0, c1⟩ := (HR.out.old S.out.kept).get c
          have by_ := HT.out.at hx
          have iy := Lib.hid (show in64 y.1 ∧ in64 y.2 from ⟨f1, f2⟩)
          have st := Lib.hid (fold_snoc r.1 r.2 hx)
          generalize putFold (l.take k) r.1 r.2 = s at *
          obtain ⟨a, m, ah, be⟩ := s
          simp only at small
          obtain ⟨s1, s2, s3, s4, s5⟩ := small
          have s4 : m ≤ 256 * 1000 := by omega
          have x0 : V.cell? ⟨b, 0, none⟩ = some (.int .i64 a) := S.out.box.c0
          have x1 : V.cell? ⟨b, 1, none⟩ = some (.int .i64 m) := S.out.box.c1
          have z0 := Blk.frozen S.out.box 0
          have z1 := Blk.frozen S.out.box 1
          have lb : b < V.heap.size := Blk.lt S.out.box
          clear hx f1 f2 hf HR HT
          by_cases e1 : y.1 + y.2 = a
          · have t1 : (y.1 + y.2 == a) = true := by simp [e1]
            have e := Lib.hid (show putStep ⟨a, m, ah, be⟩ y = ⟨y.1, y.2 + m, ah, be⟩ from by unfold putStep; rw [if_pos e1])
            clear e1
            go_wp2_with fail
            refine ⟨⟨k + 1, na, nb, by omega, by omega, by go_num, ?_⟩, ?_⟩
            · rw [st.out, e.out]; exact Lib.hid ((S.out.put2 y.1 (y.2 + m)).alloc _)
            · simp [intOf]; omega
          · have t1 : (y.1 + y.2 == a) = false := by simp [e1]
            by_cases e2 : y.1 = a + m
            · have t2 : (y.1 == a + m) = true := by simp [e2]
              have e := Lib.hid (show putStep ⟨a, m, ah, be⟩ y = ⟨a, m + y.2, ah, be⟩ from by unfold putStep; rw [if_neg e1, if_pos e2])
              clear e1 e2
              go_wp2_with fail
              refine ⟨⟨k + 1, na, nb, by omega, by omega, by go_num, ?_⟩, ?_⟩
              · rw [st.out, e.out]; exact Lib.hid ((S.out.put1 (m + y.2)).alloc _)
              · simp [intOf]; omega
            · have t2 : (y.1 == a + m) = false := by simp [e2]
              by_cases e3 : y.1 < a
              · have e := Lib.hid (show putStep ⟨a, m, ah, be⟩ y = ⟨a, m, ah ++ [y], be⟩ from by unfold putStep; rw [if_neg e1, if_neg e2, if_pos e3])
                clear e1 e2
                go_wp2_with (at_builtin; refine app_wp rfl (.tmp 105) (.tmp 107) rfl rfl (b + 1) u7 na ah rfl ((S.out.two.a.alloc _).alloc _) (some ⟨V.heap.size + 1, 0, none⟩) 1 1 [y] rfl (Rs.one _ y iy.out.1 iy.out.2 _ (by simp)) (by intro h; cases h) (by omega) (by omega) (Nat.le_trans S.out.size (((Kept.refl Old V).alloc _).alloc _).size) (na + 1) rfl (ah ++ [y]) rfl ?_; intro v2 w2 O2 k2 a2; have S2 := Lib.hid (((S.out.alloc _).alloc _).left O2.out k2.out a2.out); clear k2 a2 O2)
                refine ⟨⟨k + 1, na + 1, nb, by omega, by omega, by go_num, ?_⟩, ?_⟩
                · rw [st.out, e.out]; exact S2
                · simp [intOf]; omega
              · have e := Lib.hid (show putStep ⟨a, m, ah, be⟩ y = ⟨a, m, ah, be ++ [y]⟩ from by unfold putStep; rw [if_neg e1, if_neg e2, if_neg e3])
                clear e1 e2
                go_wp2_with (at_builtin; refine app_wp rfl (.tmp 63) (.tmp 65) rfl rfl (b + 1) u8 nb be rfl ((S.out.two.b.alloc _).alloc _) (some ⟨V.heap.size + 1, 0, none⟩) 1 1 [y] rfl (Rs.one _ y iy.out.1 iy.out.2 _ (by simp)) (by intro h; cases h) (by omega) (by omega) (Nat.le_trans S.out.size (((Kept.refl Old V).alloc _).alloc _).size) (nb + 1) rfl (be ++ [y]) rfl ?_; intro v2 w2 O2 k2 a2; have S2 := Lib.hid (((S.out.alloc _).alloc _).right O2.out k2.out a2.out); clear k2 a2 O2)
                refine ⟨⟨k + 1, na, nb + 1, by omega, by omega, by go_num, ?_⟩, ?_⟩
                · rw [st.out, e.out]; exact S2
                · simp [intOf]; omega
        · have al : (putFold (l.take k) r.1 r.2).all = putL l r.1 r.2 := by
            rw [List.take_of_length_le (by have := HR.out.len; omega)]
            exact putFold_all HT.out h1 hf.out
          generalize putFold (l.take k) r.1 r.2 = s at *
          obtain ⟨a, m, ah, be⟩ := s
          simp only at small
          obtain ⟨s1, s2, s3, s4, s5⟩ := small
          have s4 : m ≤ 256 * 1000 := by omega
          have x0 : V.cell? ⟨b, 0, none⟩ = some (.int .i64 a) := S.out.box.c0
          have x1 : V.cell? ⟨b, 1, none⟩ = some (.int .i64 m) := S.out.box.c1
          have al := Lib.hid (show (ah ++ [(a, m)]) ++ be = putL l r.1 r.2 from by rw [← al]; simp [St.all])
          have ir := Lib.hid (show in64 a ∧ in64 m from ⟨⟨by omega, by omega⟩, ⟨by omega, by omega⟩⟩)
          obtain ⟨A8, c8, rfl, _, _, _⟩ := S.out.two.b.rs
          clear hf HR HT
          go_wp2_with (first | (at_builtin; refine app_wp rfl (.tmp 109) (.tmp 111) rfl rfl (b + 1) u7 na ah rfl (S.out.two.a.alloc _) (some ⟨V.heap.size, 0, none⟩) 1 1 [(a, m)] rfl (Rs.one _ (a, m) ir.out.1 ir.out.2 _ rfl) (by intro h; cases h) (by omega) (by omega) (Nat.le_trans S.out.size ((Kept.refl Old V).alloc _).size) (na + 1) rfl (ah ++ [(a, m)]) rfl ?_; intro v2 w2 O2 k2 a2; have S2 := Lib.hid ((S.out.alloc _).left O2.out k2.out a2.out); clear k2 a2 O2) | (at_builtin; refine app_wp rfl (.tmp 112) (.tmp 113) rfl rfl (b + 1) v2 (na + 1) (ah ++ [(a, m)]) rfl S2.out.two.a A8 nb c8 be rfl S2.out.two.b.rsAt.1 S2.out.two.b.rsAt.2 (by omega) (by omega) S2.out.size _ rfl (putL l r.1 r.2) al.out ?_; intro v3 w3 O3 k3 a3; have K3 := Lib.hid (S2.out.two.a.stepB (Nat.le_trans S2.out.own (Nat.le_succ _)) S2.out.kept k3.out); have P := Lib.hid (show PutPost (putL l r.1 r.2) w (.returned (.tuple #[v3, .int .i64 0])) w3 from ⟨v3, rfl, made_end O3.out K3.out⟩); clear k3 a3))
          go_ret2
          exact P.out
end Go.Proofs.YtcndilpaijapkaaGreat
/- That the program and the document answer alike of right runs. Own work; each is proved by a walk through the landed text. -/
namespace Go.Proofs.YtcndilpaijapkaaGreat
open Go.ChangeShapes Go.WideShapes Go.ChangeAt Go.RowKit
set_option maxRecDepth 100000

def Out3 (L : List R) (x code : Int) (w : World) (e : Ending) (w' : World) : Prop := ∃ v, e = .returned (.tuple #[v, .int .i64 x, .int .i64 code]) ∧ Made1 L w v w'
def Out2 (L : List R) (code : Int) (w : World) (e : Ending) (w' : World) : Prop := ∃ v, e = .returned (.tuple #[v, .int .i64 code]) ∧ Made1 L w v w'
theorem none_made {w w' : World} (k : Kept Old w w') : Made1 [] w (.slice none 0 0) w' := ⟨none, 0, 0, rfl, Rs.nil _ _, Nat.le_refl _, ⟨fun _ => rfl, fun _ h => by cases h⟩, k⟩
theorem right_n {w : World} {A : Option Addr} {n : Nat} {l : List R} (h : Rs w A n l) (hr : Right 256 0 l) : n ≤ 257 := by
  have := hr.len (by omega)
  have := h.len
  omega
theorem fit_both (l : List R) (m : Int) (hr : Right 256 0 l) : ∃ (k : Int) (b : Bool),
    (∀ A n c w, Rs w A n l → Calls Tryz.prog 194 #[.slice A n c, .int .i64 m] w fun e w' => e = .returned (.tuple #[.int .i64 k, .bool b]) ∧ Kept Old w w') ∧
    (∀ A n c w, Rs w A n l → Calls Tryz.prog 152 #[.slice A n c, .int .i64 m] w fun e w' => e = .returned (.tuple #[.int .i64 k, .bool b]) ∧ Kept Old w w') := by
  by_cases hm : m < 1
  · exact ⟨0, false, fun A n c w _ => fit_bad A n c m w hm, fun A n c w h => rfit_no A n c l m w h (.inl hm) (by have := right_n h hr; omega)⟩
  · cases hf : fitB l m with
    | false => exact ⟨0, false, fun A n c w h => fit_no A n c l m w h (by omega) hf (by have := right_n h hr; omega), fun A n c w h => rfit_no A n c l m w h (.inr hf) (by have := right_n h hr; omega)⟩
    | true =>
      obtain ⟨i, x, f⟩ := fits_of hf
      exact ⟨i, true, fun A n c w h => fit_ok A n c l m i x w h (by omega) f (by have := right_n h hr; omega), fun A n c w h => rfit_ok A n c l m i x w h (by omega) f (by have := right_n h hr; omega)⟩
theorem take_both (l : List R) (m : Int) (hr : Right 256 0 l) : ∃ (L : List R) (x code : Int), Right 256 0 L ∧
    (∀ A n c w, Rs w A n l → n ≤ c → Calls Tryz.prog 181 #[.slice A n c, .int .i64 m] w (Out3 L x code w)) ∧
    (∀ A n c w, Rs w A n l → Calls Tryz.prog 125 #[.slice A n c, .int .i64 m] w (Out3 L x code w)) := by
  by_cases hm : m < 1
  · exact ⟨[], 0, 1, trivial, fun A n c w _ _ => (take_bad A n c m w hm).mono fun e w' h => ⟨_, h.1, none_made h.2⟩, fun A n c w h => (rtake_bad A n c m w hm).mono fun e w' h => ⟨_, h.1, none_made h.2⟩⟩
  · cases hf : fitB l m with
    | false => exact ⟨[], 0, 3, trivial, fun A n c w h _ => (take_full A n c l m w h (by omega) hf (by have := right_n h hr; omega)).mono fun e w' h => ⟨_, h.1, none_made h.2⟩, fun A n c w h => (rtake_full A n c l m w h (by omega) hf (by have := right_n h hr; omega)).mono fun e w' h => ⟨_, h.1, none_made h.2⟩⟩
    | true =>
      obtain ⟨i, x, f⟩ := fits_of hf
      exact ⟨takeL l m i x, x.1, 0, right_take hr f (by omega), fun A n c w h hc => take_ok A n c l m i x w h hr hc (by omega) f (by have := right_n h hr; omega), fun A n c w h => rtake_ok A n c l m i x w h hr (by omega) f (by have := right_n h hr; omega)⟩
theorem put_both (l : List R) (r : R) (hr : Right 256 0 l) (h64 : in64 r.2) : ∃ (L : List R) (code : Int), Right 256 0 L ∧
    (∀ A n c w, Rs w A n l → n ≤ c → (A = none → c = 0) → Calls Tryz.prog 120 #[.slice A n c, run r] w (Out2 L code w)) ∧
    (∀ A n c w, Rs w A n l → Calls Tryz.prog 104 #[.slice A n c, run r] w (Out2 L code w)) := by
  cases hb : liesB r 256 with
  | false => exact ⟨[], 1, trivial, fun A n c w _ _ _ => (put_bad A n c r w h64 hb).mono fun e w' h => ⟨_, h.1, none_made h.2⟩, fun A n c w _ => (rput_bad A n c r w hb).mono fun e w' h => ⟨_, h.1, none_made h.2⟩⟩
  | true =>
    obtain ⟨h0, h1, h2⟩ := of_decide_eq_true hb
    cases hf : freeB l r.1 r.2 with
    | false => exact ⟨[], 4, trivial, fun A n c w h _ _ => (put_twice A n c l r w h hr (by have := right_n h hr; omega) h0 h1 h2 hf).mono fun e w' h => ⟨_, h.1, none_made h.2⟩, fun A n c w h => (rput_twice A n c l r w h hr (by have := right_n h hr; omega) h0 h1 h2 hf).mono fun e w' h => ⟨_, h.1, none_made h.2⟩⟩
    | true => exact ⟨putL l r.1 r.2, 0, right_put hr h0 h0 h1 h2 (free_mem hf), fun A n c w h hc hA => put_ok A n c l r w h hr hc hA (by have := right_n h hr; omega) h0 h1 h2 hf, fun A n c w h => rput_ok A n c l r w h hr (by have := right_n h hr; omega) h0 h1 h2 hf⟩
end Go.Proofs.YtcndilpaijapkaaGreat
