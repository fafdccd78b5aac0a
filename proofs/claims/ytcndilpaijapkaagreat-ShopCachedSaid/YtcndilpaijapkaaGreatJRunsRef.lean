/-
  Joined texts of RunsRef; own work.
-/
import Derived.Test.YtcndilpaijapkaaGreatRows
import Derived.WalkKit
import Derived.ProofKit
import Derived.OpenShut
import Derived.Outline
import Derived.Deep.Light
import Derived.Deep.QuietTactic
import Derived.BigQuiet
import Derived.IntWalk
import Derived.StillTailTactics
import Derived.RegionTactic
import Derived.Deep.RegionLaw
import Derived.ChangeAlike
import Derived.Deep.RegionHeld3
import Derived.Test.YtcndilpaijapkaaGreatJRuns
/- What the document's own functions on runs answer (but TakeRun and PutRun). Own work; each is proved by a walk through the landed text. -/
namespace Go.Proofs.YtcndilpaijapkaaGreat
open Go.ChangeShapes Go.WideShapes Go.ChangeAt Go.RowKit
set_option maxRecDepth 100000

theorem rfit_ok (A : Option Addr) (n c : Nat) (l : List R) (m : Int) (i : Nat) (x : R) (w : World) (h : Rs w A n l) (hm : 1 ≤ m) (f : Fits l m i x) (hn : n ≤ 1000) : Calls Tryz.prog 152 #[.slice A n c, .int .i64 m] w fun e w' => e = .returned (.tuple #[.int .i64 (i : Int), .bool true]) ∧ Kept Old w w' := by
  have hi : i < n := by have := f.lt; have := h.len; omega
  have HR := Lib.hid h
  have HF := Lib.hid f
  clear h f
  go_enter Tryz.func152, Tryz.ntmps152
  go_wp2
  go_loopw [6] (fun j wr => ∃ k : Nat, k ≤ i ∧ j = .int .i64 (k : Int) ∧ Hid (Kept Old w wr)) (fun j _ => i + 1 - (intOf j).toNat)
  case atStart => exact ⟨0, by omega, rfl, Lib.hid (Kept.refl _ _)⟩
  case round =>
    obtain ⟨k, hk, rfl, K⟩ := hrel
    rename World => W
    obtain ⟨g, o, y, rfl, _, hx, f1, f2, c0, c1⟩ := (HR.out.old K.out).get (k := k) (by omega)
    by_cases c : k < i
    · have : y.2 < m := HF.out.below y (List.mem_of_getElem? (i := k) (by rw [List.getElem?_take, if_pos c]; exact hx))
      clear hx
      go_wp2
      refine ⟨⟨k + 1, by omega, by go_num, Lib.hid K.out⟩, ?_⟩
      simp [intOf]; omega
    · obtain rfl : k = i := by omega
      have hb : m ≤ y.2 := by have := HF.out.at_; rw [hx] at this; obtain rfl := Option.some.inj this; exact HF.out.big
      clear hx
      go_wp2
      go_ret2
      exact ⟨rfl, K.out⟩
theorem rfit_no (A : Option Addr) (n c : Nat) (l : List R) (m : Int) (w : World) (h : Rs w A n l) (f : m < 1 ∨ fitB l m = false) (hn : n ≤ 1000) : Calls Tryz.prog 152 #[.slice A n c, .int .i64 m] w fun e w' => e = .returned (.tuple #[.int .i64 0, .bool false]) ∧ Kept Old w w' := by
  have HR := Lib.hid h
  have HF := Lib.hid (show m < 1 ∨ ∀ y ∈ l, y.2 < m from f.imp id fit_none)
  clear h f
  go_enter Tryz.func152, Tryz.ntmps152
  go_wp2
  go_loopw [6] (fun j wr => ∃ k : Nat, k ≤ n ∧ j = .int .i64 (k : Int) ∧ Hid (Kept Old w wr)) (fun j _ => n - (intOf j).toNat)
  case atStart => exact ⟨0, by omega, rfl, Lib.hid (Kept.refl _ _)⟩
  case round =>
    obtain ⟨k, hk, rfl, K⟩ := hrel
    rename World => W
    by_cases c : k < n
    · obtain ⟨g, o, y, rfl, _, hx, f1, f2, c0, c1⟩ := (HR.out.old K.out).get (k := k) (by omega)
      rcases (show m < 1 ∨ (1 ≤ m ∧ y.2 < m) from by rcases HF.out with q | q; exact .inl q; have := q y (List.mem_of_getElem? hx); omega) with q | ⟨q, q'⟩
      all_goals
        clear hx
        go_wp2
        refine ⟨⟨k + 1, by omega, by go_num, Lib.hid K.out⟩, ?_⟩
        simp [intOf]; omega
    · go_wp2
      go_ret2
      exact ⟨rfl, K.out⟩
theorem over_no (x r : R) (w : World) (h0 : 0 ≤ x.1) (h1 : 1 ≤ x.2) (h2 : x.1 + x.2 ≤ 256) (g0 : 0 ≤ r.1) (g1 : 1 ≤ r.2) (g2 : r.1 + r.2 ≤ 256) (c : x.1 + x.2 ≤ r.1 ∨ r.1 + r.2 ≤ x.1) :
    Calls Tryz.prog 41 #[.int .i64 x.1, .int .i64 x.2, .int .i64 r.1, .int .i64 r.2] w fun e w' => e = .returned (.bool false) ∧ Kept Old w w' := by
  by_cases d : x.1 < r.1 + r.2
  · have d2 : ¬ r.1 < x.1 + x.2 := by omega
    clear c
    go_enter Tryz.func41, Tryz.ntmps41
    go_wp2
    go_ret
    exact ⟨rfl, Kept.refl _ _⟩
  · clear c
    go_enter Tryz.func41, Tryz.ntmps41
    go_wp2
    go_ret
    exact ⟨rfl, Kept.refl _ _⟩
theorem over_yes (x r : R) (w : World) (h0 : 0 ≤ x.1) (h1 : 1 ≤ x.2) (h2 : x.1 + x.2 ≤ 256) (g0 : 0 ≤ r.1) (g1 : 1 ≤ r.2) (g2 : r.1 + r.2 ≤ 256) (c : x.1 < r.1 + r.2) (d : r.1 < x.1 + x.2) :
    Calls Tryz.prog 41 #[.int .i64 x.1, .int .i64 x.2, .int .i64 r.1, .int .i64 r.2] w fun e w' => e = .returned (.bool true) ∧ Kept Old w w' := by
  go_enter Tryz.func41, Tryz.ntmps41
  go_wp2
  go_ret
  exact ⟨rfl, Kept.refl _ _⟩
end Go.Proofs.YtcndilpaijapkaaGreat
/- What Take answers of right runs. Own work; each is proved by a walk through the landed text. -/
namespace Go.Proofs.YtcndilpaijapkaaGreat
open Go.ChangeShapes Go.WideShapes Go.ChangeAt Go.RowKit
set_option maxRecDepth 100000

theorem take_bad (A : Option Addr) (n c : Nat) (m : Int) (w : World) (hm : m < 1) : Calls Tryz.prog 181 #[.slice A n c, .int .i64 m] w fun e w' => e = .returned (.tuple #[.slice none 0 0, .int .i64 0, .int .i64 1]) ∧ Kept Old w w' := by
  go_enter Tryz.func181, Tryz.ntmps181
  go_wp2
  go_ret3
  exact ⟨rfl, Kept.refl _ _⟩
theorem take_full (A : Option Addr) (n c : Nat) (l : List R) (m : Int) (w : World) (h : Rs w A n l) (hm : 1 ≤ m) (f : fitB l m = false) (hn : n ≤ 1000) : Calls Tryz.prog 181 #[.slice A n c, .int .i64 m] w fun e w' => e = .returned (.tuple #[.slice none 0 0, .int .i64 0, .int .i64 3]) ∧ Kept Old w w' := by
  have hf := Lib.hid (fit_no A n c l m w h hm f hn)
  clear h f
  go_enter Tryz.func181, Tryz.ntmps181
  go_wp2_with fail
  refine hf.out.mono ?_
  rintro e w1 ⟨rfl, k1⟩
  go_wp2
  go_ret3
  exact ⟨rfl, k1⟩
/-- What Take answers where a run fits. -/
def TookPost (L : List R) (x : R) (w : World) (e : Ending) (w' : World) : Prop := ∃ v, e = .returned (.tuple #[v, .int .i64 x.1, .int .i64 0]) ∧ Made1 L w v w'
set_option maxHeartbeats 4000000 in
theorem take_ok (A : Option Addr) (n c : Nat) (l : List R) (m : Int) (i : Nat) (x : R) (w : World) (h : Rs w A n l) (hr : Right 256 0 l) (hc : n ≤ c) (hm : 1 ≤ m) (f : Fits l m i x) (hn : n ≤ 1000) : Calls Tryz.prog 181 #[.slice A n c, .int .i64 m] w (TookPost (takeL l m i x) x w) := by
  have hf := Lib.hid (fit_ok A n c l m i x w h hm f hn)
  have HR := Lib.hid h
  have HT := Lib.hid hr
  have hi : i < n := by have := f.lt; have := h.len; omega
  have bx := hr.at f.at_
  have big := f.big
  have HF := Lib.hid f
  clear h hr f
  go_enter Tryz.func181, Tryz.ntmps181
  go_wp2_with fail
  refine hf.out.mono ?_
  rintro e w1 ⟨rfl, k1⟩
  obtain ⟨g, o, y, rfl, _, hx, f1, f2, c0, c1⟩ := (HR.out.old k1).get (k := i) (by omega)
  obtain rfl : x = y := by have := HF.out.at_; rw [hx] at this; exact (Option.some.inj this).symm
  obtain ⟨w2, hmk, ow2, k2⟩ := make_runs w1 w.heap.size n (by omega) k1.size
  have cw := Lib.hid (show w.cell? ⟨g, o + i * 2, none⟩ = some (.int .i64 x.1) ∧ w.cell? ⟨g, o + i * 2 + 1, none⟩ = some (.int .i64 x.2) from by
    obtain ⟨g', o', e, hg, cc⟩ := HR.out.lies (by omega)
    injection e with e
    injection e with e1 e2
    subst e1
    subst e2
    exact cc i x hx)
  have K2 := Lib.hid (k1.trans k2)
  have ow2 := Lib.hid ow2
  have hx := Lib.hid hx
  clear c0 c1 hf k1 k2
  generalize w1.heap.size = s1 at *
  have wi : IntKind.i64.wrap ((i : Int) + 1) = (i : Int) + 1 := IntWalk.i64_in _ (by omega)
  have hle : (i : Int) + 1 ≤ (n : Int) := by omega
  have hge : 0 ≤ (i : Int) + 1 := by omega
  by_cases d : x.2 - m = 0
  · go_wp2_with (at_builtin; refine app_wp rfl (.tmp 24) (.tmp 27) rfl rfl w.heap.size (.slice (some ⟨s1, 0, none⟩) 0 n) 0 [] rfl ow2.out (some ⟨g, o, none⟩) i c (l.take i) rfl ((HR.out.old K2.out).take (by omega)) (by intro h; cases h) (by omega) (by omega) K2.out.size i (by omega) (l.take i) rfl ?_; intro v3 w3 O3 k3 a3; have K3 := Lib.hid (ow2.out.step K2.out k3.out); have C0 := cell_on K3.out cw.out.1; have C1 := cell_on K3.out cw.out.2; clear k3 a3)
    have L3 := Lib.hid (show l.take i ++ l.drop (i + 1) = takeL l m i x by unfold takeL rest; rw [if_pos d, List.nil_append])
    clear d
    go_region_law (refine app_step rfl (.tmp 50) (.tmp 54) rfl rfl w.heap.size v3 i (l.take i) (by simp [Act.eval, Act.put]) (by first | exact O3.out | exact O3.out.drew) (if c = i + 1 then some ⟨g, o, none⟩ else some ⟨g, o + (i + 1) * 2, none⟩) (n - (i + 1)) (c - (i + 1)) (l.drop (i + 1)) (by simp [Act.eval, Act.put]) (by first | exact (HR.out.old K3.out).drop _ (fun h => if_neg (by omega)) | exact ((HR.out.old K3.out).drop _ (fun h => if_neg (by omega))).drew) (by intro h; split at h <;> cases h) (by omega) (by omega) (by first | exact K3.out.size | exact K3.out.drew.size) _ rfl (takeL l m i x) L3.out ?_; intro v5 w5 O5 k5 a5; have K5 := Lib.hid (Ow.step (by first | exact O3.out | exact O3.out.drew) (by first | exact K3.out | exact K3.out.drew) k5.out); have C5 := cell_on K5.out cw.out.1; have P := Lib.hid (show TookPost (takeL l m i x) x w (.returned (.tuple #[v5, .int .i64 x.1, .int .i64 0])) w5 from ⟨v5, rfl, made_end O5.out K5.out⟩); clear k5 a5)
    all_goals go_wp2
    all_goals go_ret3
    all_goals exact P.out
  · have L4 := Lib.hid (show (l.take i ++ [(x.1 + m, x.2 - m)]) ++ l.drop (i + 1) = takeL l m i x by unfold takeL rest; rw [if_neg d, List.append_assoc])
    have d1 : 0 < x.2 - m := by omega
    have i1 := Lib.hid (show in64 (x.1 + m) ∧ in64 (x.2 - m) from ⟨⟨by omega, by omega⟩, ⟨by omega, by omega⟩⟩)
    clear d
    go_wp2_with (first | (at_builtin; refine app_wp rfl (.tmp 24) (.tmp 27) rfl rfl w.heap.size (.slice (some ⟨s1, 0, none⟩) 0 n) 0 [] rfl ow2.out (some ⟨g, o, none⟩) i c (l.take i) rfl ((HR.out.old K2.out).take (by omega)) (by intro h; cases h) (by omega) (by omega) K2.out.size i (by omega) (l.take i) rfl ?_; intro v3 w3 O3 k3 a3; have K3 := Lib.hid (ow2.out.step K2.out k3.out); have C0 := cell_on K3.out cw.out.1; have C1 := cell_on K3.out cw.out.2; clear k3 a3) | (at_builtin; refine app_wp rfl (.tmp 38) (.tmp 48) rfl rfl w.heap.size v3 i (l.take i) rfl (O3.out.alloc _) (some ⟨w3.heap.size, 0, none⟩) 1 1 [(x.1 + m, x.2 - m)] rfl (Rs.one w3 (x.1 + m, x.2 - m) i1.out.1 i1.out.2 _ rfl) (by intro h; cases h) (by omega) (by omega) (K3.out.alloc _).size (i + 1) rfl (l.take i ++ [(x.1 + m, x.2 - m)]) rfl ?_; intro v4 w4 O4 k4 a4; have K4 := Lib.hid ((O3.out.alloc _).step (K3.out.alloc _) k4.out); have D0 := cell_on K4.out cw.out.1; have D1 := cell_on K4.out cw.out.2; clear k4 a4))
    clear d1
    go_region_law (refine app_step rfl (.tmp 50) (.tmp 54) rfl rfl w.heap.size v4 (i + 1) (l.take i ++ [(x.1 + m, x.2 - m)]) (by simp [Act.eval, Act.put]) (by first | exact O4.out | exact O4.out.drew) (if c = i + 1 then some ⟨g, o, none⟩ else some ⟨g, o + (i + 1) * 2, none⟩) (n - (i + 1)) (c - (i + 1)) (l.drop (i + 1)) (by simp [Act.eval, Act.put]) (by first | exact (HR.out.old K4.out).drop _ (fun h => if_neg (by omega)) | exact ((HR.out.old K4.out).drop _ (fun h => if_neg (by omega))).drew) (by intro h; split at h <;> cases h) (by omega) (by omega) (by first | exact K4.out.size | exact K4.out.drew.size) _ rfl (takeL l m i x) L4.out ?_; intro v5 w5 O5 k5 a5; have K5 := Lib.hid (Ow.step (by first | exact O4.out | exact O4.out.drew) (by first | exact K4.out | exact K4.out.drew) k5.out); have C5 := cell_on K5.out cw.out.1; have P := Lib.hid (show TookPost (takeL l m i x) x w (.returned (.tuple #[v5, .int .i64 x.1, .int .i64 0])) w5 from ⟨v5, rfl, made_end O5.out K5.out⟩); clear k5 a5)
    all_goals go_wp2
    all_goals go_ret3
    all_goals exact P.out
end Go.Proofs.YtcndilpaijapkaaGreat
