/-
  What the document's own PutLate and NextLate answer. Own work; each is proved by a walk through the landed text.
-/
import Derived.Test.YtjchdkjncfjibaaRows
import Derived.Test.YtjchdkjncfjibaaLateRef
import Derived.WalkKit
import Derived.ProofKit
import Derived.OpenShut
import Derived.Outline
import Derived.Deep.Light
import Derived.Deep.QuietTactic
import Derived.BigQuiet
import Derived.IntWalk
import Derived.StillTailTactics
import Derived.RegionTactic
import Derived.Deep.RegionLaw
import Derived.Deep.RegionHeld3
namespace Go.Proofs.Ytjchdkjncfjibaa.Lq
open Go.ChangeShapes Go.WideShapes Go.ChangeAt Go.RowKit
set_option maxRecDepth 100000

theorem rover_lit {q p : Int} {B : Bool} (e : hitI q p = B) (w : World) (hq : 0 ≤ q ∧ q ≤ 248) (hp : 0 ≤ p ∧ p ≤ 248) :
    Calls Try.prog 24 #[.int .i64 q, .int .i64 8, .int .i64 p, .int .i64 8] w fun e w' => e = .returned (.bool B) ∧ w = w' := by
  subst e; exact rover_any q p w hq hp
set_option maxHeartbeats 2000000 in
theorem rput_any (on : Bool) (A : Option Addr) (n c : Nat) (l : List Int) (p : Int) (w : World) (h : RsI w A n l) (hm : MayL l) (hp : inI p) (hn : n ≤ 9000) (hA : A = none → n = 0 ∧ c = 0) :
    Calls Try.prog 17 #[lt on A n c, .int .i64 p] w (PutPost (putB on l p) (putL on l p) (putC on l p) w) := by
  have hlen := Lib.hid h.len
  have hA := Lib.hid hA
  have HM := Lib.hid hm
  have HP := Lib.hid hp
  have K1 := Lib.hid (kept2 w (.cells #[.bool on, .slice A n c] 24) (.cells #[.bool false, .slice none 0 0] 24))
  have B1 := Lib.hid (Bq.new2 w (.cells #[.bool on, .slice A n c] 24) _ false (.slice none 0 0) rfl)
  have B0 := Lib.hid ((Bq.new w on (.slice A n c)).alloc (.cells #[.bool false, .slice none 0 0] 24))
  have HR := Lib.hid (h.old K1.out)
  have a0 := B0.out.c0
  have a1 := B0.out.c1
  have b0 := B1.out.c0
  have b1 := B1.out.c1
  have f0 := B1.out.f0
  have f1 := B1.out.f1
  clear h hm hp
  generalize hW : ((w.alloc (.cells #[.bool on, .slice A n c] 24)).alloc (.cells #[.bool false, .slice none 0 0] 24)) = V at *
  have hW2 := Lib.hid hW
  have EO := Lib.hid (empty_own V)
  have EK := Lib.hid ((Kept.refl Old V).alloc (.cells #[] 3))
  have hV : w.heap.size + 1 < V.heap.size := by rw [← hW2.out]; simp
  have hV0 : w.heap.size < V.heap.size := by omega
  rcases put_ways on l p with ⟨rfl, e1, e2, e3⟩ | ⟨rfl, m, e1, e2, e3⟩ | ⟨rfl, m, o, e1, e2, e3⟩ | ⟨rfl, m, o, e1, e2, e3⟩
  · rw [e1, e2, e3]
    clear e1 e2 e3
    go_enter Try.func17, Try.ntmps17
    go_wp2_with fail
    obtain ⟨W, hW3, r0, r1, K'⟩ := Bq.end0 B1.out K1.out (by omega)
    rw [hW3]
    exact bodyPost_ret (v := .tuple #[.agg #[.bool false, .slice none 0 0], .int .i64 9]) (by simp [results, Try.results17, go_sem, r0, r1]) rfl ⟨_, rfl, K'⟩
  · rw [e1, e2, e3]
    have q := may_no m
    clear e1 e2 e3 m
    rcases q with q | q
    · go_enter Try.func17, Try.ntmps17
      go_wp2_with fail
      obtain ⟨W, hW3, r0, r1, K'⟩ := Bq.end0 B1.out K1.out (by omega)
      rw [hW3]
      exact bodyPost_ret (v := .tuple #[.agg #[.bool false, .slice none 0 0], .int .i64 1]) (by simp [results, Try.results17, go_sem, r0, r1]) rfl ⟨_, rfl, K'⟩
    · have q' : ¬ p < 0 := by omega
      go_enter Try.func17, Try.ntmps17
      go_wp2_with fail
      obtain ⟨W, hW3, r0, r1, K'⟩ := Bq.end0 B1.out K1.out (by omega)
      rw [hW3]
      exact bodyPost_ret (v := .tuple #[.agg #[.bool false, .slice none 0 0], .int .i64 1]) (by simp [results, Try.results17, go_sem, r0, r1]) rfl ⟨_, rfl, K'⟩
  all_goals
    rw [e1, e2, e3]
    obtain ⟨p0, p1⟩ := may_yes m
    have O := Lib.hid o
    clear e1 e2 e3 m o
    go_enter Try.func17, Try.ntmps17
    go_wp2_with fail
    go_loopw [6] (fun i wr => ∃ k : Nat, k ≤ n ∧ i = .int .i64 (k : Int) ∧ Hid (overI (l.take k) p = false) ∧ V = wr) (fun i _ => n - (intOf i).toNat)
    case atStart => exact ⟨0, by omega, rfl, Lib.hid (by simp [overI]), rfl⟩
  case round =>
    obtain ⟨k, hk, rfl, HO, rfl⟩ := hrel
    by_cases d : k < n
    · obtain ⟨g, o, x, rfl, _, hx, _, cx⟩ := HR.out.get d
      have xm := HM.out x (List.mem_of_getElem? hx)
      have e := over_take (p := p) hx
      rw [HO.out, Bool.false_or] at e
      cases hh : hitI x p with
      | true =>
        have C := Lib.hid (rover_lit hh V xm ⟨p0, p1⟩)
        clear hx e hh
        go_wp2_with fail
        refine C.out.mono ?_
        rintro e w' ⟨rfl, rfl⟩
        go_wp2_with fail
        obtain ⟨W, hW3, r0, r1, K'⟩ := Bq.end0 B1.out K1.out (by omega)
        rw [hW3]
        exact bodyPost_ret (v := .tuple #[.agg #[.bool false, .slice none 0 0], .int .i64 4]) (by simp [results, Try.results17, go_sem, r0, r1]) rfl ⟨_, rfl, K'⟩
      | false =>
        have C := Lib.hid (rover_lit hh V xm ⟨p0, p1⟩)
        have E := Lib.hid (e.trans hh)
        clear hx e hh
        go_wp2_with fail
        refine C.out.mono ?_
        rintro e w' ⟨rfl, rfl⟩
        go_wp2_with fail
        refine ⟨⟨k + 1, by omega, by go_num, E, by first | trivial | rfl⟩, ?_⟩
        simp [intOf]; omega
    · obtain rfl : k = n := by omega
      have := HO.out
      rw [← hlen.out, List.take_length, O.out] at this
      cases this
  case round =>
    obtain ⟨k, hk, rfl, HO, rfl⟩ := hrel
    by_cases d : k < n
    · obtain ⟨g, o, x, rfl, _, hx, _, cx⟩ := HR.out.get d
      have xm := HM.out x (List.mem_of_getElem? hx)
      have e := over_take (p := p) hx
      rw [HO.out, Bool.false_or] at e
      have hh := over_none O.out (List.mem_of_getElem? hx)
      have C := Lib.hid (rover_lit hh V xm ⟨p0, p1⟩)
      have E := Lib.hid (e.trans hh)
      clear hx e hh
      go_wp2_with fail
      refine C.out.mono ?_
      rintro e w' ⟨rfl, rfl⟩
      go_wp2_with fail
      refine ⟨⟨k + 1, by omega, by go_num, E, by first | trivial | rfl⟩, ?_⟩
      simp [intOf]; omega
    · obtain rfl : k = n := by omega
      go_wp2_with (first
        | (at_builtin; refine app_wpI rfl (.tmp 33) (.tmp 35) rfl rfl V.heap.size (.slice (some ⟨V.heap.size, 0, none⟩) 0 0) 0 [] rfl EO.out A k c l rfl (HR.out.old EK.out) hA.out (by omega) (by omega) EK.out.size k (by omega) l (by simp) ?_; intro v6 w6 O6 k6 a6; obtain ⟨A6, c6, rfl, _⟩ := O6.out.rs; have K6 := Lib.hid (EO.out.step EK.out k6.out); clear k6 a6)
        | (at_builtin; go_loud (refine app_wpI rfl (.tmp 36) (.tmp 38) rfl rfl V.heap.size (.slice A6 k c6) k l rfl (O6.out.alloc _) (some ⟨w6.heap.size, 0, none⟩) 1 1 [p] rfl (RsI.one w6 p HP.out _ rfl) (by intro h; cases h) (by omega) (by omega) (Nat.le_trans K6.out.size ((Kept.refl Old w6).alloc _).size) (k + 1) rfl (l ++ [p]) rfl ?_); intro v7 w7 O7 k7 a7; obtain ⟨A7, c7, rfl, _⟩ := O7.out.rs; have K7 := Lib.hid ((O6.out.alloc _).step (K6.out.alloc _) k7.out); have B2 := Lib.hid (B1.out.old K7.out); have b0 := B2.out.c0; have b1 := B2.out.c1; have f0 := B2.out.f0; have f1 := B2.out.f1; clear k7 a7))
      obtain ⟨W, hW3, r0, r1, K'⟩ := Bq.end2 B2.out (made_endI O7.out K7.out) K1.out (by omega) (by omega) true
      rw [hW3]
      exact bodyPost_ret (v := .tuple #[.agg #[.bool true, .slice A7 (k + 1) c7], .int .i64 0]) (by simp [results, Try.results17, go_sem, r0, r1]) rfl ⟨_, rfl, K'⟩
set_option maxHeartbeats 2000000 in
theorem rnext_some (on : Bool) (A : Option Addr) (n c : Nat) (x : Int) (t : List Int) (w : World) (h : RsI w A (n + 1) (x :: t)) (hn : n ≤ 9000) (hc : n + 1 ≤ c) :
    Calls Try.prog 18 #[lt on A (n + 1) c] w (NextPost on t x true w) := by
  have K1 := Lib.hid (kept2 w (.cells #[.bool on, .slice A (n + 1) c] 24) (.cells #[.bool false, .slice none 0 0] 24))
  have B1 := Lib.hid (Bq.new2 w (.cells #[.bool on, .slice A (n + 1) c] 24) _ false (.slice none 0 0) rfl)
  have B0 := Lib.hid ((Bq.new w on (.slice A (n + 1) c)).alloc (.cells #[.bool false, .slice none 0 0] 24))
  have R1 := Lib.hid (h.old K1.out)
  obtain ⟨g, o, y, rfl, hg, hx, _, cx⟩ := h.get (k := 0) (by omega)
  have cx := cell_on K1.out cx
  obtain rfl : y = x := by simpa using hx.symm
  have a0 := B0.out.c0
  have a1 := B0.out.c1
  have b0 := B1.out.c0
  have b1 := B1.out.c1
  have f0 := B1.out.f0
  have f1 := B1.out.f1
  rw [Nat.add_zero] at cx
  clear h hx
  generalize hW : ((w.alloc (.cells #[.bool on, .slice (some ⟨g, o, none⟩) (n + 1) c] 24)).alloc (.cells #[.bool false, .slice none 0 0] 24)) = V at *
  have hW2 := Lib.hid hW
  have EO := Lib.hid (empty_own V).drew
  have EK := Lib.hid ((Kept.refl Old V).alloc (.cells #[] 3)).drew
  have hV : w.heap.size + 1 < V.heap.size := by rw [← hW2.out]; simp
  have hV0 : w.heap.size < V.heap.size := by omega
  have hV1 : g < V.heap.size := by omega
  have nz : ((n : Int) + 1 == 0) = false := beq_eq_false_iff_ne.2 (by omega)
  have n1 : (1 : Int) ≤ (n : Int) + 1 := by omega
  have n2 : 1 ≤ n + 1 := by omega
  have g1 : g ≠ w.heap.size + 1 := by omega
  have g2 : w.heap.size ≠ w.heap.size + 1 := by omega
  have cs : (1 < c ∧ ((1 : Nat) == c) = false ∧ (c - 1 == 0) = false) ∨ (c = 1 ∧ n = 0) := by
    by_cases d : c = 1
    · exact .inr ⟨d, by omega⟩
    · exact .inl ⟨by omega, beq_eq_false_iff_ne.2 (by omega), beq_eq_false_iff_ne.2 (by omega)⟩
  go_enter Try.func18, Try.ntmps18
  go_wp2_with fail
  rcases cs with ⟨cs, ce, cf⟩ | ⟨rfl, rfl⟩
  · have RT := Lib.hid ((rs_tail R1.out (some ⟨g, o + 1, none⟩) (fun _ => rfl)).old EK.out)
    go_region_held3 (fun w' => w'.cell? ⟨w.heap.size, 0, none⟩ = some (.bool on) ∧ w'.cell? ⟨w.heap.size, 1, none⟩ = some (.slice (some ⟨g, o, none⟩) (n + 1) c) ∧ w'.cell? ⟨g, o, none⟩ = some (.int .i64 y))
      (first
        | (exact ⟨‹_›, ‹_›, ‹_›⟩)
        | (exact ⟨cell_on EK.out ‹_›, cell_on EK.out ‹_›, cell_on EK.out ‹_›⟩)
        | (exact ⟨put_far ‹_› g2, put_far ‹_› g2, put_far ‹_› g1⟩)
        | go_keep)
      (first
        | (refine app_stepI rfl (.tmp 12) (.tmp 15) rfl rfl V.heap.size (.slice (some ⟨V.heap.size, 0, none⟩) 0 0) 0 [] (by simp [Act.eval]) EO.out (some ⟨g, o + 1, none⟩) n (c - 1) t (by simp [Act.eval]; try omega) RT.out (fun h => by cases h) (by omega) (by omega) EK.out.size n (by omega) t (by simp) ?_; intro v4 w4 O4 k4 a4; obtain ⟨A4, c4, rfl, _⟩ := O4.out.rs; have K4 := Lib.hid (EO.out.step EK.out k4.out); have a0 := cell_on K4.out a0; have a1 := cell_on K4.out a1; have cx := cell_on K4.out cx; have B2 := Lib.hid (B1.out.old K4.out); have b0 := B2.out.c0; have b1 := B2.out.c1; have f0 := B2.out.f0; have f1 := B2.out.f1; clear k4 a4))
    go_wp2
    obtain ⟨W, hW3, r0, r1, K'⟩ := Bq.end2 B2.out (made_endI O4.out K4.out) K1.out (by omega) (by omega) on
    rw [hW3]
    exact bodyPost_ret (v := .tuple #[.agg #[.bool on, .slice A4 n c4], .int .i64 y, .bool true]) (by simp [results, Try.results18, go_sem, r0, r1]) rfl ⟨_, rfl, K'⟩
  · have RT := Lib.hid ((rs_tail R1.out (some ⟨g, o, none⟩) (fun h => by omega)).old EK.out)
    go_region_held3 (fun w' => w'.cell? ⟨w.heap.size, 0, none⟩ = some (.bool on) ∧ w'.cell? ⟨w.heap.size, 1, none⟩ = some (.slice (some ⟨g, o, none⟩) (0 + 1) 1) ∧ w'.cell? ⟨g, o, none⟩ = some (.int .i64 y))
      (first
        | (exact ⟨‹_›, ‹_›, ‹_›⟩)
        | (exact ⟨cell_on EK.out ‹_›, cell_on EK.out ‹_›, cell_on EK.out ‹_›⟩)
        | (exact ⟨put_far ‹_› g2, put_far ‹_› g2, put_far ‹_› g1⟩)
        | go_keep)
      (first
        | (refine app_stepI rfl (.tmp 12) (.tmp 15) rfl rfl V.heap.size (.slice (some ⟨V.heap.size, 0, none⟩) 0 0) 0 [] (by simp [Act.eval]) EO.out (some ⟨g, o, none⟩) 0 0 t (by simp [Act.eval]) RT.out (fun h => by cases h) (by omega) (by omega) EK.out.size 0 (by omega) t (by simp) ?_; intro v4 w4 O4 k4 a4; obtain ⟨A4, c4, rfl, _⟩ := O4.out.rs; have K4 := Lib.hid (EO.out.step EK.out k4.out); have a0 := cell_on K4.out a0; have a1 := cell_on K4.out a1; have cx := cell_on K4.out cx; have B2 := Lib.hid (B1.out.old K4.out); have b0 := B2.out.c0; have b1 := B2.out.c1; have f0 := B2.out.f0; have f1 := B2.out.f1; clear k4 a4))
    go_wp2
    obtain ⟨W, hW3, r0, r1, K'⟩ := Bq.end2 B2.out (made_endI O4.out K4.out) K1.out (by omega) (by omega) on
    rw [hW3]
    exact bodyPost_ret (v := .tuple #[.agg #[.bool on, .slice A4 0 c4], .int .i64 y, .bool true]) (by simp [results, Try.results18, go_sem, r0, r1]) rfl ⟨_, rfl, K'⟩
theorem rnext_none (on : Bool) (A : Option Addr) (c : Nat) (w : World) :
    Calls Try.prog 18 #[lt on A 0 c] w (NextPost false [] 0 false w) := by
  have K1 := Lib.hid (kept2 w (.cells #[.bool on, .slice A 0 c] 24) (.cells #[.bool false, .slice none 0 0] 24))
  have B1 := Lib.hid (Bq.new2 w (.cells #[.bool on, .slice A 0 c] 24) _ false (.slice none 0 0) rfl)
  go_enter Try.func18, Try.ntmps18
  go_wp2_with fail
  have r0 := B1.out.c0
  have r1 := B1.out.c1
  exact bodyPost_ret (v := .tuple #[.agg #[.bool false, .slice none 0 0], .int .i64 0, .bool false]) (by simp [results, Try.results18, go_sem, r0, r1]) rfl ⟨_, rfl, MadeI.of_nil K1.out⟩
theorem rnext_any (on : Bool) (A : Option Addr) (n c : Nat) (l : List Int) (w : World) (h : RsI w A n l) (hn : n ≤ 9000) (hc : n ≤ c) :
    Calls Try.prog 18 #[lt on A n c] w (NextPost (nextB on l) (l.drop 1) (nextX l) (nextK l) w) := by
  have hl := h.len
  cases l with
  | nil =>
    obtain rfl : n = 0 := hl.symm
    exact rnext_none on A c w
  | cons x t =>
    obtain ⟨m, rfl⟩ : ∃ m, n = m + 1 := ⟨t.length, by simpa using hl.symm⟩
    exact rnext_some on A m c x t w h (by omega) hc
end Go.Proofs.Ytjchdkjncfjibaa.Lq
