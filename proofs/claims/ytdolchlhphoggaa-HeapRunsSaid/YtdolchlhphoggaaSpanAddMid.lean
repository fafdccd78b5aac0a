/-
  What Table.Add answers where it adds ahead of another span. Own work; proved by a walk through the landed text.
-/
import Derived.Test.YtdolchlhphoggaaRows
import Derived.Test.YtdolchlhphoggaaSpanCalls
import Derived.Test.YtdolchlhphoggaaSpanOf
import Derived.Test.YtdolchlhphoggaaSpanRem
import Derived.Test.YtdolchlhphoggaaSpanAdd
import Derived.Test.YtdolchlhphoggaaSpanAddOk
namespace Go.Proofs.Ytdolchlhphoggaa
open Go.ChangeShapes Go.WideShapes Go.ChangeAt Go.RowKit
set_option maxRecDepth 100000

theorem ins_near_d {w W : World} {B p s : Nat} {v : Value} {P : Int} {l : List S} {x : S} (i : Nat) (h : Near w W B p s v P l x) (f : Fit x) (hB : B ≤ s) (hn : l.length ≤ 1000) (hi : placeL l x.a = i) :
    Calls Try.prog 45 #[v, .int .i64 (i : Int), .slice (some ⟨W.heap.size, 0, none⟩) 1 1] (W.alloc (.cells #[.int .i64 x.a, .int .i64 x.n, .int .i64 x.c] 44)).drew (Put B p v P (insL l x) w) :=
  ins_near i (h.old (Kept.refl Old W).drew) f hB hn hi
set_option maxHeartbeats 2000000 in
theorem add_mid {B p : Nat} {v : Value} {P : Int} {l : List S} (x : S) (w : World) (h : Tb w B p v P l) (g : Good P l) (f : Fit x) (hP : 0 ≤ P ∧ P ≤ 256) (ok : Ok P x) (hB : B ≤ w.heap.size) (hit : hitB l x = false) (y : S) (hy : l[placeL l x.a]? = some y) :
    Calls Try.prog 34 #[ptr p, spn x] w fun e w' => e = .returned (.int .i64 0) ∧ Chg B p v P (insL l x) w w' := by
  have k0 := Lib.hid ((Kept.refl Old w).alloc (.cells #[.int .i64 x.a, .int .i64 x.n, .int .i64 x.c] 44))
  have N0 : Near w (w.alloc (.cells #[.int .i64 x.a, .int .i64 x.n, .int .i64 x.c] 44)) B p w.heap.size v P l x := ⟨h.old k0.out, BxS.new w x, k0.out, rfl, h.box.lt, fun g hg => (h.own.own g hg.symm).2⟩
  have N0 := Lib.hid N0
  have HG := Lib.hid g
  have HF := Lib.hid f
  have HY := Lib.hid hy
  have li := Lib.hid (show liesBS x P = true from decide_eq_true ⟨ok.a0, ok.n1, ok.up⟩)
  have er := Lib.hid (show in64S (x.a + x.n) from ⟨by have := ok.a0; have := ok.n1; omega, by have := ok.up; omega⟩)
  have o1 : ¬ x.c < 0 := by have := ok.c0; omega
  have o2 : ¬ 8 ≤ x.c := by have := ok.c7; omega
  have h1 := hit_none hit hy
  have hn := Lib.hid (show l.length ≤ 256 from by have := g.len hP.1; omega)
  have hlt := Lib.hid (show placeL l x.a < l.length from (List.getElem?_eq_some_iff.1 hy).1)
  clear h g f ok k0 hit hy
  go_enter Try.func34, Try.ntmps34
  go_wp2_with fail
  refine (liesS_any x _ N0.out.tb HF.out hP).mono ?_
  rintro e2 W ⟨rfl, k1⟩
  rw [li.out]
  have N1 := Lib.hid (N0.out.old k1)
  have c0 := N1.out.bx.c0
  have c2 := N1.out.bx.c2
  clear k1 N0
  go_wp2_with fail
  refine (placeS_any x.a _ N1.out.tb HG.out hP).mono ?_
  rintro e2 W2 ⟨rfl, k2⟩
  have N2 := Lib.hid (N1.out.old k2)
  have T2 := N2.out.tb
  have c1 := T2.c1
  obtain ⟨A, c, rfl, r, _, _⟩ := T2.own.rs
  obtain ⟨gg, o, y', rfl, hgl, hy, f1, a0, a1, a2⟩ := r.get hlt.out
  have ey : y' = y := by rw [HY.out] at hy; exact (Option.some.inj hy).symm
  subst ey
  have d0 := N2.out.bx.c0
  have d1 := N2.out.bx.c1
  have d2 := N2.out.bx.c2
  have hlt' := hlt.out
  have hn' := hn.out
  have kw := Kept.refl Old W2
  obtain ⟨k, hk⟩ : ∃ k, placeL l x.a = k := ⟨_, rfl⟩
  rw [hk] at hlt' a0 a1 a2 ⊢
  have hk := Lib.hid hk
  have gd : decide ((k : Int) < (l.length : Int)) = true := decide_eq_true (by omega)
  have gy : decide (y'.a < x.a + x.n) = false := decide_eq_false (by omega)
  have P2 := Lib.hid (show ∀ W3, Kept Old W2 W3 → Near w W3 B p w.heap.size (.slice (some ⟨gg, o, none⟩) l.length c) P l x from fun W3 k => N2.out.old k)
  generalize w.heap.size = s at *
  clear N1 k2 T2 r hy HY hlt hn li c0 c2 HG N2 o1 o2 f1
  go_wp2_with fail
  go_region_held3 (fun w' => Kept Old W2 w' ∧ w'.cell? ⟨p, 1, none⟩ = some (.slice (some ⟨gg, o, none⟩) l.length c) ∧ w'.cell? ⟨gg, o + k * 3, none⟩ = some (.int .i64 y'.a) ∧ w'.cell? ⟨s, 0, none⟩ = some (.int .i64 x.a) ∧ w'.cell? ⟨s, 1, none⟩ = some (.int .i64 x.n) ∧ w'.cell? ⟨s, 2, none⟩ = some (.int .i64 x.c))
    (first
      | (exact ⟨‹_›, ‹_›, ‹_›, ‹_›, ‹_›, ‹_›⟩)
      | (exact ⟨Kept.drew ‹_›, ‹_›, ‹_›, ‹_›, ‹_›, ‹_›⟩)
      | (go_split_ands; exact ⟨Kept.trans ‹_› k1, cellS_on k1 ‹_›, cellS_on k1 ‹_›, cellS_on k1 ‹_›, cellS_on k1 ‹_›, cellS_on k1 ‹_›⟩)
      | go_keep)
    (first
      | (go_at_call 44; refine (endS_any x _ er.out).mono ?_; rintro e w' ⟨rfl, k1⟩))
  rename World => W3
  rename (Kept Old W2 W3 ∧ _) => hq
  have N3 := Lib.hid (P2.out W3 hq.1)
  have c1' := N3.out.tb.c1
  have d0' := N3.out.bx.c0
  have d1' := N3.out.bx.c1
  have d2' := N3.out.bx.c2
  clear hq a0 a1 a2 d0 d1 d2 c1 kw P2
  have hl9 : l.length ≤ 1000 := by omega
  have hp2 := N3.out.tb.box.lt
  have hs2 := Blk.lt N3.out.bx
  have hpn : ¬ p = W3.heap.size := by omega
  have hpm : ¬ W3.heap.size = p := by omega
  have cA := fun o => (N3.out.tb.old ((Kept.refl Old _).alloc o)).c1
  go_wp2_with fail
  go_region_with (go_at_call 45; refine (ins_near_d k N3.out HF.out hB hl9 hk.out).mono ?_; rintro e V ⟨A', m, c', rfl, fz, p0, p1, E⟩)
  all_goals
    go_wp2
    go_ret
    exact ⟨rfl, E.out⟩
/-- Add, where it may be added. -/
theorem add_ok {B p : Nat} {v : Value} {P : Int} {l : List S} (x : S) (w : World) (h : Tb w B p v P l) (g : Good P l) (f : Fit x) (hP : 0 ≤ P ∧ P ≤ 256) (ok : Ok P x) (hB : B ≤ w.heap.size) (hit : hitB l x = false) :
    Calls Try.prog 34 #[ptr p, spn x] w fun e w' => e = .returned (.int .i64 0) ∧ Chg B p v P (insL l x) w w' := by
  by_cases c : placeL l x.a = l.length
  · exact add_end x w h g f hP ok hB c
  · have hlt : placeL l x.a < l.length := by have := place_le l x.a; omega
    exact add_mid x w h g f hP ok hB hit _ (List.getElem?_eq_getElem hlt)
end Go.Proofs.Ytdolchlhphoggaa
