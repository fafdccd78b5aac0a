/-
  What Table.Add answers. Own work; each is proved by a walk through the landed text.
-/
import Derived.Test.YtdolchlhphoggaaRows
import Derived.Test.YtdolchlhphoggaaSpanCalls
import Derived.Test.YtdolchlhphoggaaSpanOf
import Derived.Test.YtdolchlhphoggaaSpanRem
namespace Go.Proofs.Ytdolchlhphoggaa
open Go.ChangeShapes Go.WideShapes Go.ChangeAt Go.RowKit
set_option maxRecDepth 100000

theorem cellS_on {w w' : World} (k : Kept Old w w') {p : Addr} {v : Value} (h : w.cell? p = some v) : w'.cell? p = some v := (k.cell (block_lt_of_cell h) (fun x => x)).trans h
theorem add_nil (x : S) (w : World) : Calls Try.prog 34 #[.pointer none, spn x] w fun e w' => e = .returned (.int .i64 2) ∧ Kept Old w w' := by
  go_enter Try.func34, Try.ntmps34
  go_wp2
  go_ret
  exact ⟨rfl, (Kept.refl _ _).alloc _⟩
/-- Is x a span that may be added to a table of P pages? -/
def okB (x : S) (P : Int) : Bool := decide (0 ≤ x.a ∧ 1 ≤ x.n ∧ x.a + x.n ≤ P ∧ 0 ≤ x.c ∧ x.c < 8)
theorem ok_of {x : S} {P : Int} (h : okB x P = true) : Ok P x := by
  obtain ⟨h1, h2, h3, h4, h5⟩ := of_decide_eq_true h
  exact ⟨h1, h2, h3, h4, h5⟩
theorem of_ok {x : S} {P : Int} (h : Ok P x) : okB x P = true := decide_eq_true ⟨h.a0, h.n1, h.up, h.c0, h.c7⟩
theorem ok_cases {x : S} {P : Int} (h : okB x P = false) : liesBS x P = false ∨ (liesBS x P = true ∧ x.c < 0) ∨ (liesBS x P = true ∧ ¬ x.c < 0 ∧ 8 ≤ x.c) := by
  have := of_decide_eq_false h
  unfold liesBS
  simp only [decide_eq_false_iff_not, decide_eq_true_eq]
  omega
set_option maxHeartbeats 1000000 in
theorem add_arg {B p : Nat} {v : Value} {P : Int} {l : List S} (x : S) (w : World) (h : Tb w B p v P l) (f : Fit x) (hP : 0 ≤ P ∧ P ≤ 256) (hx : okB x P = false) :
    Calls Try.prog 34 #[ptr p, spn x] w fun e w' => e = .returned (.int .i64 1) ∧ Kept Old w w' := by
  have k0 := Lib.hid ((Kept.refl Old w).alloc (.cells #[.int .i64 x.a, .int .i64 x.n, .int .i64 x.c] 44))
  have B0 := Lib.hid (BxS.new w x)
  have HT := Lib.hid h
  have HF := Lib.hid f
  clear h f
  rcases ok_cases hx with e | ⟨e, d⟩ | ⟨e, d, d'⟩
  all_goals
    clear hx
    have e := Lib.hid e
    go_enter Try.func34, Try.ntmps34
    go_wp2_with fail
    refine (liesS_any x _ (HT.out.old k0.out) HF.out hP).mono ?_
    rintro e2 W ⟨rfl, k1⟩
    rw [e.out]
    have K := Lib.hid (k0.out.trans k1)
    have c2 := (B0.out.old k1).c2
    clear e k0 k1 B0
    go_wp2
    go_ret
    exact ⟨rfl, K.out⟩
set_option maxHeartbeats 1000000 in
theorem add_twice {B p : Nat} {v : Value} {P : Int} {l : List S} (x : S) (w : World) (h : Tb w B p v P l) (g : Good P l) (f : Fit x) (hP : 0 ≤ P ∧ P ≤ 256) (ok : Ok P x) (hit : hitB l x = true) :
    Calls Try.prog 34 #[ptr p, spn x] w fun e w' => e = .returned (.int .i64 4) ∧ Kept Old w w' := by
  obtain ⟨y, hy, h1, h2⟩ := hit_some hit
  have k0 := Lib.hid ((Kept.refl Old w).alloc (.cells #[.int .i64 x.a, .int .i64 x.n, .int .i64 x.c] 44))
  have B0 := Lib.hid (BxS.new w x)
  have HT := Lib.hid h
  have HG := Lib.hid g
  have HF := Lib.hid f
  have HY := Lib.hid hy
  have li := Lib.hid (show liesBS x P = true from decide_eq_true ⟨ok.a0, ok.n1, ok.up⟩)
  have er := Lib.hid (show in64S (x.a + x.n) from ⟨by have := ok.a0; have := ok.n1; omega, by have := ok.up; omega⟩)
  have o1 : ¬ x.c < 0 := by have := ok.c0; omega
  have o2 : ¬ 8 ≤ x.c := by have := ok.c7; omega
  have hn := Lib.hid (show l.length ≤ 256 from by have := g.len hP.1; omega)
  have hlt := Lib.hid (show placeL l x.a < l.length from (List.getElem?_eq_some_iff.1 hy).1)
  clear h g f hit hy ok
  go_enter Try.func34, Try.ntmps34
  go_wp2_with fail
  refine (liesS_any x _ (HT.out.old k0.out) HF.out hP).mono ?_
  rintro e2 W ⟨rfl, k1⟩
  rw [li.out]
  have K := Lib.hid (k0.out.trans k1)
  have B1 := Lib.hid (B0.out.old k1)
  have c0 := B1.out.c0
  have c2 := B1.out.c2
  clear k0 k1 B0
  go_wp2_with fail
  refine (placeS_any x.a _ (HT.out.old K.out) HG.out hP).mono ?_
  rintro e2 W2 ⟨rfl, k2⟩
  have K := Lib.hid (K.out.trans k2)
  have B2 := Lib.hid (B1.out.old k2)
  have T2 := HT.out.old K.out
  have c1 := T2.c1
  obtain ⟨A, c, rfl, r, _, _⟩ := T2.own.rs
  obtain ⟨gg, o, y', rfl, hgl, hy, f1, a0, a1, a2⟩ := r.get hlt.out
  have ey : y' = y := by rw [HY.out] at hy; exact (Option.some.inj hy).symm
  subst ey
  have d0 := B2.out.c0
  have d1 := B2.out.c1
  have d2 := B2.out.c2
  have hlt' := hlt.out
  have hn' := hn.out
  have kw := Kept.refl Old W2
  generalize w.heap.size = s at *
  generalize placeL l x.a = k at *
  generalize l.length = n at *
  have gd : decide ((k : Int) < (n : Int)) = true := decide_eq_true (by omega)
  have gy : decide (y'.a < x.a + x.n) = true := decide_eq_true h1
  clear B1 k2 T2 r hy HY hlt hn li c0 c2 HT HF HG B2 o1 o2 f1
  go_wp2_with fail
  go_region_held3 (fun w' => Kept Old W2 w' ∧ w'.cell? ⟨p, 1, none⟩ = some (.slice (some ⟨gg, o, none⟩) n c) ∧ w'.cell? ⟨gg, o + k * 3, none⟩ = some (.int .i64 y'.a) ∧ w'.cell? ⟨s, 0, none⟩ = some (.int .i64 x.a) ∧ w'.cell? ⟨s, 1, none⟩ = some (.int .i64 x.n) ∧ w'.cell? ⟨s, 2, none⟩ = some (.int .i64 x.c))
    (first
      | (exact ⟨‹_›, ‹_›, ‹_›, ‹_›, ‹_›, ‹_›⟩)
      | (exact ⟨Kept.drew ‹_›, ‹_›, ‹_›, ‹_›, ‹_›, ‹_›⟩)
      | (go_split_ands; exact ⟨Kept.trans ‹_› k1, cellS_on k1 ‹_›, cellS_on k1 ‹_›, cellS_on k1 ‹_›, cellS_on k1 ‹_›, cellS_on k1 ‹_›⟩)
      | go_keep)
    (first
      | (go_at_call 44; refine (endS_any x _ er.out).mono ?_; rintro e w' ⟨rfl, k1⟩))
  have Z := Lib.hid (K.out.trans (‹Kept Old W2 _ ∧ _›).1)
  go_wp2
  go_ret
  exact ⟨rfl, Z.out⟩
end Go.Proofs.Ytdolchlhphoggaa
