/-
  What Table.Add answers where it adds. Own work; proved by a walk through the landed text.
-/
import Derived.Test.YtdolchlhphoggaaRows
import Derived.Test.YtdolchlhphoggaaSpanCalls
import Derived.Test.YtdolchlhphoggaaSpanOf
import Derived.Test.YtdolchlhphoggaaSpanRem
import Derived.Test.YtdolchlhphoggaaSpanAdd
namespace Go.Proofs.Ytdolchlhphoggaa
open Go.ChangeShapes Go.WideShapes Go.ChangeAt Go.RowKit
set_option maxRecDepth 100000

/-- Behind the place: what is known of the world. -/
structure Near (w W : World) (B p s : Nat) (v : Value) (P : Int) (l : List S) (x : S) : Prop where
  tb : Tb W B p v P l
  bx : BxS W s x
  k : Kept Old w W
  hs : w.heap.size = s
  hp : p < s
  ho : ∀ g, v.ownBlock = some g → g < s
theorem Near.old {w W W' : World} {B p s : Nat} {v : Value} {P : Int} {l : List S} {x : S} (h : Near w W B p s v P l x) (k : Kept Old W W') : Near w W' B p s v P l x := ⟨h.tb.old k, h.bx.old k, h.k.trans k, h.hs, h.hp, h.ho⟩
theorem Near.end {w W : World} {B p s : Nat} {v : Value} {P : Int} {l : List S} {x : S} (h : Near w W B p s v P l x) {V : World} {v' : Value} (hv : Turned B v (insL l x) (W.alloc (.cells #[.int .i64 x.a, .int .i64 x.n, .int .i64 x.c] 44)) (.returned v') V) :
    (∀ i, V.frozen? ⟨p, i, none⟩ = false) ∧ V.cell? ⟨p, 0, none⟩ = some (.int .i64 P) ∧ V.cell? ⟨p, 1, none⟩ = some v ∧ Chg B p v P (insL l x) w (V.setCell ⟨p, 1, none⟩ v') := by
  obtain ⟨v'', e, O, k, ob⟩ := hv
  injection e with e
  subst e
  have ka := (Kept.refl Old W).alloc (.cells #[.int .i64 x.a, .int .i64 x.n, .int .i64 x.c] 44)
  have T := h.tb.old ka
  have hz : (W.alloc (.cells #[.int .i64 x.a, .int .i64 x.n, .int .i64 x.c] 44)).heap.size = W.heap.size + 1 := by simp
  have bx := T.box.kept k (fun e => T.ne e.symm)
  have hv' : v'.ownBlock ≠ some p := by
    rcases ob with e | e
    · rw [e]; exact T.ne
    · rw [e]; intro z; injection z with z; have := h.hp; have := h.hs; have := h.k.size; omega
  obtain ⟨V2, hV2, TV, kV, _⟩ := Tb.store (l := l) bx O hv' T.low
  refine ⟨bx.frozen, bx.cell 0, bx.cell 1, v', by rw [hV2]; exact TV, ?_, ob.imp id fun e => ⟨_, e, by have := h.k.size; omega⟩⟩
  rw [hV2]
  exact (h.k.trans ka).any.join (E := Own p v) ((k.mono fun i e => .inr e).trans (kV.mono fun i e => .inl e)) (fun i _ e => e)
/-- What is known behind the Insert. -/
def Put (B p : Nat) (v : Value) (P : Int) (L : List S) (w : World) (e : Ending) (V : World) : Prop := ∃ A m c, e = .returned (.slice A m c) ∧ (∀ i, V.frozen? ⟨p, i, none⟩ = false) ∧ V.cell? ⟨p, 0, none⟩ = some (.int .i64 P) ∧ V.cell? ⟨p, 1, none⟩ = some v ∧ Hid (Chg B p v P L w (V.setCell ⟨p, 1, none⟩ (.slice A m c)))
theorem ins_near {w W : World} {B p s : Nat} {v : Value} {P : Int} {l : List S} {x : S} (i : Nat) (h : Near w W B p s v P l x) (f : Fit x) (hB : B ≤ s) (hn : l.length ≤ 1000) (hi : placeL l x.a = i) :
    Calls Try.prog 45 #[v, .int .i64 (i : Int), .slice (some ⟨W.heap.size, 0, none⟩) 1 1] (W.alloc (.cells #[.int .i64 x.a, .int .i64 x.n, .int .i64 x.c] 44)) (Put B p v P (insL l x) w) := by
  have hle : i ≤ l.length := by have := place_le l x.a; omega
  have hk := h.k.size
  have hs := h.hs
  refine (ins_any B v l.length i l x f W.heap.size 1 _ (h.tb.own.alloc _) (BxS.new W x) (fun e => by have := h.ho _ e; have := h.hs; omega) hle hn (by simp; omega)).mono ?_
  intro e V hT
  obtain ⟨v', rfl, O, k, ob⟩ := hT
  have hT : Turned B v (insL l x) (W.alloc (.cells #[.int .i64 x.a, .int .i64 x.n, .int .i64 x.c] 44)) (.returned v') V := by
    unfold insL
    rw [hi]
    exact ⟨v', rfl, O, k, ob⟩
  obtain ⟨A, c, hv, _⟩ := O.rs
  obtain ⟨z1, z2, z3, z4⟩ := h.end hT
  rw [hv] at z4 ⊢
  exact ⟨A, _, c, rfl, z1, z2, z3, Lib.hid z4⟩
set_option maxHeartbeats 2000000 in
theorem add_end {B p : Nat} {v : Value} {P : Int} {l : List S} (x : S) (w : World) (h : Tb w B p v P l) (g : Good P l) (f : Fit x) (hP : 0 ≤ P ∧ P ≤ 256) (ok : Ok P x) (hB : B ≤ w.heap.size) (e0 : placeL l x.a = l.length) :
    Calls Try.prog 34 #[ptr p, spn x] w fun e w' => e = .returned (.int .i64 0) ∧ Chg B p v P (insL l x) w w' := by
  have k0 := Lib.hid ((Kept.refl Old w).alloc (.cells #[.int .i64 x.a, .int .i64 x.n, .int .i64 x.c] 44))
  have N0 : Near w (w.alloc (.cells #[.int .i64 x.a, .int .i64 x.n, .int .i64 x.c] 44)) B p w.heap.size v P l x := ⟨h.old k0.out, BxS.new w x, k0.out, rfl, h.box.lt, fun g hg => (h.own.own g hg.symm).2⟩
  have N0 := Lib.hid N0
  have HG := Lib.hid g
  have HF := Lib.hid f
  have li := Lib.hid (show liesBS x P = true from decide_eq_true ⟨ok.a0, ok.n1, ok.up⟩)
  have o1 : ¬ x.c < 0 := by have := ok.c0; omega
  have o2 : ¬ 8 ≤ x.c := by have := ok.c7; omega
  have hn := Lib.hid (show l.length ≤ 256 from by have := g.len hP.1; omega)
  have E0 := Lib.hid e0
  clear h g f ok k0 e0
  go_enter Try.func34, Try.ntmps34
  go_wp2_with fail
  refine (liesS_any x _ N0.out.tb HF.out hP).mono ?_
  rintro e2 W ⟨rfl, k1⟩
  rw [li.out]
  have N1 := Lib.hid (N0.out.old k1)
  have c0 := N1.out.bx.c0
  have c2 := N1.out.bx.c2
  clear k1 N0
  go_wp2_with fail
  refine (placeS_any x.a _ N1.out.tb HG.out hP).mono ?_
  rintro e2 W2 ⟨rfl, k2⟩
  rw [E0.out]
  have N2 := Lib.hid (N1.out.old k2)
  have T2 := N2.out.tb
  have c1 := T2.c1
  obtain ⟨A, c, rfl, r, _, _⟩ := T2.own.rs
  have d0 := N2.out.bx.c0
  have d1 := N2.out.bx.c1
  have d2 := N2.out.bx.c2
  have hn' := hn.out
  have gd : decide (l.length < l.length) = false := decide_eq_false (Nat.lt_irrefl _)
  have gd2 : decide ((l.length : Int) < (l.length : Int)) = false := decide_eq_false (Int.lt_irrefl _)
  clear N1 k2 T2 r hn li c0 c2 HG o1 o2
  go_wp2_with fail
  go_quiet (fail)
  go_wp2_with fail
  have N3 := Lib.hid (N2.out.old ((Kept.refl Old W2).drewN (nq + 1)))
  have hp2 := N2.out.tb.box.lt
  have hs2 := Blk.lt N2.out.bx
  have hpn : ¬ p = W2.heap.size := by omega
  have hpm : ¬ W2.heap.size = p := by omega
  have cA := fun o => (N3.out.tb.old ((Kept.refl Old _).alloc o)).c1
  go_region_with (go_at_call 45; refine (ins_near l.length N3.out HF.out hB (by omega) E0.out).mono ?_; rintro e V ⟨A', m, c', rfl, fz, p0, p1, E⟩)
  all_goals
    go_wp2
    go_ret
    exact ⟨rfl, E.out⟩
end Go.Proofs.Ytdolchlhphoggaa
