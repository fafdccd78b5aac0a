/-
  What a deed does to a model that is held in a block (execute and what it calls). Own work; each is proved by a walk through the landed text.
-/
import Derived.Test.YtcndilpaijapkaaGreatRows
import Derived.WalkKit
import Derived.ProofKit
import Derived.OpenShut
import Derived.Outline
import Derived.Deep.Light
import Derived.Deep.QuietTactic
import Derived.BigQuiet
import Derived.IntWalk
import Derived.StillTailTactics
import Derived.RegionTactic
import Derived.Deep.RegionLaw
import Derived.Deep.RegionHeld3
import Derived.Test.YtcndilpaijapkaaGreatJLive
import Derived.Test.YtcndilpaijapkaaGreatJLiveApp
import Derived.Test.YtcndilpaijapkaaGreatJModelRoom
import Derived.Test.YtcndilpaijapkaaGreatJSize
namespace Go.Proofs.YtcndilpaijapkaaGreat.Lm
open Go.ChangeShapes Go.WideShapes Go.ChangeAt Go.RowKit
set_option maxRecDepth 100000

abbrev ptr (b : Nat) : Value := .pointer (some ⟨b, 0, none⟩)
/-- Block b holds a model whose list is owned whole. -/
structure Mo (B : Nat) (V : World) (b : Nat) (W : Int) (l : List S) (A : Option Addr) (n c : Nat) : Prop where
  box : Bm V b W (.slice A n c)
  own : OwS V B (.slice A n c) n l
/-- The model's own blocks. -/
abbrev Its (b : Nat) (A : Option Addr) (i : Nat) : Prop := i = b ∨ ∃ ad, A = some ad ∧ ad.block = i
theorem own_ne {X : World} {B b n c : Nat} {W : Int} {A : Option Addr} {l : List S} {v : Value} (o : OwS X B (.slice A n c) n l) (h : Bm X b W v) : ∀ ad, A = some ad → ad.block ≠ b := by
  intro ad e
  rcases o.blk with ⟨q, _⟩ | ⟨g, c', r, q, _, k, _⟩
  · injection q with q1 q2; rw [e] at q1; cases q1
  · injection q with q1 q2
    rw [e] at q1
    injection q1 with q1
    subst q1
    exact Blk.ne k h (by decide)
theorem Mo.old {B b n c : Nat} {V V' : World} {W : Int} {l : List S} {A : Option Addr} (h : Mo B V b W l A n c) (k : Kept Old V V') : Mo B V' b W l A n c := ⟨h.box.old k, h.own.old k⟩
theorem Mo.rs {B b n c : Nat} {V : World} {W : Int} {l : List S} {A : Option Addr} (h : Mo B V b W l A n c) : RsS V A n l ∧ n ≤ c ∧ (A = none → c = 0) := by
  obtain ⟨A', c', e, r, h1, h2⟩ := h.own.rs
  injection e with e1 e2 e3
  subst e1
  subst e3
  exact ⟨r, h1, h2⟩
/-- Another slice is stored there. -/
theorem Mo.put {B b : Nat} {X : World} {W : Int} {L : List S} {A' : Option Addr} {n' c' : Nat} {v : Value} (h : Bm X b W v) (o : OwS X B (.slice A' n' c') n' L) : Mo B (X.setCell ⟨b, 1, none⟩ (.slice A' n' c')) b W L A' n' c' ∧ Kept (Only b) X (X.setCell ⟨b, 1, none⟩ (.slice A' n' c')) := by
  have k := only_setCell X b 1 (.slice A' n' c')
  refine ⟨⟨Blk.put h 1 (.slice A' n' c'), o.kept k fun g e x => ?_⟩, k⟩
  have x : g = b := x
  cases A' with
  | none => cases e
  | some ad =>
    have e : ad.block = g := by simpa [Value.ownBlock] using e
    exact own_ne o h ad rfl (e.trans x)
theorem put3_far {w : World} {b : Nat} {x y z : Value} {p : Addr} {v : Value} (h : w.cell? p = some v) (hp : p.block ≠ b) : (((w.setCell ⟨b, 0, none⟩ x).setCell ⟨b, 1, none⟩ y).setCell ⟨b, 2, none⟩ z).cell? p = some v := ((put3_kept w b x y z).cell (block_lt_of_cell h) hp).trans h
def ExecPost (B b : Nat) (A : Option Addr) (W : Int) (L : List S) (Bo : Bool) (V : World) (e : Ending) (V' : World) : Prop := ∃ A' n' c', e = .returned (.bool Bo) ∧ Mo B V' b W L A' n' c' ∧ Kept (Its b A) V V'
theorem ins_mo {B b n c : Nat} {V : World} {W : Int} {l : List S} {A : Option Addr} (M : Mo B V b W l A n c) (x : S) (hx : Fit x) (i : Nat) (hi : i ≤ n) (hn : n ≤ 1000) (hB : B ≤ V.heap.size) (X : World) (k : Kept Old V X) (bx : BxS X V.heap.size x) :
    Calls Tryz.prog 58 #[.slice A n c, .int .i64 (i : Int), .slice (some ⟨V.heap.size, 0, none⟩) 1 1] X fun e X' => ∃ A' n' c', e = .returned (.slice A' n' c') ∧ Hid (OwS X' B (.slice A' n' c') n' (l.take i ++ x :: l.drop i)) ∧ Hid (Bm X' b W (.slice A n c)) ∧ Hid (Kept (Its b A) V X') := by
  have M' := M.old k
  have ne := own_ne M.own M.box
  refine (ins_any B _ n i l x hx V.heap.size 1 X M'.own bx (fun e => ?_) hi hn (Nat.le_trans hB k.size)).mono ?_
  · have := (M.own.own V.heap.size e.symm).2
    omega
  · rintro e X' ⟨v', rfl, o, kk, _⟩
    obtain ⟨A', c', rfl, _⟩ := o.rs
    have kk2 : Kept (Its b A) X X' := kk.mono fun i e => by
      cases A with
      | none => cases e
      | some ad => exact .inr ⟨ad, rfl, by simpa [Value.ownBlock] using e.symm⟩
    refine ⟨A', _, c', rfl, Lib.hid o, Lib.hid (Blk.kept M'.box kk fun e => ?_), Lib.hid (k.any.trans kk2)⟩
    cases A with
    | none => cases e
    | some ad => exact ne ad rfl (by simpa [Value.ownBlock] using e.symm)
def accA (W : Int) (l : List S) (d : D) : Bool := if d.c = 0 then roomB W l d.n d.a else if d.c = 3 then classB d.n else if d.c = 1 then !classB d.n else false
def accAL (W : Int) (l : List S) (d : D) : List S := if d.c = 0 ∧ roomB W l d.n d.a = true then insL l (newS d.n d.a) else l
theorem accA_ways (W : Int) (l : List S) (d : D) : (d.c = 0 ∧ roomB W l d.n d.a = true ∧ accA W l d = true ∧ accAL W l d = insL l (newS d.n d.a)) ∨ (d.c = 0 ∧ roomB W l d.n d.a = false ∧ accA W l d = false ∧ accAL W l d = l) ∨ (d.c = 3 ∧ accA W l d = classB d.n ∧ accAL W l d = l) ∨ (d.c = 1 ∧ accA W l d = !classB d.n ∧ accAL W l d = l) ∨ (d.c ≠ 0 ∧ d.c ≠ 3 ∧ d.c ≠ 1 ∧ accA W l d = false ∧ accAL W l d = l) := by
  unfold accA accAL
  by_cases h : d.c = 0
  · cases r : roomB W l d.n d.a with
    | true => exact .inl ⟨h, rfl, by simp [h], by simp [h]⟩
    | false => exact .inr (.inl ⟨h, rfl, by simp [h], by simp⟩)
  · by_cases h1 : d.c = 3
    · exact .inr (.inr (.inl ⟨h1, by simp [h1], by simp [h]⟩))
    · by_cases h2 : d.c = 1
      · exact .inr (.inr (.inr (.inl ⟨h2, by simp [h2], by simp [h]⟩)))
      · exact .inr (.inr (.inr (.inr ⟨h, h1, h2, by simp [h, h1, h2], by simp [h]⟩)))
theorem fit_new' {n a : Int} (h : in64S a) : Fit (newS n a) := by
  refine ⟨h, ?_, ⟨show (-9223372036854775808 : Int) ≤ -1 by decide, show (-1 : Int) ≤ 9223372036854775807 by decide⟩⟩
  show in64S (classI n)
  unfold classI
  split
  · repeat' split
    all_goals constructor <;> decide
  · constructor <;> decide
set_option maxHeartbeats 1500000 in
theorem exalloc_any (B b : Nat) (W : Int) (l : List S) (A : Option Addr) (n c : Nat) (d : D) (V : World) (M : Mo B V b W l A n c) (v : Valid W l) (hB : B ≤ V.heap.size) (fd : FitD d) :
    Calls Tryz.prog 123 #[ptr b, ded d] V (ExecPost B b A W (accAL W l d) (accA W l d) V) := by
  have K1 := Lib.hid ((Kept.refl Old V).alloc (.cells #[.int .i64 d.k, .int .i64 d.n, .int .i64 d.a, .int .i64 d.c] 29))
  have BD := Lib.hid (BxD.new V d)
  have M1 := Lib.hid (M.old K1.out)
  have hB1 : B ≤ (V.alloc (.cells #[.int .i64 d.k, .int .i64 d.n, .int .i64 d.a, .int .i64 d.c] 29)).heap.size := by simp; omega
  have d1 := BD.out.c1
  have d2 := BD.out.c2
  have d3 := BD.out.c3
  have m0 := M1.out.box.c0
  have m1 := M1.out.box.c1
  have hb := Blk.lt M1.out.box
  have hl := Blk.lt BD.out
  have HV := Lib.hid v
  have n5 : n ≤ 512 := by have := v.len; have := M.rs.1.len; omega
  have CL := Lib.hid (fun X => class_any d.n X)
  have HX := Lib.hid (fit_new' (n := d.n) fd.2.2.1)
  have RO := Lib.hid (fun X (k : Kept Old (V.alloc (.cells #[.int .i64 d.k, .int .i64 d.n, .int .i64 d.a, .int .i64 d.c] 29)) X) => room_any W A n c l d.n d.a X ((M1.out.old k).rs.1) v M.rs.2.1)
  have pl : placeL l d.a ≤ n := by have := place_le l d.a; have := M.rs.1.len; omega
  have DN := Lib.hid (show ∀ Bo, accA W l d = Bo → accAL W l d = l → ∀ V9, Kept Old (V.alloc (.cells #[.int .i64 d.k, .int .i64 d.n, .int .i64 d.a, .int .i64 d.c] 29)) V9 → ExecPost B b A W (accAL W l d) (accA W l d) V (.returned (.bool Bo)) V9 from fun Bo e1 e2 V9 k => by
    rw [e1, e2]
    exact ⟨A, n, c, rfl, M1.out.old k, (K1.out.trans k).any⟩)
  have DY := Lib.hid (show accA W l d = true → accAL W l d = insL l (newS d.n d.a) → ∀ X A' n' c', Bm X b W (.slice A n c) → OwS X B (.slice A' n' c') n' (l.take (placeL l d.a) ++ newS d.n d.a :: l.drop (placeL l d.a)) → Kept (Its b A) V X → ExecPost B b A W (accAL W l d) (accA W l d) V (.returned (.bool true)) (X.setCell ⟨b, 1, none⟩ (.slice A' n' c')) from fun e1 e2 X A' n' c' h1 h2 h3 => by
    rw [e1, e2]
    obtain ⟨p1, p2⟩ := Mo.put h1 h2
    exact ⟨A', n', c', rfl, p1, h3.trans (p2.mono fun i e => .inl e)⟩)
  clear M v fd
  generalize hW : V.alloc (.cells #[.int .i64 d.k, .int .i64 d.n, .int .i64 d.a, .int .i64 d.c] 29) = U at *
  rcases accA_ways W l d with ⟨h, r, e1, e2⟩ | ⟨h, r, e1, e2⟩ | ⟨h, e1, e2⟩ | ⟨h, e1, e2⟩ | ⟨h, h1, h2, e1, e2⟩
  rotate_left 2
  · have DN := Lib.hid (DN.out _ e1 e2)
    have t0 : (d.c == 0) = false := beq_eq_false_iff_ne.2 (by omega)
    have t1 : (d.c == 3) = true := beq_iff_eq.2 h
    generalize classB d.n = cb at *
    generalize classI d.n = ci at *
    clear h e1 e2
    go_enter Tryz.func123, Tryz.ntmps123
    go_wp2_with (go_at_call 54; refine (CL.out _).mono ?_; rintro e w' ⟨rfl, rfl⟩)
    go_ret
    exact DN.out _ (Kept.refl _ _)
  · have DN := Lib.hid (DN.out _ e1 e2)
    have t0 : (d.c == 0) = false := beq_eq_false_iff_ne.2 (by omega)
    have t1 : (d.c == 3) = false := beq_eq_false_iff_ne.2 (by omega)
    have t2 : (d.c == 1) = true := beq_iff_eq.2 h
    generalize classB d.n = cb at *
    generalize classI d.n = ci at *
    clear h e1 e2
    go_enter Tryz.func123, Tryz.ntmps123
    go_wp2_with (go_at_call 54; refine (CL.out _).mono ?_; rintro e w' ⟨rfl, rfl⟩)
    go_ret
    exact DN.out _ (Kept.refl _ _)
  · have DN := Lib.hid (DN.out _ e1 e2)
    have t0 : (d.c == 0) = false := beq_eq_false_iff_ne.2 h
    have t1 : (d.c == 3) = false := beq_eq_false_iff_ne.2 h1
    have t2 : (d.c == 1) = false := beq_eq_false_iff_ne.2 h2
    generalize classB d.n = cb at *
    generalize classI d.n = ci at *
    clear h h1 h2 e1 e2
    go_enter Tryz.func123, Tryz.ntmps123
    go_wp2_with (go_at_call 54; refine (CL.out _).mono ?_; rintro e w' ⟨rfl, rfl⟩)
    go_ret
    exact DN.out _ (Kept.refl _ _)
  all_goals
    have t0 : (d.c == 0) = true := beq_iff_eq.2 h
    rw [r] at RO
  · rw [(room_yes r).1, (room_yes r).2.1] at RO
    have DY := Lib.hid (DY.out e1 e2)
    clear DN h e1 e2 r
    obtain ⟨cl, hcl⟩ : ∃ cl, classI d.n = cl := ⟨_, rfl⟩
    rw [show newS d.n d.a = ⟨d.a, cl, -1⟩ from by unfold newS; rw [hcl]] at RO HX DY
    rw [hcl] at CL
    clear hcl
    generalize placeL l d.a = p at *
    generalize classB d.n = cb at *
    have KA := Lib.hid ((Kept.refl Old U).alloc (.cells #[.int .i64 0, .int .i64 0, .int .i64 0] 52)).drew
    go_enter Tryz.func123, Tryz.ntmps123
    go_wp2_with (go_at_call 54; refine (CL.out _).mono ?_; rintro e w' ⟨rfl, rfl⟩)
    have hbs : b ≠ U.heap.size := by omega
    have hvs : V.heap.size ≠ U.heap.size := by omega
    go_region_held3 (fun w' => w'.cell? ⟨b, 0, none⟩ = some (.int .i64 W) ∧ w'.cell? ⟨b, 1, none⟩ = some (.slice A n c) ∧ w'.cell? ⟨V.heap.size, 1, none⟩ = some (.int .i64 d.n) ∧ w'.cell? ⟨V.heap.size, 2, none⟩ = some (.int .i64 d.a))
      (first
        | (exact ⟨‹_›, ‹_›, ‹_›, ‹_›⟩)
        | (exact ⟨cell_on k3 m0, cell_on k3 m1, cell_on k3 d1, cell_on k3 d2⟩)
        | (exact ⟨cell_on KA.out m0, cell_on KA.out m1, cell_on KA.out d1, cell_on KA.out d2⟩)
        | (exact ⟨cell_on (k3.alloc _) m0, cell_on (k3.alloc _) m1, cell_on (k3.alloc _) d1, cell_on (k3.alloc _) d2⟩)
        | (exact ⟨put3_far (cell_on k3 m0) hbs, put3_far (cell_on k3 m1) hbs, put3_far (cell_on k3 d1) hvs, put3_far (cell_on k3 d2) hvs⟩)
        | go_keep)
      (first
        | (go_at_call 150; refine (RO.out _ (by first | exact Kept.refl Old U | exact (Kept.refl Old U).drew)).mono ?_; rintro e V2 ⟨rfl, k2⟩; have k3 : Kept Old U V2 := (Kept.trans (by first | exact Kept.refl Old U | exact (Kept.refl Old U).drew) k2); have hz2 := k3.size; clear k2)
        | (go_at_call 150; go_loud (refine (RO.out _ KA.out).mono ?_; rintro e V2 ⟨rfl, k2⟩; have k3 : Kept Old U V2 := KA.out.trans k2; have BX := Lib.hid (BxS.old (w' := V2) (show BxS _ U.heap.size ⟨0, 0, 0⟩ from BxS.new U ⟨0, 0, 0⟩) ⟨k2.os, k2.tape, k2.output, k2.size, k2.block⟩); have y0 := BX.out.c0; have y1 := BX.out.c1; have y2 := BX.out.c2; have g0 := BX.out.f 0; have g1 := BX.out.f 1; have g2 := BX.out.f 2; have hz2 := k3.size; clear k2)))
    · have KY := Lib.hid (show Kept Old U _ from k3.alloc (.cells #[.int .i64 d.a, .int .i64 cl, .int .i64 (-1)] 52))
      have BY := Lib.hid (show BxS _ _ ⟨d.a, cl, -1⟩ from BxS.new V2 ⟨d.a, cl, -1⟩)
      generalize hY : V2.alloc (.cells #[.int .i64 d.a, .int .i64 cl, .int .i64 (-1)] 52) = Y at *
      have MY := Lib.hid (M1.out.old KY.out)
      have m0 := MY.out.box.c0
      have m1 := MY.out.box.c1
      have x0 := BY.out.c0
      have x1 := BY.out.c1
      have x2 := BY.out.c2
      have lb := Blk.lt MY.out.box
      have lx := Blk.lt BY.out
      have hBY : B ≤ Y.heap.size := Nat.le_trans hB1 KY.out.size
      go_wp2_with fail
      go_region_with (go_at_call 58; go_loud (refine (ins_mo MY.out ⟨d.a, cl, -1⟩ HX.out p pl (by omega) hBY _ (by first | exact ((Kept.refl Old Y).alloc _).drew | exact (Kept.refl Old Y).drew.alloc _ | exact (Kept.refl Old Y).alloc _) (by first | exact BxS.new Y ⟨d.a, cl, -1⟩ | exact (BxS.new Y ⟨d.a, cl, -1⟩).drew | exact BxS.new Y.drew ⟨d.a, cl, -1⟩)).mono ?_; rintro e X ⟨A', n', c', rfl, o, bm, kk⟩; have c1 := bm.out.c1; have f1 := bm.out.f1; have KK := Lib.hid ((K1.out.trans KY.out).any.trans kk.out)))
      all_goals
        go_wp2
        go_ret
        exact DY.out _ A' n' c' bm.out o.out KK.out
    · have KY := Lib.hid (show Kept Old U _ from k3.join (put3_kept V2 U.heap.size (.int .i64 d.a) (.int .i64 cl) (.int .i64 (-1))) (fun i hi e => by have e : i = U.heap.size := e; omega))
      have BY := Lib.hid (show BxS _ _ ⟨d.a, cl, -1⟩ from ((Blk.put BX.out 0 (.int .i64 d.a)).put 1 (.int .i64 cl)).put 2 (.int .i64 (-1)))
      generalize hY : ((V2.setCell ⟨U.heap.size, 0, none⟩ (.int .i64 d.a)).setCell ⟨U.heap.size, 1, none⟩ (.int .i64 cl)).setCell ⟨U.heap.size, 2, none⟩ (.int .i64 (-1)) = Y at *
      have MY := Lib.hid (M1.out.old KY.out)
      have m0 := MY.out.box.c0
      have m1 := MY.out.box.c1
      have x0 := BY.out.c0
      have x1 := BY.out.c1
      have x2 := BY.out.c2
      have lb := Blk.lt MY.out.box
      have lx := Blk.lt BY.out
      have hBY : B ≤ Y.heap.size := Nat.le_trans hB1 KY.out.size
      go_wp2_with fail
      go_region_with (go_at_call 58; go_loud (refine (ins_mo MY.out ⟨d.a, cl, -1⟩ HX.out p pl (by omega) hBY _ (by first | exact ((Kept.refl Old Y).alloc _).drew | exact (Kept.refl Old Y).drew.alloc _ | exact (Kept.refl Old Y).alloc _) (by first | exact BxS.new Y ⟨d.a, cl, -1⟩ | exact (BxS.new Y ⟨d.a, cl, -1⟩).drew | exact BxS.new Y.drew ⟨d.a, cl, -1⟩)).mono ?_; rintro e X ⟨A', n', c', rfl, o, bm, kk⟩; have c1 := bm.out.c1; have f1 := bm.out.f1; have KK := Lib.hid ((K1.out.trans KY.out).any.trans kk.out)))
      all_goals
        go_wp2
        go_ret
        exact DY.out _ A' n' c' bm.out o.out KK.out
  · rw [(room_no r).1, (room_no r).2.1] at RO
    have DN := Lib.hid (DN.out _ e1 e2)
    clear DY h e1 e2 r
    generalize placeL l d.a = p at *
    generalize classB d.n = cb at *
    generalize classI d.n = cl at *
    have KA := Lib.hid ((Kept.refl Old U).alloc (.cells #[.int .i64 0, .int .i64 0, .int .i64 0] 52)).drew
    go_enter Tryz.func123, Tryz.ntmps123
    go_wp2_with (go_at_call 54; refine (CL.out _).mono ?_; rintro e w' ⟨rfl, rfl⟩)
    have hbs : b ≠ U.heap.size := by omega
    have hvs : V.heap.size ≠ U.heap.size := by omega
    go_region_held3 (fun w' => w'.cell? ⟨b, 0, none⟩ = some (.int .i64 W) ∧ w'.cell? ⟨b, 1, none⟩ = some (.slice A n c) ∧ w'.cell? ⟨V.heap.size, 1, none⟩ = some (.int .i64 d.n) ∧ w'.cell? ⟨V.heap.size, 2, none⟩ = some (.int .i64 d.a))
      (first
        | (exact ⟨‹_›, ‹_›, ‹_›, ‹_›⟩)
        | (exact ⟨cell_on k3 m0, cell_on k3 m1, cell_on k3 d1, cell_on k3 d2⟩)
        | (exact ⟨cell_on KA.out m0, cell_on KA.out m1, cell_on KA.out d1, cell_on KA.out d2⟩)
        | (exact ⟨cell_on (k3.alloc _) m0, cell_on (k3.alloc _) m1, cell_on (k3.alloc _) d1, cell_on (k3.alloc _) d2⟩)
        | (exact ⟨put3_far (cell_on k3 m0) hbs, put3_far (cell_on k3 m1) hbs, put3_far (cell_on k3 d1) hvs, put3_far (cell_on k3 d2) hvs⟩)
        | go_keep)
      (first
        | (go_at_call 150; refine (RO.out _ (by first | exact Kept.refl Old U | exact (Kept.refl Old U).drew)).mono ?_; rintro e V2 ⟨rfl, k2⟩; have k3 : Kept Old U V2 := (Kept.trans (by first | exact Kept.refl Old U | exact (Kept.refl Old U).drew) k2); have hz2 := k3.size; clear k2)
        | (go_at_call 150; go_loud (refine (RO.out _ KA.out).mono ?_; rintro e V2 ⟨rfl, k2⟩; have k3 : Kept Old U V2 := KA.out.trans k2; have BX := Lib.hid (BxS.old (w' := V2) (show BxS _ U.heap.size ⟨0, 0, 0⟩ from BxS.new U ⟨0, 0, 0⟩) ⟨k2.os, k2.tape, k2.output, k2.size, k2.block⟩); have y0 := BX.out.c0; have y1 := BX.out.c1; have y2 := BX.out.c2; have g0 := BX.out.f 0; have g1 := BX.out.f 1; have g2 := BX.out.f 2; have hz2 := k3.size; clear k2)))
    · have KY := Lib.hid (show Kept Old U _ from k3.alloc (.cells #[.int .i64 0, .int .i64 0, .int .i64 0] 52))
      go_wp2
      go_ret
      exact DN.out _ (by first | exact KY.out | exact KY.out.drew)
    · have KY := Lib.hid (show Kept Old U _ from k3.join (put3_kept V2 U.heap.size (.int .i64 0) (.int .i64 0) (.int .i64 0)) (fun i hi e => by have e : i = U.heap.size := e; omega))
      go_wp2
      go_ret
      exact DN.out _ (by first | exact KY.out | exact KY.out.drew)
end Go.Proofs.YtcndilpaijapkaaGreat.Lm
