/-
  Joined texts of Span; own work.
-/
import Derived.Test.YtcndilpaijapkaaGreatRows
import Derived.WalkKit
import Derived.ProofKit
import Derived.OpenShut
import Derived.Outline
import Derived.Deep.Light
import Derived.Deep.QuietTactic
import Derived.BigQuiet
import Derived.IntWalk
import Derived.StillTailTactics
import Derived.RegionTactic
import Derived.Deep.RegionLaw
import Derived.ChangeAlike
import Derived.Deep.RegionHeld3
import Derived.Test.YtcndilpaijapkaaGreatJMath
import Derived.Test.YtcndilpaijapkaaGreatJSpanMem
/- What the functions of package span answer, of a table whose spans are known (Tb). Own work; each is proved by a walk through the landed text. -/
namespace Go.Proofs.YtcndilpaijapkaaGreat
open Go.ChangeShapes Go.WideShapes Go.ChangeAt Go.RowKit
set_option maxRecDepth 100000

/-- At p lies a table of P pages whose spans are those of l; v is its slice; its blocks are from B on. -/
structure Tb (w : World) (B p : Nat) (v : Value) (P : Int) (l : List S) : Prop where
  box : Blk w p 182 [.int .i64 P, v]
  own : OwS w B v l.length l
  low : B ≤ p
theorem Tb.c0 {w : World} {B p : Nat} {v : Value} {P : Int} {l : List S} (h : Tb w B p v P l) : w.cell? ⟨p, 0, none⟩ = some (.int .i64 P) := h.box.cell 0
theorem Tb.c1 {w : World} {B p : Nat} {v : Value} {P : Int} {l : List S} (h : Tb w B p v P l) : w.cell? ⟨p, 1, none⟩ = some v := h.box.cell 1
theorem Tb.kept {D : Nat → Prop} {w w' : World} {B p : Nat} {v : Value} {P : Int} {l : List S} (h : Tb w B p v P l) (k : Kept D w w') (hp : ¬ D p) (hg : ∀ g, v.ownBlock = some g → ¬ D g) : Tb w' B p v P l := ⟨h.box.kept k hp, h.own.kept k hg, h.low⟩
theorem Tb.old {w w' : World} {B p : Nat} {v : Value} {P : Int} {l : List S} (h : Tb w B p v P l) (k : Kept Old w w') : Tb w' B p v P l := h.kept k (fun x => x) (fun _ _ x => x)
theorem Tb.ne {w : World} {B p : Nat} {v : Value} {P : Int} {l : List S} (h : Tb w B p v P l) : v.ownBlock ≠ some p := by
  intro e
  rcases h.own.blk with ⟨rfl, _⟩ | ⟨g, c, r, rfl, _, b, _⟩
  · cases e
  · have : g = p := by simpa [Value.ownBlock] using e
    subst this
    exact h.box.ne b (by decide) rfl
theorem endS_any (x : S) (w : World) (h : in64S (x.a + x.n)) : Calls Tryz.prog 177 #[spn x] w fun e w' => e = .returned (.int .i64 (x.a + x.n)) ∧ Kept Old w w' := by
  obtain ⟨h1, h2⟩ := h
  go_enter Tryz.func177, Tryz.ntmps177
  go_wp2
  go_ret
  exact ⟨rfl, (Kept.refl _ _).alloc _⟩
theorem new_no (n : Int) (w : World) (h : n < 1 ∨ 256 < n) : Calls Tryz.prog 83 #[.int .i64 n] w fun e w' => e = .returned (.pointer none) ∧ w = w' := by
  rcases h with h | h
  · go_enter Tryz.func83, Tryz.ntmps83
    go_wp2
    go_ret
    exact ⟨rfl, rfl⟩
  · have h' : ¬ n < 1 := by omega
    go_enter Tryz.func83, Tryz.ntmps83
    go_wp2
    go_ret
    exact ⟨rfl, rfl⟩
/-- A new table. -/
def NewPost (B : Nat) (P : Int) (w : World) (e : Ending) (w' : World) : Prop := ∃ p, e = .returned (ptr p) ∧ Tb w' B p (.slice none 0 0) P [] ∧ Kept Old w w' ∧ w.heap.size ≤ p
theorem new_yes (B : Nat) (P : Int) (w : World) (h : 1 ≤ P) (h' : P ≤ 256) (hB : B ≤ w.heap.size) : Calls Tryz.prog 83 #[.int .i64 P] w (NewPost B P w) := by
  have Q : NewPost B P w (.returned (ptr w.heap.size)) (w.alloc (.cells #[.int .i64 P, .slice none 0 0] 182)) :=
    ⟨w.heap.size, rfl, ⟨Blk.new w _ _, OwS.nil _ _, hB⟩, (Kept.refl _ _).alloc _, Nat.le_refl _⟩
  have Q := Lib.hid Q
  go_enter Tryz.func83, Tryz.ntmps83
  go_wp2
  go_ret
  exact Q.out
/-- Does x lie in P pages? -/
def liesBS (x : S) (P : Int) : Bool := decide (0 ≤ x.a ∧ 1 ≤ x.n ∧ x.a + x.n ≤ P)
theorem liesS_cases (x : S) (p : Int) : (¬ 0 ≤ x.a ∧ liesBS x p = false ∧ True) ∨ (0 ≤ x.a ∧ liesBS x p = false ∧ ¬ 1 ≤ x.n) ∨ (0 ≤ x.a ∧ liesBS x p = false ∧ 1 ≤ x.n ∧ ¬ x.a ≤ p - x.n) ∨ (0 ≤ x.a ∧ liesBS x p = true ∧ 1 ≤ x.n ∧ x.a ≤ p - x.n) := by
  unfold liesBS
  simp only [decide_eq_false_iff_not, decide_eq_true_eq, and_true]
  omega
theorem liesS_any {B p : Nat} {v : Value} {P : Int} {l : List S} (x : S) (w : World) (h : Tb w B p v P l) (f : Fit x) (hp : 0 ≤ P ∧ P ≤ 256) : Calls Tryz.prog 195 #[ptr p, spn x] w fun e w' => e = .returned (.bool (liesBS x P)) ∧ Kept Old w w' := by
  obtain ⟨_, ⟨h1, h2⟩, _⟩ := f
  obtain ⟨p1, p2⟩ := hp
  have c0 := h.c0
  have hl := h.box.lt
  clear h
  rcases liesS_cases x P with ⟨c, e, _⟩ | ⟨c, e, d⟩ | ⟨c, e, d, f⟩ | ⟨c, e, d, f⟩
  · have c' : decide (0 ≤ x.a) = false := decide_eq_false c
    rw [e]
    clear e c
    go_enter Tryz.func195, Tryz.ntmps195
    go_wp2_with fail
    go_quiet (fail)
    go_wp2
    go_ret
    exact ⟨rfl, ((Kept.refl _ _).alloc _).drewN _⟩
  · have c' : decide (0 ≤ x.a) = true := decide_eq_true c
    have d' : decide (1 ≤ x.n) = false := decide_eq_false d
    rw [e]
    clear e c d
    go_enter Tryz.func195, Tryz.ntmps195
    go_wp2_with fail
    go_quiet (fail)
    go_wp2
    go_ret
    exact ⟨rfl, ((Kept.refl _ _).alloc _).drewN _⟩
  · have c' : decide (0 ≤ x.a) = true := decide_eq_true c
    have d' : decide (1 ≤ x.n) = true := decide_eq_true d
    have f' : decide (x.a ≤ P - x.n) = false := decide_eq_false f
    have wr : IntKind.i64.wrap (P - x.n) = P - x.n := IntWalk.i64_in _ (by omega)
    rw [e]
    clear e c d f
    go_enter Tryz.func195, Tryz.ntmps195
    go_wp2_with fail
    go_quiet (fail)
    go_wp2
    go_ret
    exact ⟨rfl, ((Kept.refl _ _).alloc _).drewN _⟩
  · have c' : decide (0 ≤ x.a) = true := decide_eq_true c
    have d' : decide (1 ≤ x.n) = true := decide_eq_true d
    have f' : decide (x.a ≤ P - x.n) = true := decide_eq_true f
    have wr : IntKind.i64.wrap (P - x.n) = P - x.n := IntWalk.i64_in _ (by omega)
    rw [e]
    clear e c d f
    go_enter Tryz.func195, Tryz.ntmps195
    go_wp2_with fail
    go_quiet (fail)
    go_wp2
    go_ret
    exact ⟨rfl, ((Kept.refl _ _).alloc _).drewN _⟩
theorem placeS_any {B p : Nat} {v : Value} {P : Int} {l : List S} (q : Int) (w : World) (h : Tb w B p v P l) (g : Good P l) (hP : 0 ≤ P ∧ P ≤ 256) :
    Calls Tryz.prog 148 #[ptr p, .int .i64 q] w fun e w' => e = .returned (.int .i64 (placeL l q : Int)) ∧ Kept Old w w' := by
  have hn : l.length ≤ 256 := by have := g.len hP.1; omega
  have HT := Lib.hid h
  have HG := Lib.hid g
  obtain ⟨A, c, rfl, r, _, _⟩ := h.own.rs
  have HR := Lib.hid r
  have c1 := h.c1
  generalize hln : l.length = n at *
  obtain ⟨p1, p2⟩ := hP
  clear h g r
  go_enter Tryz.func148, Tryz.ntmps148
  go_wp2
  go_loopw [12] (fun i wr => ∃ k : Nat, k ≤ n ∧ i = .int .i64 (k : Int) ∧ Hid (k ≤ placeL l q) ∧ Hid (Kept Old w wr)) (fun i _ => n - (intOf i).toNat)
  case atStart => exact ⟨0, by omega, rfl, Lib.hid (Nat.zero_le _), Lib.hid (Kept.refl _ _)⟩
  case round =>
    obtain ⟨k, hk, rfl, HB, K⟩ := hrel
    rename World => W
    have d1 := (HT.out.old K.out).c1
    by_cases c : k < n
    · obtain ⟨g, o, x, rfl, _, hx, f1, a0, a1, a2⟩ := (HR.out.old K.out).get c
      obtain ⟨b1, b2, b3, b4, b5⟩ := HG.out.at hx
      have ei := Lib.hid (⟨by omega, by omega⟩ : in64S (x.a + x.n))
      have hx := Lib.hid hx
      clear c1 f1
      by_cases d : x.a + x.n ≤ q
      · have hs := Lib.hid (show k + 1 ≤ placeL l q from by
          rcases Nat.lt_or_ge k (placeL l q) with z | z
          · exact z
          · have e : k = placeL l q := by have := HB.out; omega
            have hx' := hx.out
            rw [e] at hx'
            have := place_hi l q hx'
            omega)
        go_wp2_with fail
        refine (endS_any x _ ei.out).mono ?_
        rintro e w' ⟨rfl, k1⟩
        go_wp2
        refine ⟨⟨k + 1, by omega, by go_num, hs, Lib.hid ((K.out.alloc _).trans k1)⟩, ?_⟩
        simp [intOf]; omega
      · have e := Lib.hid (show k = placeL l q from by
          rcases Nat.lt_or_ge k (placeL l q) with z | z
          · have := place_lo l q hx.out z
            omega
          · have := HB.out
            omega)
        go_wp2_with fail
        refine (endS_any x _ ei.out).mono ?_
        rintro e2 w' ⟨rfl, k1⟩
        go_wp2
        go_ret
        exact ⟨by rw [← e.out]; rfl, (K.out.alloc _).trans k1⟩
    · have e := Lib.hid (show placeL l q = n from by have := place_le l q; have := HB.out; omega)
      go_wp2
      go_ret
      exact ⟨by rw [e.out]; rfl, K.out⟩
/-- List: new memory. -/
def ListPost (l : List S) (w : World) (e : Ending) (w' : World) : Prop := ∃ A c, e = .returned (.slice A l.length c) ∧ RsS w' A l.length l ∧ Kept Old w w' ∧ (∀ ad, A = some ad → w.heap.size ≤ ad.block) ∧ (∃ g cs, A = some ⟨g, 0, none⟩ ∧ Blk w' g 115 cs ∧ l.length ≤ c)
theorem make_span (n : Nat) (h : n ≤ 3000) (w : World) : ∃ cs : List Value, cs.length = n * 3 ∧ (Instr.makeSlice 93 (.int .i64 (n : Int)) (.int .i64 (n : Int))).run Tryz.prog w = .ok (.slice (some ⟨w.heap.size, 0, none⟩) n n) (w.alloc (.cells cs.toArray 115)) := by
  obtain ⟨i0, hi, hz0, hz1, hz2⟩ := info_parts Tryz.spanInfo
  have hr := run_make (P := Tryz.prog) w 93 115 i0 _ Tryz.underlying93 hi hz0 .i64 .i64 n n (by omega) (Int.le_refl _) (by rw [hz2]; omega) (by omega)
  simp only [Int.toNat_natCast, hz1] at hr
  exact ⟨(madeCells (Value.agg #[.int .i64 0, .int .i64 0, .int .i64 0]).cells (n * 3)).toList, by rw [Array.length_toList, size_madeCells], by rw [Array.toArray_toList]; exact hr⟩
end Go.Proofs.YtcndilpaijapkaaGreat
/- What Table.Of and Table.Remove answer. Own work; each is proved by a walk through the landed text. -/
namespace Go.Proofs.YtcndilpaijapkaaGreat
open Go.ChangeShapes Go.WideShapes Go.ChangeAt Go.RowKit
set_option maxRecDepth 100000

abbrev noS : S := ⟨0, 0, 0⟩
theorem BxS.far {w : World} {b : Nat} {x : S} (h : BxS w b x) {p : Addr} (hp : b ≠ p.block) (u : Value) : BxS (w.setCell p u) b x := Blk.far h hp u
theorem kept_set {w w' : World} (k : Kept Old w w') {b i : Nat} (hb : w.heap.size ≤ b) (u : Value) : Kept Old w (w'.setCell ⟨b, i, none⟩ u) := k.setCell (p := ⟨b, i, none⟩) (fun h => absurd h (Nat.not_lt.2 hb)) u
/-- A span stored into a block of the call's own. -/
theorem BxS.end3 {w W : World} {b : Nat} {x : S} (h : BxS W b x) (K : Kept Old w W) (hb : w.heap.size ≤ b) (y : S) :
    ∃ V, ((W.setCell ⟨b, 0, none⟩ (.int .i64 y.a)).setCell ⟨b, 1, none⟩ (.int .i64 y.n)).setCell ⟨b, 2, none⟩ (.int .i64 y.c) = V ∧ V.cell? ⟨b, 0, none⟩ = some (.int .i64 y.a) ∧ V.cell? ⟨b, 1, none⟩ = some (.int .i64 y.n) ∧ V.cell? ⟨b, 2, none⟩ = some (.int .i64 y.c) ∧ Kept Old w V ∧ BxS V b y ∧ Kept (Only b) W V := by
  have z : BxS (((W.setCell ⟨b, 0, none⟩ (.int .i64 y.a)).setCell ⟨b, 1, none⟩ (.int .i64 y.n)).setCell ⟨b, 2, none⟩ (.int .i64 y.c)) b y := ((Blk.put h 0 (.int .i64 y.a)).put 1 (.int .i64 y.n)).put 2 (.int .i64 y.c)
  exact ⟨_, rfl, z.c0, z.c1, z.c2, kept_set (kept_set (kept_set K hb _) hb _) hb _, z, ((only_setCell _ _ _ _).trans (only_setCell _ _ _ _)).trans (only_setCell _ _ _ _)⟩
theorem tof_nil (q : Int) (w : World) : Calls Tryz.prog 143 #[.pointer none, .int .i64 q] w fun e w' => e = .returned (.tuple #[spn noS, .bool false]) ∧ Kept Old w w' := by
  go_enter Tryz.func143, Tryz.ntmps143
  go_wp2
  exact bodyPost_ret (v := .tuple #[spn noS, .bool false]) (by simp [results, Tryz.results143, go_sem]) rfl ⟨rfl, (Kept.refl _ _).alloc _⟩
set_option maxHeartbeats 1000000 in
theorem tof_yes {B p : Nat} {v : Value} {P : Int} {l : List S} (q : Int) (x : S) (w : World) (h : Tb w B p v P l) (g : Good P l) (hP : 0 ≤ P ∧ P ≤ 256) (hx : ofL l q = some x) :
    Calls Tryz.prog 143 #[ptr p, .int .i64 q] w fun e w' => e = .returned (.tuple #[spn x, .bool true]) ∧ Kept Old w w' := by
  obtain ⟨hy, h1, h2⟩ := of_some hx
  have HT := Lib.hid h
  have HG := Lib.hid g
  have k0' := (Kept.refl Old w).alloc (.cells #[.int .i64 0, .int .i64 0, .int .i64 0] 115)
  have T0 := Lib.hid (h.old k0')
  have B0 := Lib.hid (BxS.new w noS)
  have k0 := Lib.hid k0'
  have HY := Lib.hid hy
  have hn := Lib.hid (show l.length ≤ 256 from by have := g.len hP.1; omega)
  clear h g hx hy k0'
  go_enter Tryz.func143, Tryz.ntmps143
  go_wp2_with fail
  refine (placeS_any q _ T0.out HG.out hP).mono ?_
  rintro e W ⟨rfl, k1⟩
  have K := Lib.hid (k0.out.trans k1)
  have T1 := T0.out.old k1
  have c1 := T1.c1
  obtain ⟨A, c, rfl, r, _, _⟩ := T1.own.rs
  have hlt : placeL l q < l.length := (List.getElem?_eq_some_iff.1 HY.out).1
  obtain ⟨gg, o, y, rfl, hgl, hy, f1, a0, a1, a2⟩ := r.get hlt
  have ey : y = x := by rw [HY.out] at hy; exact (Option.some.inj hy).symm
  subst ey
  have hb := Blk.lt (B0.out.old k1)
  have b0 := (B0.out.old k1).c0
  have b1 := (B0.out.old k1).c1
  have b2 := (B0.out.old k1).c2
  have bf := Blk.frozen (B0.out.old k1)
  have hn' := hn.out
  obtain ⟨V, hV, v0, v1, v2, KV, _⟩ := (B0.out.old k1).end3 K.out (Nat.le_refl _) y
  have KV := Lib.hid KV
  generalize w.heap.size = s at *
  generalize placeL l q = k at *
  generalize l.length = n at *
  have ne : ((k : Int) == (n : Int)) = false := beq_eq_false_iff_ne.2 (by omega)
  have nl : ¬ q < y.a := by omega
  clear T0 k0 k1 T1 r hy f1 B0 hn HY HT
  go_wp2
  exact bodyPost_ret (v := .tuple #[spn y, .bool true]) (by simp [results, Tryz.results143, go_sem, v0, v1, v2]) rfl ⟨rfl, KV.out⟩
set_option maxHeartbeats 1000000 in
theorem tof_no {B p : Nat} {v : Value} {P : Int} {l : List S} (q : Int) (w : World) (h : Tb w B p v P l) (g : Good P l) (hP : 0 ≤ P ∧ P ≤ 256) (hx : ofL l q = none) :
    Calls Tryz.prog 143 #[ptr p, .int .i64 q] w fun e w' => e = .returned (.tuple #[spn noS, .bool false]) ∧ Kept Old w w' := by
  have HT := Lib.hid h
  have HG := Lib.hid g
  have k0' := (Kept.refl Old w).alloc (.cells #[.int .i64 0, .int .i64 0, .int .i64 0] 115)
  have T0 := Lib.hid (h.old k0')
  have B0 := Lib.hid (BxS.new w noS)
  have k0 := Lib.hid k0'
  have HX := Lib.hid hx
  have hn := Lib.hid (show l.length ≤ 256 from by have := g.len hP.1; omega)
  clear h g hx k0'
  go_enter Tryz.func143, Tryz.ntmps143
  go_wp2_with fail
  refine (placeS_any q _ T0.out HG.out hP).mono ?_
  rintro e W ⟨rfl, k1⟩
  have K := Lib.hid (k0.out.trans k1)
  have T1 := T0.out.old k1
  have c1 := T1.c1
  obtain ⟨A, c, rfl, r, _, _⟩ := T1.own.rs
  have hb := Blk.lt (B0.out.old k1)
  have b0 := (B0.out.old k1).c0
  have b1 := (B0.out.old k1).c1
  have b2 := (B0.out.old k1).c2
  have bf := Blk.frozen (B0.out.old k1)
  have hn' := hn.out
  obtain ⟨V, hV, v0, v1, v2, KV, _⟩ := (B0.out.old k1).end3 K.out (Nat.le_refl _) noS
  have KV := Lib.hid KV
  have hle := place_le l q
  by_cases hlt : placeL l q < l.length
  · obtain ⟨gg, o, y, rfl, hgl, hy, f1, a0, a1, a2⟩ := r.get hlt
    have nl := of_none_at HX.out hy
    generalize w.heap.size = s at *
    generalize placeL l q = k at *
    generalize l.length = n at *
    have ne : ((k : Int) == (n : Int)) = false := beq_eq_false_iff_ne.2 (by omega)
    clear T0 k0 k1 T1 r hy f1 B0 hn HT HX
    go_wp2
    exact bodyPost_ret (v := .tuple #[spn noS, .bool false]) (by simp [results, Tryz.results143, go_sem, v0, v1, v2]) rfl ⟨rfl, KV.out⟩
  · have e : placeL l q = l.length := by omega
    rw [e]
    generalize w.heap.size = s at *
    generalize l.length = n at *
    clear T0 k0 k1 T1 r B0 hn HT HX e hle hlt
    go_wp2
    exact bodyPost_ret (v := .tuple #[spn noS, .bool false]) (by simp [results, Tryz.results143, go_sem, v0, v1, v2]) rfl ⟨rfl, KV.out⟩
end Go.Proofs.YtcndilpaijapkaaGreat
/- What Table.Remove answers. Own work; each is proved by a walk through the landed text. -/
namespace Go.Proofs.YtcndilpaijapkaaGreat
open Go.ChangeShapes Go.WideShapes Go.ChangeAt Go.RowKit
set_option maxRecDepth 100000

/-- The blocks of a table. -/
abbrev Own (p : Nat) (v : Value) (k : Nat) : Prop := k = p ∨ some k = v.ownBlock
theorem BxS.put3 {W : World} {b : Nat} {x : S} (h : BxS W b x) (y : S) :
    ∃ V, ((W.setCell ⟨b, 0, none⟩ (.int .i64 y.a)).setCell ⟨b, 1, none⟩ (.int .i64 y.n)).setCell ⟨b, 2, none⟩ (.int .i64 y.c) = V ∧ V.cell? ⟨b, 0, none⟩ = some (.int .i64 y.a) ∧ V.cell? ⟨b, 1, none⟩ = some (.int .i64 y.n) ∧ V.cell? ⟨b, 2, none⟩ = some (.int .i64 y.c) ∧ BxS V b y ∧ Kept (Only b) W V := by
  have z : BxS (((W.setCell ⟨b, 0, none⟩ (.int .i64 y.a)).setCell ⟨b, 1, none⟩ (.int .i64 y.n)).setCell ⟨b, 2, none⟩ (.int .i64 y.c)) b y := ((Blk.put h 0 (.int .i64 y.a)).put 1 (.int .i64 y.n)).put 2 (.int .i64 y.c)
  exact ⟨_, rfl, z.c0, z.c1, z.c2, z, ((only_setCell _ _ _ _).trans (only_setCell _ _ _ _)).trans (only_setCell _ _ _ _)⟩
/-- The table behind a store of its slice. -/
theorem Tb.store {w : World} {B p : Nat} {v v' : Value} {P : Int} {l l' : List S} (box : Blk w p 182 [.int .i64 P, v]) (O : OwS w B v' l'.length l') (ne : v'.ownBlock ≠ some p) (low : B ≤ p) : ∃ V, w.setCell ⟨p, 1, none⟩ v' = V ∧ Tb V B p v' P l' ∧ Kept (Only p) w V ∧ l = l :=
  ⟨_, rfl, ⟨box.put 1 v', O.kept (only_setCell _ _ _ _) (fun g hg e => ne (by rw [hg, show g = p from e])), low⟩, only_setCell _ _ _ _, rfl⟩
/-- What a call that turns a table answers beside its code. -/
def Chg (B p : Nat) (v : Value) (P : Int) (l' : List S) (w w' : World) : Prop := ∃ v', Tb w' B p v' P l' ∧ Kept (Own p v) w w' ∧ (v'.ownBlock = v.ownBlock ∨ ∃ g, v'.ownBlock = some g ∧ w.heap.size ≤ g)
theorem rem_nil (q : Int) (w : World) : Calls Tryz.prog 121 #[.pointer none, .int .i64 q] w fun e w' => e = .returned (.tuple #[spn noS, .int .i64 2]) ∧ Kept Old w w' := by
  have k0 := Lib.hid ((Kept.refl Old w).alloc (.cells #[.int .i64 0, .int .i64 0, .int .i64 0] 115))
  have B0 := Lib.hid (BxS.new w noS)
  go_enter Tryz.func121, Tryz.ntmps121
  go_wp2_with fail
  refine (tof_nil q _).mono ?_
  rintro e W ⟨rfl, k1⟩
  have K := Lib.hid (k0.out.trans k1)
  have hb := Blk.lt (B0.out.old k1)
  have b0 := (B0.out.old k1).c0
  have b1 := (B0.out.old k1).c1
  have b2 := (B0.out.old k1).c2
  have bf := Blk.frozen (B0.out.old k1)
  obtain ⟨V, hV, _, _, _, KV, BV, _⟩ := (B0.out.old k1).end3 K.out (Nat.le_refl _) noS
  have KV := Lib.hid KV
  have v0 := fun o => (BxS.alloc BV o).c0
  have v1 := fun o => (BxS.alloc BV o).c1
  have v2 := fun o => (BxS.alloc BV o).c2
  generalize w.heap.size = s at *
  clear k0 k1 B0
  go_wp2
  exact bodyPost_ret (v := .tuple #[spn noS, .int .i64 2]) (by simp [results, Tryz.results121, go_sem, v0, v1, v2]) rfl ⟨rfl, KV.out.alloc _⟩
set_option maxHeartbeats 1000000 in
theorem rem_no {B p : Nat} {v : Value} {P : Int} {l : List S} (q : Int) (w : World) (h : Tb w B p v P l) (g : Good P l) (hP : 0 ≤ P ∧ P ≤ 256) (hx : begL l q = none) :
    Calls Tryz.prog 121 #[ptr p, .int .i64 q] w fun e w' => e = .returned (.tuple #[spn noS, .int .i64 2]) ∧ Kept Old w w' := by
  have k0 := Lib.hid ((Kept.refl Old w).alloc (.cells #[.int .i64 0, .int .i64 0, .int .i64 0] 115))
  have B0 := Lib.hid (BxS.new w noS)
  have HT := Lib.hid h
  have HG := Lib.hid g
  clear h g
  rcases beg_none hx with hx | ⟨y, hx, hy⟩
  · have HX := Lib.hid hx
    clear hx
    go_enter Tryz.func121, Tryz.ntmps121
    go_wp2_with fail
    refine (tof_no q _ (HT.out.old k0.out) HG.out hP HX.out).mono ?_
    rintro e W ⟨rfl, k1⟩
    have K := Lib.hid (k0.out.trans k1)
    have hb := Blk.lt (B0.out.old k1)
    have b0 := (B0.out.old k1).c0
    have b1 := (B0.out.old k1).c1
    have b2 := (B0.out.old k1).c2
    have bf := Blk.frozen (B0.out.old k1)
    obtain ⟨V, hV, _, _, _, KV, BV, _⟩ := (B0.out.old k1).end3 K.out (Nat.le_refl _) noS
    have KV := Lib.hid KV
    have v0 := fun o => (BxS.alloc BV o).c0
    have v1 := fun o => (BxS.alloc BV o).c1
    have v2 := fun o => (BxS.alloc BV o).c2
    generalize w.heap.size = s at *
    clear k0 k1 B0
    go_wp2
    exact bodyPost_ret (v := .tuple #[spn noS, .int .i64 2]) (by simp [results, Tryz.results121, go_sem, v0, v1, v2]) rfl ⟨rfl, KV.out.alloc _⟩
  · have HX := Lib.hid hx
    clear hx
    go_enter Tryz.func121, Tryz.ntmps121
    go_wp2_with fail
    refine (tof_yes q y _ (HT.out.old k0.out) HG.out hP HX.out).mono ?_
    rintro e W ⟨rfl, k1⟩
    have K := Lib.hid (k0.out.trans k1)
    have hb := Blk.lt (B0.out.old k1)
    have b0 := (B0.out.old k1).c0
    have b1 := (B0.out.old k1).c1
    have b2 := (B0.out.old k1).c2
    have bf := Blk.frozen (B0.out.old k1)
    obtain ⟨V, hV, _, _, _, KV, BV, _⟩ := (B0.out.old k1).end3 K.out (Nat.le_refl _) noS
    have KV := Lib.hid KV
    have v0 := fun o => (BxS.alloc BV o).c0
    have v1 := fun o => (BxS.alloc BV o).c1
    have v2 := fun o => (BxS.alloc BV o).c2
    generalize w.heap.size = s at *
    have ny : (y.a == q) = false := beq_eq_false_iff_ne.2 hy
    clear k0 k1 B0
    go_wp2
    exact bodyPost_ret (v := .tuple #[spn noS, .int .i64 2]) (by simp [results, Tryz.results121, go_sem, v0, v1, v2]) rfl ⟨rfl, KV.out.alloc _⟩
set_option maxHeartbeats 2000000 in
theorem rem_yes {B p : Nat} {v : Value} {P : Int} {l : List S} (q : Int) (x : S) (w : World) (h : Tb w B p v P l) (g : Good P l) (hP : 0 ≤ P ∧ P ≤ 256) (hx : begL l q = some x) :
    Calls Tryz.prog 121 #[ptr p, .int .i64 q] w fun e w' => e = .returned (.tuple #[spn x, .int .i64 0]) ∧ Chg B p v P (delL l q) w w' := by
  obtain ⟨ho, hq⟩ := beg_some hx
  subst hq
  have k0 := Lib.hid ((Kept.refl Old w).alloc (.cells #[.int .i64 0, .int .i64 0, .int .i64 0] 115))
  have B0 := Lib.hid (BxS.new w noS)
  have HT := Lib.hid h
  have HG := Lib.hid g
  have HX := Lib.hid ho
  have hn := Lib.hid (show l.length ≤ 256 from by have := g.len hP.1; omega)
  have hlt := Lib.hid (show placeL l x.a < l.length from (List.getElem?_eq_some_iff.1 (of_some ho).1).1)
  have hps := Lib.hid h.box.lt
  have hne := Lib.hid h.ne
  have hown := Lib.hid h.own.own
  clear h g hx ho
  go_enter Tryz.func121, Tryz.ntmps121
  go_wp2_with fail
  refine (tof_yes x.a x _ (HT.out.old k0.out) HG.out hP HX.out).mono ?_
  rintro e W ⟨rfl, k1⟩
  have K := Lib.hid ((k0.out.trans k1).alloc (.cells #[.int .i64 x.a, .int .i64 x.n, .int .i64 x.c] 115))
  have B1 := Lib.hid ((B0.out.old k1).alloc (.cells #[.int .i64 x.a, .int .i64 x.n, .int .i64 x.c] 115))
  have X1 := Lib.hid (BxS.new W x)
  have hsW := Lib.hid (Blk.lt (B0.out.old k1))
  clear k0 k1 B0
  go_wp2_with fail
  refine (placeS_any x.a _ (HT.out.old K.out) HG.out hP).mono ?_
  rintro e W2 ⟨rfl, k2⟩
  have K := Lib.hid (K.out.trans k2)
  have B2 := Lib.hid (B1.out.old k2)
  have X2 := Lib.hid (X1.out.old k2)
  have T2 := Lib.hid (HT.out.old K.out)
  have c1 := T2.out.c1
  have hlt' := hlt.out
  have hn' := hn.out
  clear B1 X1 k2
  generalize hk : placeL l x.a = k at *
  have hk := Lib.hid hk
  go_wp2_with fail
  refine (del_any B v l.length k l _ T2.out.own hlt' (by omega)).mono ?_
  rintro e W3 ⟨v', rfl, O3, k3, ob⟩
  obtain ⟨A', c', hv2, _⟩ := O3.rs
  have hsp : p < w.heap.size := hps.out
  have hso : v.ownBlock ≠ some w.heap.size := fun e => by have := (hown.out _ e.symm).2; omega
  have hsx : v.ownBlock ≠ some W.heap.size := fun e => by have := (hown.out _ e.symm).2; have := hsW.out; omega
  have hp2 : p < W2.heap.size := T2.out.box.lt
  have hv' : v'.ownBlock ≠ some p := by
    rcases ob with e | e
    · rw [e]; exact hne.out
    · rw [e]; intro z; injection z with z; omega
  have hvs : ∀ g, v'.ownBlock = some g → ¬ Only w.heap.size g := by
    intro g hg e
    have e : g = w.heap.size := e
    subst e
    rcases ob with z | z
    · exact hso (z.symm.trans hg)
    · rw [z] at hg
      injection hg with hg
      have := Blk.lt B2.out
      omega
  have bx := T2.out.box.kept k3 (fun e => hne.out e.symm)
  have B3 := B2.out.kept k3 (fun e => hso e.symm)
  have X3 := X2.out.kept k3 (fun e => hsx e.symm)
  obtain ⟨V, hV, TV, kV, _⟩ := Tb.store (l := l) bx O3 hv' T2.out.low
  have B4 := B3.kept kV (fun e => by have e : w.heap.size = p := e; omega)
  have X4 := X3.kept kV (fun e => by have e : W.heap.size = p := e; have := hsW.out; omega)
  obtain ⟨V2, hV2, v0, v1, v2, _, kV2⟩ := B4.put3 x
  have hob : v'.ownBlock = v.ownBlock ∨ ∃ g, v'.ownBlock = some g ∧ w.heap.size ≤ g := ob.imp id fun e => ⟨_, e, K.out.size⟩
  have E : Chg B p v P (delL l x.a) w V2 := by
    refine ⟨v', ?_, ?_, hob⟩
    · unfold delL
      rw [hk.out]
      exact TV.kept kV2 (fun e => by have e : p = w.heap.size := e; omega) hvs
    · refine K.out.any.join (E := fun i => i = w.heap.size ∨ Own p v i) ?_ (fun i hi e => e.elim (fun e => by omega) id)
      exact ((k3.mono fun i e => .inr (.inr e)).trans (kV.mono fun i e => .inr (.inl e))).trans (kV2.mono fun i e => .inl e)
  have E := Lib.hid E
  have f3 := bx.frozen
  have f4 := Blk.frozen B4
  have p0 := bx.cell 0
  have p1 := bx.cell 1
  have s0 := B4.c0
  have s1 := B4.c1
  have s2 := B4.c2
  have x0 := X4.c0
  have x1 := X4.c1
  have x2 := X4.c2
  simp only [List.getElem?_cons_zero, List.getElem?_cons_succ] at p0 p1
  generalize w.heap.size = s at *
  generalize W.heap.size = s' at *
  obtain ⟨m, hm⟩ : ∃ m, (l.take k ++ l.drop (k + 1)).length = m := ⟨_, rfl⟩
  rw [hm] at hv2
  subst hv2
  clear hm k3 hob hvs hv' B3 X3 B4 X4 TV kV kV2 O3 ob bx K B2 X2 T2 hso hsx hsp hp2 HT HG HX hps hne hown hsW c1 hlt hlt' hn hn' hk
  go_wp2
  exact bodyPost_ret (v := .tuple #[spn x, .int .i64 0]) (by simp [results, Tryz.results121, go_sem, v0, v1, v2]) rfl ⟨rfl, E.out⟩
end Go.Proofs.YtcndilpaijapkaaGreat
/- What Table.Add answers. Own work; each is proved by a walk through the landed text. -/
namespace Go.Proofs.YtcndilpaijapkaaGreat
open Go.ChangeShapes Go.WideShapes Go.ChangeAt Go.RowKit
set_option maxRecDepth 100000

theorem cellS_on {w w' : World} (k : Kept Old w w') {p : Addr} {v : Value} (h : w.cell? p = some v) : w'.cell? p = some v := (k.cell (block_lt_of_cell h) (fun x => x)).trans h
theorem add_nil (x : S) (w : World) : Calls Tryz.prog 182 #[.pointer none, spn x] w fun e w' => e = .returned (.int .i64 2) ∧ Kept Old w w' := by
  go_enter Tryz.func182, Tryz.ntmps182
  go_wp2
  go_ret
  exact ⟨rfl, (Kept.refl _ _).alloc _⟩
/-- Is x a span that may be added to a table of P pages? -/
def okB (x : S) (P : Int) : Bool := decide (0 ≤ x.a ∧ 1 ≤ x.n ∧ x.a + x.n ≤ P ∧ 0 ≤ x.c ∧ x.c < 8)
theorem ok_of {x : S} {P : Int} (h : okB x P = true) : Ok P x := by
  obtain ⟨h1, h2, h3, h4, h5⟩ := of_decide_eq_true h
  exact ⟨h1, h2, h3, h4, h5⟩
theorem of_ok {x : S} {P : Int} (h : Ok P x) : okB x P = true := decide_eq_true ⟨h.a0, h.n1, h.up, h.c0, h.c7⟩
theorem ok_cases {x : S} {P : Int} (h : okB x P = false) : liesBS x P = false ∨ (liesBS x P = true ∧ x.c < 0) ∨ (liesBS x P = true ∧ ¬ x.c < 0 ∧ 8 ≤ x.c) := by
  have := of_decide_eq_false h
  unfold liesBS
  simp only [decide_eq_false_iff_not, decide_eq_true_eq]
  omega
set_option maxHeartbeats 1000000 in
theorem add_arg {B p : Nat} {v : Value} {P : Int} {l : List S} (x : S) (w : World) (h : Tb w B p v P l) (f : Fit x) (hP : 0 ≤ P ∧ P ≤ 256) (hx : okB x P = false) :
    Calls Tryz.prog 182 #[ptr p, spn x] w fun e w' => e = .returned (.int .i64 1) ∧ Kept Old w w' := by
  have k0 := Lib.hid ((Kept.refl Old w).alloc (.cells #[.int .i64 x.a, .int .i64 x.n, .int .i64 x.c] 115))
  have B0 := Lib.hid (BxS.new w x)
  have HT := Lib.hid h
  have HF := Lib.hid f
  clear h f
  rcases ok_cases hx with e | ⟨e, d⟩ | ⟨e, d, d'⟩
  all_goals
    clear hx
    have e := Lib.hid e
    go_enter Tryz.func182, Tryz.ntmps182
    go_wp2_with fail
    refine (liesS_any x _ (HT.out.old k0.out) HF.out hP).mono ?_
    rintro e2 W ⟨rfl, k1⟩
    rw [e.out]
    have K := Lib.hid (k0.out.trans k1)
    have c2 := (B0.out.old k1).c2
    clear e k0 k1 B0
    go_wp2
    go_ret
    exact ⟨rfl, K.out⟩
set_option maxHeartbeats 1000000 in
theorem add_twice {B p : Nat} {v : Value} {P : Int} {l : List S} (x : S) (w : World) (h : Tb w B p v P l) (g : Good P l) (f : Fit x) (hP : 0 ≤ P ∧ P ≤ 256) (ok : Ok P x) (hit : hitB l x = true) :
    Calls Tryz.prog 182 #[ptr p, spn x] w fun e w' => e = .returned (.int .i64 4) ∧ Kept Old w w' := by
  obtain ⟨y, hy, h1, h2⟩ := hit_some hit
  have k0 := Lib.hid ((Kept.refl Old w).alloc (.cells #[.int .i64 x.a, .int .i64 x.n, .int .i64 x.c] 115))
  have B0 := Lib.hid (BxS.new w x)
  have HT := Lib.hid h
  have HG := Lib.hid g
  have HF := Lib.hid f
  have HY := Lib.hid hy
  have li := Lib.hid (show liesBS x P = true from decide_eq_true ⟨ok.a0, ok.n1, ok.up⟩)
  have er := Lib.hid (show in64S (x.a + x.n) from ⟨by have := ok.a0; have := ok.n1; omega, by have := ok.up; omega⟩)
  have o1 : ¬ x.c < 0 := by have := ok.c0; omega
  have o2 : ¬ 8 ≤ x.c := by have := ok.c7; omega
  have hn := Lib.hid (show l.length ≤ 256 from by have := g.len hP.1; omega)
  have hlt := Lib.hid (show placeL l x.a < l.length from (List.getElem?_eq_some_iff.1 hy).1)
  clear h g f hit hy ok
  go_enter Tryz.func182, Tryz.ntmps182
  go_wp2_with fail
  refine (liesS_any x _ (HT.out.old k0.out) HF.out hP).mono ?_
  rintro e2 W ⟨rfl, k1⟩
  rw [li.out]
  have K := Lib.hid (k0.out.trans k1)
  have B1 := Lib.hid (B0.out.old k1)
  have c0 := B1.out.c0
  have c2 := B1.out.c2
  clear k0 k1 B0
  go_wp2_with fail
  refine (placeS_any x.a _ (HT.out.old K.out) HG.out hP).mono ?_
  rintro e2 W2 ⟨rfl, k2⟩
  have K := Lib.hid (K.out.trans k2)
  have B2 := Lib.hid (B1.out.old k2)
  have T2 := HT.out.old K.out
  have c1 := T2.c1
  obtain ⟨A, c, rfl, r, _, _⟩ := T2.own.rs
  obtain ⟨gg, o, y', rfl, hgl, hy, f1, a0, a1, a2⟩ := r.get hlt.out
  have ey : y' = y := by rw [HY.out] at hy; exact (Option.some.inj hy).symm
  subst ey
  have d0 := B2.out.c0
  have d1 := B2.out.c1
  have d2 := B2.out.c2
  have hlt' := hlt.out
  have hn' := hn.out
  have kw := Kept.refl Old W2
  generalize w.heap.size = s at *
  generalize placeL l x.a = k at *
  generalize l.length = n at *
  have gd : decide ((k : Int) < (n : Int)) = true := decide_eq_true (by omega)
  have gy : decide (y'.a < x.a + x.n) = true := decide_eq_true h1
  clear B1 k2 T2 r hy HY hlt hn li c0 c2 HT HF HG B2 o1 o2 f1
  go_wp2_with fail
  go_region_held3 (fun w' => Kept Old W2 w' ∧ w'.cell? ⟨p, 1, none⟩ = some (.slice (some ⟨gg, o, none⟩) n c) ∧ w'.cell? ⟨gg, o + k * 3, none⟩ = some (.int .i64 y'.a) ∧ w'.cell? ⟨s, 0, none⟩ = some (.int .i64 x.a) ∧ w'.cell? ⟨s, 1, none⟩ = some (.int .i64 x.n) ∧ w'.cell? ⟨s, 2, none⟩ = some (.int .i64 x.c))
    (first
      | (exact ⟨‹_›, ‹_›, ‹_›, ‹_›, ‹_›, ‹_›⟩)
      | (exact ⟨Kept.drew ‹_›, ‹_›, ‹_›, ‹_›, ‹_›, ‹_›⟩)
      | (go_split_ands; exact ⟨Kept.trans ‹_› k1, cellS_on k1 ‹_›, cellS_on k1 ‹_›, cellS_on k1 ‹_›, cellS_on k1 ‹_›, cellS_on k1 ‹_›⟩)
      | go_keep)
    (first
      | (go_at_call 177; refine (endS_any x _ er.out).mono ?_; rintro e w' ⟨rfl, k1⟩))
  have Z := Lib.hid (K.out.trans (‹Kept Old W2 _ ∧ _›).1)
  go_wp2
  go_ret
  exact ⟨rfl, Z.out⟩
end Go.Proofs.YtcndilpaijapkaaGreat
/- What Table.Add answers where it adds. Own work; proved by a walk through the landed text. -/
namespace Go.Proofs.YtcndilpaijapkaaGreat
open Go.ChangeShapes Go.WideShapes Go.ChangeAt Go.RowKit
set_option maxRecDepth 100000

/-- Behind the place: what is known of the world. -/
structure Near (w W : World) (B p s : Nat) (v : Value) (P : Int) (l : List S) (x : S) : Prop where
  tb : Tb W B p v P l
  bx : BxS W s x
  k : Kept Old w W
  hs : w.heap.size = s
  hp : p < s
  ho : ∀ g, v.ownBlock = some g → g < s
theorem Near.old {w W W' : World} {B p s : Nat} {v : Value} {P : Int} {l : List S} {x : S} (h : Near w W B p s v P l x) (k : Kept Old W W') : Near w W' B p s v P l x := ⟨h.tb.old k, h.bx.old k, h.k.trans k, h.hs, h.hp, h.ho⟩
theorem Near.end {w W : World} {B p s : Nat} {v : Value} {P : Int} {l : List S} {x : S} (h : Near w W B p s v P l x) {V : World} {v' : Value} (hv : Turned B v (insL l x) (W.alloc (.cells #[.int .i64 x.a, .int .i64 x.n, .int .i64 x.c] 115)) (.returned v') V) :
    (∀ i, V.frozen? ⟨p, i, none⟩ = false) ∧ V.cell? ⟨p, 0, none⟩ = some (.int .i64 P) ∧ V.cell? ⟨p, 1, none⟩ = some v ∧ Chg B p v P (insL l x) w (V.setCell ⟨p, 1, none⟩ v') := by
  obtain ⟨v'', e, O, k, ob⟩ := hv
  injection e with e
  subst e
  have ka := (Kept.refl Old W).alloc (.cells #[.int .i64 x.a, .int .i64 x.n, .int .i64 x.c] 115)
  have T := h.tb.old ka
  have hz : (W.alloc (.cells #[.int .i64 x.a, .int .i64 x.n, .int .i64 x.c] 115)).heap.size = W.heap.size + 1 := by simp
  have bx := T.box.kept k (fun e => T.ne e.symm)
  have hv' : v'.ownBlock ≠ some p := by
    rcases ob with e | e
    · rw [e]; exact T.ne
    · rw [e]; intro z; injection z with z; have := h.hp; have := h.hs; have := h.k.size; omega
  obtain ⟨V2, hV2, TV, kV, _⟩ := Tb.store (l := l) bx O hv' T.low
  refine ⟨bx.frozen, bx.cell 0, bx.cell 1, v', by rw [hV2]; exact TV, ?_, ob.imp id fun e => ⟨_, e, by have := h.k.size; omega⟩⟩
  rw [hV2]
  exact (h.k.trans ka).any.join (E := Own p v) ((k.mono fun i e => .inr e).trans (kV.mono fun i e => .inl e)) (fun i _ e => e)
/-- What is known behind the Insert. -/
def Put (B p : Nat) (v : Value) (P : Int) (L : List S) (w : World) (e : Ending) (V : World) : Prop := ∃ A m c, e = .returned (.slice A m c) ∧ (∀ i, V.frozen? ⟨p, i, none⟩ = false) ∧ V.cell? ⟨p, 0, none⟩ = some (.int .i64 P) ∧ V.cell? ⟨p, 1, none⟩ = some v ∧ Hid (Chg B p v P L w (V.setCell ⟨p, 1, none⟩ (.slice A m c)))
theorem ins_near {w W : World} {B p s : Nat} {v : Value} {P : Int} {l : List S} {x : S} (i : Nat) (h : Near w W B p s v P l x) (f : Fit x) (hB : B ≤ s) (hn : l.length ≤ 1000) (hi : placeL l x.a = i) :
    Calls Tryz.prog 196 #[v, .int .i64 (i : Int), .slice (some ⟨W.heap.size, 0, none⟩) 1 1] (W.alloc (.cells #[.int .i64 x.a, .int .i64 x.n, .int .i64 x.c] 115)) (Put B p v P (insL l x) w) := by
  have hle : i ≤ l.length := by have := place_le l x.a; omega
  have hk := h.k.size
  have hs := h.hs
  refine (ins_any B v l.length i l x f W.heap.size 1 _ (h.tb.own.alloc _) (BxS.new W x) (fun e => by have := h.ho _ e; have := h.hs; omega) hle hn (by simp; omega)).mono ?_
  intro e V hT
  obtain ⟨v', rfl, O, k, ob⟩ := hT
  have hT : Turned B v (insL l x) (W.alloc (.cells #[.int .i64 x.a, .int .i64 x.n, .int .i64 x.c] 115)) (.returned v') V := by
    unfold insL
    rw [hi]
    exact ⟨v', rfl, O, k, ob⟩
  obtain ⟨A, c, hv, _⟩ := O.rs
  obtain ⟨z1, z2, z3, z4⟩ := h.end hT
  rw [hv] at z4 ⊢
  exact ⟨A, _, c, rfl, z1, z2, z3, Lib.hid z4⟩
set_option maxHeartbeats 2000000 in
theorem add_end {B p : Nat} {v : Value} {P : Int} {l : List S} (x : S) (w : World) (h : Tb w B p v P l) (g : Good P l) (f : Fit x) (hP : 0 ≤ P ∧ P ≤ 256) (ok : Ok P x) (hB : B ≤ w.heap.size) (e0 : placeL l x.a = l.length) :
    Calls Tryz.prog 182 #[ptr p, spn x] w fun e w' => e = .returned (.int .i64 0) ∧ Chg B p v P (insL l x) w w' := by
  have k0 := Lib.hid ((Kept.refl Old w).alloc (.cells #[.int .i64 x.a, .int .i64 x.n, .int .i64 x.c] 115))
  have N0 : Near w (w.alloc (.cells #[.int .i64 x.a, .int .i64 x.n, .int .i64 x.c] 115)) B p w.heap.size v P l x := ⟨h.old k0.out, BxS.new w x, k0.out, rfl, h.box.lt, fun g hg => (h.own.own g hg.symm).2⟩
  have N0 := Lib.hid N0
  have HG := Lib.hid g
  have HF := Lib.hid f
  have li := Lib.hid (show liesBS x P = true from decide_eq_true ⟨ok.a0, ok.n1, ok.up⟩)
  have o1 : ¬ x.c < 0 := by have := ok.c0; omega
  have o2 : ¬ 8 ≤ x.c := by have := ok.c7; omega
  have hn := Lib.hid (show l.length ≤ 256 from by have := g.len hP.1; omega)
  have E0 := Lib.hid e0
  clear h g f ok k0 e0
  go_enter Tryz.func182, Tryz.ntmps182
  go_wp2_with fail
  refine (liesS_any x _ N0.out.tb HF.out hP).mono ?_
  rintro e2 W ⟨rfl, k1⟩
  rw [li.out]
  have N1 := Lib.hid (N0.out.old k1)
  have c0 := N1.out.bx.c0
  have c2 := N1.out.bx.c2
  clear k1 N0
  go_wp2_with fail
  refine (placeS_any x.a _ N1.out.tb HG.out hP).mono ?_
  rintro e2 W2 ⟨rfl, k2⟩
  rw [E0.out]
  have N2 := Lib.hid (N1.out.old k2)
  have T2 := N2.out.tb
  have c1 := T2.c1
  obtain ⟨A, c, rfl, r, _, _⟩ := T2.own.rs
  have d0 := N2.out.bx.c0
  have d1 := N2.out.bx.c1
  have d2 := N2.out.bx.c2
  have hn' := hn.out
  have gd : decide (l.length < l.length) = false := decide_eq_false (Nat.lt_irrefl _)
  have gd2 : decide ((l.length : Int) < (l.length : Int)) = false := decide_eq_false (Int.lt_irrefl _)
  clear N1 k2 T2 r hn li c0 c2 HG o1 o2
  go_wp2_with fail
  go_quiet (fail)
  go_wp2_with fail
  have N3 := Lib.hid (N2.out.old ((Kept.refl Old W2).drewN (nq + 1)))
  have hp2 := N2.out.tb.box.lt
  have hs2 := Blk.lt N2.out.bx
  have hpn : ¬ p = W2.heap.size := by omega
  have hpm : ¬ W2.heap.size = p := by omega
  have cA := fun o => (N3.out.tb.old ((Kept.refl Old _).alloc o)).c1
  go_region_with (go_at_call 196; refine (ins_near l.length N3.out HF.out hB (by omega) E0.out).mono ?_; rintro e V ⟨A', m, c', rfl, fz, p0, p1, E⟩)
  all_goals
    go_wp2
    go_ret
    exact ⟨rfl, E.out⟩
end Go.Proofs.YtcndilpaijapkaaGreat
/- What Table.Add answers where it adds ahead of another span. Own work; proved by a walk through the landed text. -/
namespace Go.Proofs.YtcndilpaijapkaaGreat
open Go.ChangeShapes Go.WideShapes Go.ChangeAt Go.RowKit
set_option maxRecDepth 100000

theorem ins_near_d {w W : World} {B p s : Nat} {v : Value} {P : Int} {l : List S} {x : S} (i : Nat) (h : Near w W B p s v P l x) (f : Fit x) (hB : B ≤ s) (hn : l.length ≤ 1000) (hi : placeL l x.a = i) :
    Calls Tryz.prog 196 #[v, .int .i64 (i : Int), .slice (some ⟨W.heap.size, 0, none⟩) 1 1] (W.alloc (.cells #[.int .i64 x.a, .int .i64 x.n, .int .i64 x.c] 115)).drew (Put B p v P (insL l x) w) :=
  ins_near i (h.old (Kept.refl Old W).drew) f hB hn hi
set_option maxHeartbeats 2000000 in
theorem add_mid {B p : Nat} {v : Value} {P : Int} {l : List S} (x : S) (w : World) (h : Tb w B p v P l) (g : Good P l) (f : Fit x) (hP : 0 ≤ P ∧ P ≤ 256) (ok : Ok P x) (hB : B ≤ w.heap.size) (hit : hitB l x = false) (y : S) (hy : l[placeL l x.a]? = some y) :
    Calls Tryz.prog 182 #[ptr p, spn x] w fun e w' => e = .returned (.int .i64 0) ∧ Chg B p v P (insL l x) w w' := by
  have k0 := Lib.hid ((Kept.refl Old w).alloc (.cells #[.int .i64 x.a, .int .i64 x.n, .int .i64 x.c] 115))
  have N0 : Near w (w.alloc (.cells #[.int .i64 x.a, .int .i64 x.n, .int .i64 x.c] 115)) B p w.heap.size v P l x := ⟨h.old k0.out, BxS.new w x, k0.out, rfl, h.box.lt, fun g hg => (h.own.own g hg.symm).2⟩
  have N0 := Lib.hid N0
  have HG := Lib.hid g
  have HF := Lib.hid f
  have HY := Lib.hid hy
  have li := Lib.hid (show liesBS x P = true from decide_eq_true ⟨ok.a0, ok.n1, ok.up⟩)
  have er := Lib.hid (show in64S (x.a + x.n) from ⟨by have := ok.a0; have := ok.n1; omega, by have := ok.up; omega⟩)
  have o1 : ¬ x.c < 0 := by have := ok.c0; omega
  have o2 : ¬ 8 ≤ x.c := by have := ok.c7; omega
  have h1 := hit_none hit hy
  have hn := Lib.hid (show l.length ≤ 256 from by have := g.len hP.1; omega)
  have hlt := Lib.hid (show placeL l x.a < l.length from (List.getElem?_eq_some_iff.1 hy).1)
  clear h g f ok k0 hit hy
  go_enter Tryz.func182, Tryz.ntmps182
  go_wp2_with fail
  refine (liesS_any x _ N0.out.tb HF.out hP).mono ?_
  rintro e2 W ⟨rfl, k1⟩
  rw [li.out]
  have N1 := Lib.hid (N0.out.old k1)
  have c0 := N1.out.bx.c0
  have c2 := N1.out.bx.c2
  clear k1 N0
  go_wp2_with fail
  refine (placeS_any x.a _ N1.out.tb HG.out hP).mono ?_
  rintro e2 W2 ⟨rfl, k2⟩
  have N2 := Lib.hid (N1.out.old k2)
  have T2 := N2.out.tb
  have c1 := T2.c1
  obtain ⟨A, c, rfl, r, _, _⟩ := T2.own.rs
  obtain ⟨gg, o, y', rfl, hgl, hy, f1, a0, a1, a2⟩ := r.get hlt.out
  have ey : y' = y := by rw [HY.out] at hy; exact (Option.some.inj hy).symm
  subst ey
  have d0 := N2.out.bx.c0
  have d1 := N2.out.bx.c1
  have d2 := N2.out.bx.c2
  have hlt' := hlt.out
  have hn' := hn.out
  have kw := Kept.refl Old W2
  obtain ⟨k, hk⟩ : ∃ k, placeL l x.a = k := ⟨_, rfl⟩
  rw [hk] at hlt' a0 a1 a2 ⊢
  have hk := Lib.hid hk
  have gd : decide ((k : Int) < (l.length : Int)) = true := decide_eq_true (by omega)
  have gy : decide (y'.a < x.a + x.n) = false := decide_eq_false (by omega)
  have P2 := Lib.hid (show ∀ W3, Kept Old W2 W3 → Near w W3 B p w.heap.size (.slice (some ⟨gg, o, none⟩) l.length c) P l x from fun W3 k => N2.out.old k)
  generalize w.heap.size = s at *
  clear N1 k2 T2 r hy HY hlt hn li c0 c2 HG N2 o1 o2 f1
  go_wp2_with fail
  go_region_held3 (fun w' => Kept Old W2 w' ∧ w'.cell? ⟨p, 1, none⟩ = some (.slice (some ⟨gg, o, none⟩) l.length c) ∧ w'.cell? ⟨gg, o + k * 3, none⟩ = some (.int .i64 y'.a) ∧ w'.cell? ⟨s, 0, none⟩ = some (.int .i64 x.a) ∧ w'.cell? ⟨s, 1, none⟩ = some (.int .i64 x.n) ∧ w'.cell? ⟨s, 2, none⟩ = some (.int .i64 x.c))
    (first
      | (exact ⟨‹_›, ‹_›, ‹_›, ‹_›, ‹_›, ‹_›⟩)
      | (exact ⟨Kept.drew ‹_›, ‹_›, ‹_›, ‹_›, ‹_›, ‹_›⟩)
      | (go_split_ands; exact ⟨Kept.trans ‹_› k1, cellS_on k1 ‹_›, cellS_on k1 ‹_›, cellS_on k1 ‹_›, cellS_on k1 ‹_›, cellS_on k1 ‹_›⟩)
      | go_keep)
    (first
      | (go_at_call 177; refine (endS_any x _ er.out).mono ?_; rintro e w' ⟨rfl, k1⟩))
  rename World => W3
  rename (Kept Old W2 W3 ∧ _) => hq
  have N3 := Lib.hid (P2.out W3 hq.1)
  have c1' := N3.out.tb.c1
  have d0' := N3.out.bx.c0
  have d1' := N3.out.bx.c1
  have d2' := N3.out.bx.c2
  clear hq a0 a1 a2 d0 d1 d2 c1 kw P2
  have hl9 : l.length ≤ 1000 := by omega
  have hp2 := N3.out.tb.box.lt
  have hs2 := Blk.lt N3.out.bx
  have hpn : ¬ p = W3.heap.size := by omega
  have hpm : ¬ W3.heap.size = p := by omega
  have cA := fun o => (N3.out.tb.old ((Kept.refl Old _).alloc o)).c1
  go_wp2_with fail
  go_region_with (go_at_call 196; refine (ins_near_d k N3.out HF.out hB hl9 hk.out).mono ?_; rintro e V ⟨A', m, c', rfl, fz, p0, p1, E⟩)
  all_goals
    go_wp2
    go_ret
    exact ⟨rfl, E.out⟩
/-- Add, where it may be added. -/
theorem add_ok {B p : Nat} {v : Value} {P : Int} {l : List S} (x : S) (w : World) (h : Tb w B p v P l) (g : Good P l) (f : Fit x) (hP : 0 ≤ P ∧ P ≤ 256) (ok : Ok P x) (hB : B ≤ w.heap.size) (hit : hitB l x = false) :
    Calls Tryz.prog 182 #[ptr p, spn x] w fun e w' => e = .returned (.int .i64 0) ∧ Chg B p v P (insL l x) w w' := by
  by_cases c : placeL l x.a = l.length
  · exact add_end x w h g f hP ok hB c
  · have hlt : placeL l x.a < l.length := by have := place_le l x.a; omega
    exact add_mid x w h g f hP ok hB hit _ (List.getElem?_eq_getElem hlt)
end Go.Proofs.YtcndilpaijapkaaGreat
/- A table among other blocks (StS), and each call of package span in one contract. Own work. -/
namespace Go.Proofs.YtcndilpaijapkaaGreat
open Go.ChangeShapes Go.WideShapes Go.ChangeAt Go.RowKit
set_option maxRecDepth 100000

/-- All but the blocks of F may turn. -/
abbrev Fr (F : Nat → Prop) (k : Nat) : Prop := ¬ F k
/-- A table at p, of P pages, whose spans are l; its blocks are new since w0, and none of F's; F's are there. -/
def StS (w0 W : World) (p : Nat) (P : Int) (l : List S) (F : Nat → Prop) : Prop := ∃ v, Tb W w0.heap.size p v P l ∧ Good P l ∧ (0 ≤ P ∧ P ≤ 256) ∧ Kept Old w0 W ∧ ∀ b, F b → b ≠ p ∧ v.ownBlock ≠ some b ∧ b < W.heap.size
theorem StS.good {w0 W : World} {p : Nat} {P : Int} {l : List S} {F : Nat → Prop} (h : StS w0 W p P l F) : Good P l := by obtain ⟨v, _, g, _⟩ := h; exact g
theorem StS.kept {w0 W : World} {p : Nat} {P : Int} {l : List S} {F : Nat → Prop} (h : StS w0 W p P l F) : Kept Old w0 W := by obtain ⟨v, _, _, _, k, _⟩ := h; exact k
theorem StS.len {w0 W : World} {p : Nat} {P : Int} {l : List S} {F : Nat → Prop} (h : StS w0 W p P l F) : l.length ≤ 256 := by
  obtain ⟨v, _, g, hP, _⟩ := h
  have := g.len hP.1
  omega
theorem StS.old {w0 W W' : World} {p : Nat} {P : Int} {l : List S} {F : Nat → Prop} (h : StS w0 W p P l F) (k : Kept Old W W') : StS w0 W' p P l F := by
  obtain ⟨v, T, g, hP, K, f⟩ := h
  exact ⟨v, T.old k, g, hP, K.trans k, fun b hb => ⟨(f b hb).1, (f b hb).2.1, Nat.lt_of_lt_of_le (f b hb).2.2 k.size⟩⟩
theorem StS.less {w0 W : World} {p : Nat} {P : Int} {l : List S} {F G : Nat → Prop} (h : StS w0 W p P l F) (k : ∀ b, G b → F b) : StS w0 W p P l G := by
  obtain ⟨v, T, g, hP, K, f⟩ := h
  exact ⟨v, T, g, hP, K, fun b hb => f b (k b hb)⟩
/-- Blocks that came since are none of the table's. -/
theorem StS.more {w0 W W' : World} {p : Nat} {P : Int} {l : List S} {F G : Nat → Prop} (h : StS w0 W p P l F) (k : Kept Old W W') (hG : ∀ b, G b → F b ∨ (W.heap.size ≤ b ∧ b < W'.heap.size)) : StS w0 W' p P l G := by
  have h' := h.old k
  obtain ⟨v, T, g, hP, K, f⟩ := h
  refine ⟨v, T.old k, g, hP, K.trans k, fun b hb => ?_⟩
  rcases hG b hb with e | ⟨e1, e2⟩
  · exact ⟨(f b e).1, (f b e).2.1, Nat.lt_of_lt_of_le (f b e).2.2 k.size⟩
  · exact ⟨fun e => by have := T.box.lt; omega, fun e => by have := (T.own.own b e.symm).2; omega, e2⟩
/-- What a call that may turn the table leaves. -/
theorem StS.turned {w0 W W' : World} {p : Nat} {P : Int} {l l' : List S} {F : Nat → Prop} {v : Value} (T : Tb W w0.heap.size p v P l) (hP : 0 ≤ P ∧ P ≤ 256) (K : Kept Old w0 W) (f : ∀ b, F b → b ≠ p ∧ v.ownBlock ≠ some b ∧ b < W.heap.size) (g' : Good P l') (h : Chg w0.heap.size p v P l' W W') : StS w0 W' p P l' F ∧ Kept (Fr F) W W' := by
  obtain ⟨v', T', k, ob⟩ := h
  refine ⟨⟨v', T', g', hP, ?_, fun b hb => ⟨(f b hb).1, ?_, Nat.lt_of_lt_of_le (f b hb).2.2 k.size⟩⟩, ?_⟩
  · exact K.join k (fun i hi e => by
      rcases e with e | e
      · have := T.low; omega
      · have := (T.own.own i e).1; omega)
  · rcases ob with e | ⟨g, e, hg⟩
    · rw [e]; exact (f b hb).2.1
    · rw [e]
      intro z
      injection z with z
      have := (f b hb).2.2
      omega
  · exact k.mono fun i e hF => by
      rcases e with e | e
      · exact (f i hF).1 e
      · exact (f i hF).2.1 e.symm
theorem st_new (w0 : World) (P : Int) (F : Nat → Prop) (W : World) (h : 1 ≤ P) (h' : P ≤ 256) (K : Kept Old w0 W) (hF : ∀ b, F b → b < W.heap.size) :
    Calls Tryz.prog 83 #[.int .i64 P] W fun e W' => ∃ p, e = .returned (ptr p) ∧ StS w0 W' p P [] F ∧ Kept Old W W' := by
  refine (new_yes w0.heap.size P W h h' K.size).mono ?_
  rintro e W' ⟨p, rfl, T, k, hp⟩
  exact ⟨p, rfl, ⟨_, T, Good.nil P, ⟨by omega, h'⟩, K.trans k, fun b hb => ⟨fun e => by have := hF b hb; omega, fun e => (by cases e), Nat.lt_of_lt_of_le (hF b hb) k.size⟩⟩, k⟩
/-- Add's code, and the list behind it. -/
def addC (P : Int) (l : List S) (x : S) : Int := if okB x P = true then (if hitB l x = true then 4 else 0) else 1
def addL (P : Int) (l : List S) (x : S) : List S := if okB x P = true then (if hitB l x = true then l else insL l x) else l
theorem Good.add {P : Int} {l : List S} (g : Good P l) (x : S) : Good P (addL P l x) := by
  unfold addL
  split
  · split
    · exact g
    · rename_i h1 h2
      exact g.ins (ok_of h1) (by simpa using h2)
  · exact g
theorem st_add {w0 W : World} {p : Nat} {P : Int} {l : List S} {F : Nat → Prop} (x : S) (h : StS w0 W p P l F) (f : Fit x) :
    Calls Tryz.prog 182 #[ptr p, spn x] W fun e W' => e = .returned (.int .i64 (addC P l x)) ∧ StS w0 W' p P (addL P l x) F ∧ Kept (Fr F) W W' := by
  have h0 := h
  obtain ⟨v, T, g, hP, K, hF⟩ := h
  unfold addC addL
  by_cases c : okB x P = true
  · rw [if_pos c, if_pos c]
    by_cases d : hitB l x = true
    · rw [if_pos d, if_pos d]
      refine (add_twice x W T g f hP (ok_of c) d).mono ?_
      rintro e W' ⟨rfl, k⟩
      exact ⟨rfl, h0.old k, k.any⟩
    · rw [if_neg d, if_neg d]
      have d' : hitB l x = false := by simpa using d
      refine (add_ok x W T g f hP (ok_of c) K.size d').mono ?_
      rintro e W' ⟨rfl, k⟩
      have := StS.turned T hP K hF (g.ins (ok_of c) d') k
      exact ⟨rfl, this.1, this.2⟩
  · rw [if_neg c, if_neg c]
    refine (add_arg x W T f hP (by simpa using c)).mono ?_
    rintro e W' ⟨rfl, k⟩
    exact ⟨rfl, h0.old k, k.any⟩
/-- Remove's answers. -/
def remX (l : List S) (q : Int) : S := match begL l q with | some x => x | none => noS
def remC (l : List S) (q : Int) : Int := match begL l q with | some _ => 0 | none => 2
def remL (l : List S) (q : Int) : List S := match begL l q with | some _ => delL l q | none => l
theorem Good.rem {P : Int} {l : List S} (g : Good P l) (q : Int) : Good P (remL l q) := by
  unfold remL
  split
  · exact g.del q
  · exact g
theorem st_rem {w0 W : World} {p : Nat} {P : Int} {l : List S} {F : Nat → Prop} (q : Int) (h : StS w0 W p P l F) :
    Calls Tryz.prog 121 #[ptr p, .int .i64 q] W fun e W' => e = .returned (.tuple #[spn (remX l q), .int .i64 (remC l q)]) ∧ StS w0 W' p P (remL l q) F ∧ Kept (Fr F) W W' := by
  have h0 := h
  obtain ⟨v, T, g, hP, K, hF⟩ := h
  unfold remX remC remL
  cases c : begL l q with
  | none =>
    refine (rem_no q W T g hP c).mono ?_
    rintro e W' ⟨rfl, k⟩
    exact ⟨rfl, h0.old k, k.any⟩
  | some x =>
    refine (rem_yes q x W T g hP c).mono ?_
    rintro e W' ⟨rfl, k⟩
    have := StS.turned T hP K hF (g.del q) k
    exact ⟨rfl, this.1, this.2⟩
/-- Of's answers. -/
def ofX (l : List S) (q : Int) : S := match ofL l q with | some x => x | none => noS
def ofB (l : List S) (q : Int) : Bool := match ofL l q with | some _ => true | none => false
theorem st_of {w0 W : World} {p : Nat} {P : Int} {l : List S} {F : Nat → Prop} (q : Int) (h : StS w0 W p P l F) :
    Calls Tryz.prog 143 #[ptr p, .int .i64 q] W fun e W' => e = .returned (.tuple #[spn (ofX l q), .bool (ofB l q)]) ∧ Kept Old W W' := by
  obtain ⟨v, T, g, hP, K, hF⟩ := h
  unfold ofX ofB
  cases c : ofL l q with
  | none => exact tof_no q W T g hP c
  | some x => exact tof_yes q x W T g hP c
/-- What stands in a block of F stays. -/
theorem BxS.fr {W W' : World} {F : Nat → Prop} {b : Nat} {x : S} (h : BxS W b x) (k : Kept (Fr F) W W') (hb : F b) : BxS W' b x := h.kept k (fun e => e hb)
theorem RsS.fr {W W' : World} {F : Nat → Prop} {A : Option Addr} {n : Nat} {l : List S} (h : RsS W A n l) (k : Kept (Fr F) W W') (hb : ∀ ad, A = some ad → F ad.block) : RsS W' A n l := h.kept k (fun ad e z => z (hb ad e))
/-- A store into a block of F that is new since w0. -/
theorem StS.only {w0 W W' : World} {p b : Nat} {P : Int} {l : List S} {F : Nat → Prop} (h : StS w0 W p P l F) (hb : F b) (h0 : w0.heap.size ≤ b) (k : Kept (Only b) W W') : StS w0 W' p P l F := by
  obtain ⟨v, T, g, hP, K, f⟩ := h
  refine ⟨v, T.kept k (fun e => (f b hb).1 (show p = b from e).symm) (fun g hg e => (f b hb).2.1 (by rw [hg, show g = b from e])), g, hP, K.join k (fun i hi e => by have : i = b := e; omega), fun c hc => ⟨(f c hc).1, (f c hc).2.1, Nat.lt_of_lt_of_le (f c hc).2.2 k.size⟩⟩
end Go.Proofs.YtcndilpaijapkaaGreat
/- How many pages spans have, and how many pages below one they contain. Own work; no program is walked here. -/
namespace Go.Proofs.YtcndilpaijapkaaGreat

def sumN : List S → Int
  | [] => 0
  | y :: t => y.n + sumN t
theorem sum_snoc {l : List S} {k : Nat} {x : S} (h : l[k]? = some x) : sumN (l.take (k + 1)) = sumN (l.take k) + x.n := by
  induction l generalizing k with
  | nil => cases h
  | cons y t ih =>
    cases k with
    | zero => simp only [List.getElem?_cons_zero, Option.some.injEq] at h; subst h; simp [sumN]
    | succ k =>
      have := ih (k := k) (by simpa using h)
      simp only [List.take_succ_cons, sumN] at this ⊢
      omega
theorem sum_from {P : Int} : ∀ (l : List S) (lo : Int), (∀ x ∈ l, Ok P x) → l.Pairwise Ahead → (∀ x ∈ l, lo ≤ x.a) → lo ≤ P → 0 ≤ sumN l ∧ sumN l ≤ P - lo
  | [], lo, _, _, _, h => by simp [sumN]; omega
  | x :: t, lo, h1, h2, h3, h4 => by
    obtain ⟨h5, h6⟩ := List.pairwise_cons.1 h2
    have o := h1 x (List.mem_cons_self ..)
    have b := h3 x (List.mem_cons_self ..)
    have := sum_from t (x.a + x.n) (fun y hy => h1 y (List.mem_cons_of_mem _ hy)) h6 h5 o.up
    have := o.n1
    simp only [sumN]
    omega
theorem Good.sum {P : Int} {l : List S} (h : Good P l) (hP : 0 ≤ P) : 0 ≤ sumN l ∧ sumN l ≤ P := by
  have := sum_from l 0 h.each h.row (fun x hx => (h.each x hx).a0) hP
  omega
/-- Pages below q of one span. -/
def cov1 (y : S) (q : Int) : Int := if q ≤ y.a then 0 else if q ≤ y.a + y.n then q - y.a else y.n
def covL : List S → Int → Int
  | [], _ => 0
  | y :: t, q => cov1 y q + covL t q
theorem cov1_step (y : S) (q : Int) (h : 1 ≤ y.n) : cov1 y (q + 1) = cov1 y q + (if y.a ≤ q ∧ q < y.a + y.n then 1 else 0) := by
  unfold cov1
  by_cases c : y.a ≤ q
  · by_cases d : q < y.a + y.n
    · rw [if_pos (show y.a ≤ q ∧ q < y.a + y.n from ⟨c, d⟩), if_neg (by omega), if_pos (by omega)]
      by_cases e : q ≤ y.a
      · rw [if_pos e]; omega
      · rw [if_neg e, if_pos (by omega)]; omega
    · rw [if_neg (show ¬ (y.a ≤ q ∧ q < y.a + y.n) from fun h => d h.2), if_neg (by omega), if_neg (by omega), if_neg (by omega)]
      by_cases e : q ≤ y.a + y.n
      · rw [if_pos e]; omega
      · rw [if_neg e]; omega
  · rw [if_neg (show ¬ (y.a ≤ q ∧ q < y.a + y.n) from fun h => c h.1), if_pos (by omega), if_pos (by omega)]
    omega
theorem cov1_bounds (y : S) (q : Int) (h : 1 ≤ y.n) : 0 ≤ cov1 y q ∧ cov1 y q ≤ y.n := by
  unfold cov1
  split
  · omega
  · split <;> omega
theorem cov_none (l : List S) (q : Int) (h1 : ∀ y ∈ l, 1 ≤ y.n) (h : ∀ y ∈ l, ¬ (y.a ≤ q ∧ q < y.a + y.n)) : covL l (q + 1) = covL l q := by
  induction l with
  | nil => rfl
  | cons y t ih =>
    have a := cov1_step y q (h1 y (List.mem_cons_self ..))
    rw [if_neg (h y (List.mem_cons_self ..))] at a
    have b := ih (fun z hz => h1 z (List.mem_cons_of_mem _ hz)) (fun z hz => h z (List.mem_cons_of_mem _ hz))
    simp only [covL]
    omega
theorem cov_some (l : List S) (q : Int) (h1 : ∀ y ∈ l, 1 ≤ y.n) (hp : l.Pairwise Ahead) (y : S) (hy : y ∈ l) (h : y.a ≤ q ∧ q < y.a + y.n) : covL l (q + 1) = covL l q + 1 := by
  induction l with
  | nil => cases hy
  | cons x t ih =>
    obtain ⟨h5, h6⟩ := List.pairwise_cons.1 hp
    have a := cov1_step x q (h1 x (List.mem_cons_self ..))
    simp only [covL]
    rcases List.mem_cons.1 hy with e | hy
    · subst e
      rw [if_pos h] at a
      have b := cov_none t q (fun z hz => h1 z (List.mem_cons_of_mem _ hz)) (fun z hz c => by have : y.a + y.n ≤ z.a := h5 z hz; omega)
      omega
    · have e : x.a + x.n ≤ y.a := h5 y hy
      rw [if_neg (fun c => by omega)] at a
      have b := ih (fun z hz => h1 z (List.mem_cons_of_mem _ hz)) h6 hy
      omega
theorem cov_step {P : Int} {l : List S} (g : Good P l) (q : Int) : covL l (q + 1) = covL l q + (if ofB l q = true then 1 else 0) := by
  have h1 : ∀ y ∈ l, 1 ≤ y.n := fun y hy => (g.each y hy).n1
  unfold ofB
  cases c : ofL l q with
  | none =>
    rw [cov_none l q h1 (fun y hy h => by
      obtain ⟨i, hi⟩ := List.mem_iff_getElem?.1 hy
      exact of_none g c i y hi h)]
    simp
  | some y =>
    obtain ⟨hy, hb⟩ := of_some c
    rw [cov_some l q h1 g.row y (List.mem_of_getElem? hy) hb]
    simp
theorem cov_zero {P : Int} {l : List S} (h : ∀ y ∈ l, Ok P y) : covL l 0 = 0 := by
  induction l with
  | nil => rfl
  | cons y t ih =>
    have := (h y (List.mem_cons_self ..)).a0
    simp only [covL, cov1]
    rw [if_pos this, ih (fun z hz => h z (List.mem_cons_of_mem _ hz))]
    rfl
theorem cov_all {P : Int} {l : List S} (h : ∀ y ∈ l, Ok P y) : covL l P = sumN l := by
  induction l with
  | nil => rfl
  | cons y t ih =>
    have o := h y (List.mem_cons_self ..)
    have := o.up
    have := o.n1
    simp only [covL, cov1, sumN]
    rw [if_neg (by omega), ih (fun z hz => h z (List.mem_cons_of_mem _ hz))]
    split <;> omega
theorem cov_bounds {P : Int} {l : List S} (h : ∀ y ∈ l, Ok P y) (q : Int) : 0 ≤ covL l q ∧ covL l q ≤ sumN l := by
  induction l with
  | nil => exact ⟨Int.le_refl _, Int.le_refl _⟩
  | cons y t ih =>
    have a := cov1_bounds y q (h y (List.mem_cons_self ..)).n1
    have b := ih (fun z hz => h z (List.mem_cons_of_mem _ hz))
    simp only [covL, sumN]
    omega
end Go.Proofs.YtcndilpaijapkaaGreat
/- A heap as plain data: free runs and spans of P pages, each page in one of them; what Alloc and Free make of them. Own work; no program is walked here. -/
namespace Go.Proofs.YtcndilpaijapkaaGreat

/-! ### The first run that is long enough -/
def fitAt : List R → Int → Option (Nat × R)
  | [], _ => none
  | y :: t, n => if n ≤ y.2 then some (0, y) else (fitAt t n).map fun p => (p.1 + 1, p.2)
theorem fit_at_some {l : List R} {n : Int} {i : Nat} {x : R} (h : fitAt l n = some (i, x)) : Fits l n i x := by
  induction l generalizing i with
  | nil => cases h
  | cons y t ih =>
    unfold fitAt at h
    by_cases c : n ≤ y.2
    · rw [if_pos c] at h
      injection h with h
      injection h with h1 h2
      subst h1
      subst h2
      exact ⟨rfl, c, by intro z hz; simp at hz⟩
    · rw [if_neg c] at h
      cases e : fitAt t n with
      | none => rw [e] at h; cases h
      | some p =>
        obtain ⟨j, z⟩ := p
        rw [e] at h
        simp only [Option.map_some, Option.some.injEq, Prod.mk.injEq] at h
        obtain ⟨rfl, rfl⟩ := h
        obtain ⟨a, b, d⟩ := ih e
        refine ⟨by simpa using a, b, ?_⟩
        intro u hu
        rw [List.take_succ_cons] at hu
        rcases List.mem_cons.1 hu with rfl | hu
        · omega
        · exact d u hu
theorem fit_at_none {l : List R} {n : Int} (h : fitAt l n = none) : fitB l n = false := by
  induction l with
  | nil => rfl
  | cons y t ih =>
    unfold fitAt at h
    by_cases c : n ≤ y.2
    · rw [if_pos c] at h; cases h
    · rw [if_neg c] at h
      have : fitAt t n = none := by
        cases e : fitAt t n with
        | none => rfl
        | some p => rw [e] at h; cases h
      have := ih this
      simp only [fitB, List.any_cons, decide_eq_false c, Bool.false_or] at this ⊢
      exact this

/-! ### Pages in spans -/
def inS (l : List S) (g : Int) : Prop := ∃ y ∈ l, y.a ≤ g ∧ g < y.a + y.n
theorem of_iff {P : Int} {l : List S} (h : Good P l) (g : Int) : ofB l g = true ↔ inS l g := by
  unfold ofB
  constructor
  · intro c
    cases e : ofL l g with
    | none => rw [e] at c; cases c
    | some y =>
      obtain ⟨a, b, d⟩ := of_some e
      exact ⟨y, List.mem_of_getElem? a, b, d⟩
  · rintro ⟨y, hy, b, d⟩
    obtain ⟨i, hi⟩ := List.mem_iff_getElem?.1 hy
    rw [of_at h hi b d]
theorem mem_ins {l : List S} {x y : S} : y ∈ insL l x ↔ y = x ∨ y ∈ l := by
  unfold insL
  rw [List.mem_append, List.mem_cons]
  conv => rhs; rw [← List.take_append_drop (placeL l x.a) l, List.mem_append]
  constructor
  · rintro (h | h | h)
    · exact .inr (.inl h)
    · exact .inl h
    · exact .inr (.inr h)
  · rintro (h | h | h)
    · exact .inr (.inl h)
    · exact .inl h
    · exact .inr (.inr h)
theorem in_ins {l : List S} {x : S} (g : Int) : inS (insL l x) g ↔ (x.a ≤ g ∧ g < x.a + x.n) ∨ inS l g := by
  unfold inS
  constructor
  · rintro ⟨y, hy, c⟩
    rcases mem_ins.1 hy with rfl | hy
    · exact .inl c
    · exact .inr ⟨y, hy, c⟩
  · rintro (c | ⟨y, hy, c⟩)
    · exact ⟨x, mem_ins.2 (.inl rfl), c⟩
    · exact ⟨y, mem_ins.2 (.inr hy), c⟩
theorem sum_append (a b : List S) : sumN (a ++ b) = sumN a + sumN b := by
  induction a with
  | nil => simp [sumN]
  | cons y t ih => simp only [List.cons_append, sumN, ih]; omega
theorem sum_ins (l : List S) (x : S) : sumN (insL l x) = sumN l + x.n := by
  unfold insL
  rw [sum_append, sumN]
  conv => rhs; rw [← List.take_append_drop (placeL l x.a) l, sum_append]
  omega
theorem splitS_at {l : List S} {k : Nat} {x : S} (h : l[k]? = some x) : l = l.take k ++ x :: l.drop (k + 1) := by
  obtain ⟨hk, rfl⟩ := List.getElem?_eq_some_iff.1 h
  rw [← List.drop_eq_getElem_cons hk, List.take_append_drop]
theorem sum_del {l : List S} {p : Int} {x : S} (h : ofL l p = some x) : sumN (delL l p) = sumN l - x.n := by
  have e := splitS_at (of_some h).1
  unfold delL
  rw [sum_append]
  have := congrArg sumN e
  rw [sum_append, sumN] at this
  omega
theorem in_del {P : Int} {l : List S} (G : Good P l) {p : Int} {x : S} (h : ofL l p = some x) (g : Int) : inS (delL l p) g ↔ inS l g ∧ ¬ (x.a ≤ g ∧ g < x.a + x.n) := by
  have hx := (of_some h).1
  have two := fun (i : Nat) (y : S) (hy : l[i]? = some y) => (fun c : i < placeL l p => G.two hy hx c)
  have two' := fun (i : Nat) (y : S) (hy : l[i]? = some y) => (fun c : placeL l p < i => G.two hx hy c)
  unfold inS
  constructor
  · rintro ⟨y, hy, c⟩
    rcases List.mem_append.1 hy with hy | hy
    · obtain ⟨j, hj, e⟩ := mem_take_at hy
      refine ⟨⟨y, List.mem_of_getElem? e, c⟩, fun d => ?_⟩
      have := two j y e hj
      omega
    · obtain ⟨j, hj, e⟩ := mem_drop_at hy
      refine ⟨⟨y, List.mem_of_getElem? e, c⟩, fun d => ?_⟩
      have := two' j y e (by omega)
      omega
  · rintro ⟨⟨y, hy, c⟩, d⟩
    rw [splitS_at hx] at hy
    rcases List.mem_append.1 hy with hy | hy
    · exact ⟨y, List.mem_append.2 (.inl hy), c⟩
    · rcases List.mem_cons.1 hy with rfl | hy
      · exact absurd c d
      · exact ⟨y, List.mem_append.2 (.inr hy), c⟩
theorem total_front (a n : Int) (t : List R) : totalL (front a n t) = n + totalL t := by
  cases t with
  | nil => simp [front, totalL]
  | cons y t =>
    rw [front_cons]
    split
    · simp only [totalL, List.map_cons, List.sum_cons]; omega
    · simp only [totalL, List.map_cons, List.sum_cons]
theorem total_put (l : List R) (a n : Int) : totalL (putL l a n) = totalL l + n := by
  induction l with
  | nil => simp [putL, totalL]
  | cons x t ih =>
    unfold putL
    split
    · simp only [totalL, List.map_cons, List.sum_cons] at ih ⊢; omega
    · split
      · rw [total_front]; simp only [totalL, List.map_cons, List.sum_cons]; omega
      · rw [total_front]; omega
theorem has_iff {l : List R} {g : Int} : hasB l g = true ↔ ∃ x ∈ l, x.1 ≤ g ∧ g < x.1 + x.2 := by
  simp only [hasB, List.any_eq_true, inR, decide_eq_true_eq]

/-! ### Each page is in one of both -/
structure Whole (P : Int) (rl : List R) (sl : List S) : Prop where
  pages : 1 ≤ P ∧ P ≤ 256
  right : Right P 0 rl
  good : Good P sl
  one : ∀ g, 0 ≤ g → g < P → (hasB rl g = true ↔ ¬ inS sl g)
  sum : totalL rl + sumN sl = P
theorem Whole.wide {P : Int} {rl : List R} {sl : List S} (h : Whole P rl sl) : Right 256 0 rl := h.right.wide h.pages.2
theorem Whole.len {P : Int} {rl : List R} {sl : List S} (h : Whole P rl sl) : rl.length ≤ 257 ∧ sl.length ≤ 256 := by
  have := h.wide.len (by omega)
  have := h.good.len (by have := h.pages; omega)
  have := h.pages
  omega
theorem Whole.new {P : Int} (h1 : 1 ≤ P) (h2 : P ≤ 256) : Whole P [(0, P)] [] := by
  refine ⟨⟨h1, h2⟩, ⟨Int.le_refl _, h1, by show 0 + P ≤ P; omega, Int.le_refl _, trivial⟩, Good.nil P, fun g a b => ⟨fun _ => ?_, fun _ => ?_⟩, by simp [totalL, sumN]⟩
  · rintro ⟨y, hy, _⟩
    cases hy
  · have c1 : (0 : Int) ≤ g := a
    have c2 : g < 0 + P := by omega
    exact has_iff.2 ⟨(0, P), List.mem_singleton.2 rfl, c1, c2⟩
/-- No page of a run is in a span. -/
theorem Whole.apart {P : Int} {rl : List R} {sl : List S} (h : Whole P rl sl) {x : R} (hx : x ∈ rl) {y : S} (hy : y ∈ sl) : x.1 + x.2 ≤ y.a ∨ y.a + y.n ≤ x.1 := by
  have a := h.right.mem hx
  have b := h.good.each y hy
  have b0 := b.a0
  have b1 := b.n1
  have b2 := b.up
  apply Classical.byContradiction
  intro c
  have k : ∃ g, x.1 ≤ g ∧ g < x.1 + x.2 ∧ y.a ≤ g ∧ g < y.a + y.n := by
    rcases Int.le_total x.1 y.a with d | d
    · exact ⟨y.a, by omega, by omega, by omega, by omega⟩
    · exact ⟨x.1, by omega, by omega, by omega, by omega⟩
  obtain ⟨g, g1, g2, g3, g4⟩ := k
  exact (h.one g (by omega) (by omega)).1 (has_iff.2 ⟨x, hx, g1, g2⟩) ⟨y, hy, g3, g4⟩
theorem Whole.alloc {P : Int} {rl : List R} {sl : List S} (h : Whole P rl sl) {n cl : Int} {i : Nat} {x : R} (f : Fits rl n i x) (hn : 1 ≤ n) (c0 : 0 ≤ cl) (c7 : cl < 8) :
    okB ⟨x.1, n, cl⟩ P = true ∧ hitB sl ⟨x.1, n, cl⟩ = false ∧ Whole P (takeL rl n i x) (insL sl ⟨x.1, n, cl⟩) := by
  have hx := List.mem_of_getElem? f.at_
  have a := h.right.mem hx
  have b := f.big
  have ok : Ok P ⟨x.1, n, cl⟩ := ⟨by show 0 ≤ x.1; omega, hn, by show x.1 + n ≤ P; omega, c0, c7⟩
  have hit : hitB sl ⟨x.1, n, cl⟩ = false := by
    cases e : hitB sl ⟨x.1, n, cl⟩ with
    | false => rfl
    | true =>
      obtain ⟨y, hy, e1, e2⟩ := hit_some e
      have := h.apart hx (List.mem_of_getElem? hy)
      simp only at e1 e2
      omega
  refine ⟨of_ok ok, hit, h.pages, right_take h.right f hn, h.good.ins ok hit, fun g g0 g1 => ?_, ?_⟩
  · rw [has_take h.right f hn, in_ins]
    have o := h.one g g0 g1
    show _ ↔ ¬ ((x.1 ≤ g ∧ g < x.1 + n) ∨ inS sl g)
    by_cases d : x.1 ≤ g ∧ g < x.1 + n
    · rw [decide_eq_true d]; simp [d]
    · rw [decide_eq_false d, Bool.not_false, Bool.and_true, o]
      constructor
      · rintro k (m | m)
        · exact d m
        · exact k m
      · exact fun k m => k (.inr m)
  · rw [total_take f, sum_ins]
    have := h.sum
    show totalL rl - n + (sumN sl + n) = P
    omega
theorem Whole.free {P : Int} {rl : List R} {sl : List S} (h : Whole P rl sl) {q : Int} {s : S} (hs : begL sl q = some s) :
    Ok P s ∧ freeB rl s.a s.n = true ∧ Whole P (putL rl s.a s.n) (delL sl q) := by
  obtain ⟨ho, hq⟩ := beg_some hs
  have hm := List.mem_of_getElem? (of_some ho).1
  have ok := h.good.each s hm
  have fr : freeB rl s.a s.n = true := free_of fun x hx => h.apart hx hm
  refine ⟨ok, fr, h.pages, right_put h.right ok.a0 ok.a0 ok.n1 ok.up (free_mem fr), h.good.del q, fun g g0 g1 => ?_, ?_⟩
  · rw [has_put h.right ok.n1, in_del h.good ho]
    have o := h.one g g0 g1
    by_cases d : s.a ≤ g ∧ g < s.a + s.n
    · rw [decide_eq_true d]; simp [d]
    · rw [decide_eq_false d, Bool.or_false, o]
      exact ⟨fun k m => k m.1, fun k m => k ⟨m, d⟩⟩
  · rw [total_put, sum_del ho]
    have := h.sum
    omega
theorem total_first {p f : Int} {x : R} {t : List R} (h : Right p f (x :: t)) : totalL (x :: t) + x.1 ≤ p := by
  obtain ⟨a, b, c, d, e⟩ := h
  have := total_le e (by omega)
  simp only [totalL, List.map_cons, List.sum_cons] at this ⊢
  omega
/-- Where no page is in a span there is one run. -/
theorem Whole.back {P : Int} {rl : List R} (h : Whole P rl []) : rl = [(0, P)] := by
  have s := h.sum
  have r := h.right
  have p := h.pages
  simp only [sumN, Int.add_zero] at s
  cases rl with
  | nil => simp only [totalL, List.map_nil, List.sum_nil] at s; omega
  | cons x t =>
    have f := total_first r
    obtain ⟨a, b, c, d, e⟩ := r
    cases t with
    | nil =>
      simp only [totalL, List.map_cons, List.map_nil, List.sum_cons, List.sum_nil] at s
      obtain ⟨x1, x2⟩ := x
      simp only at *
      obtain rfl : x1 = 0 := by omega
      obtain rfl : x2 = P := by omega
      rfl
    | cons y u =>
      have g := total_first e
      have hy := e.2.2.2.1
      have : totalL (x :: y :: u) = x.2 + totalL (y :: u) := by simp only [totalL, List.map_cons, List.sum_cons]
      omega

/-! ### Alloc and Free -/
structure AnsA where
  x : Int
  e : Int
  rl : List R
  sl : List S
def allocA (rl : List R) (sl : List S) (n cl : Int) : AnsA :=
  if 0 ≤ cl ∧ cl < 8 ∧ 1 ≤ n then match fitAt rl n with
    | some (i, x) => ⟨x.1, 0, takeL rl n i x, insL sl ⟨x.1, n, cl⟩⟩
    | none => ⟨0, 3, rl, sl⟩
  else ⟨0, 1, rl, sl⟩
structure AnsF where
  x : S
  e : Int
  rl : List R
  sl : List S
def freeA (rl : List R) (sl : List S) (q : Int) : AnsF := match begL sl q with
  | some s => ⟨s, 0, putL rl s.a s.n, delL sl q⟩
  | none => ⟨noS, 2, rl, sl⟩
theorem Whole.allocA {P : Int} {rl : List R} {sl : List S} (h : Whole P rl sl) (n cl : Int) : Whole P (allocA rl sl n cl).rl (allocA rl sl n cl).sl := by
  unfold Go.Proofs.YtcndilpaijapkaaGreat.allocA
  split
  · rename_i c
    split
    · rename_i i x e
      exact (h.alloc (fit_at_some e) c.2.2 c.1 c.2.1).2.2
    · exact h
  · exact h
theorem Whole.freeA {P : Int} {rl : List R} {sl : List S} (h : Whole P rl sl) (q : Int) : Whole P (freeA rl sl q).rl (freeA rl sl q).sl := by
  unfold Go.Proofs.YtcndilpaijapkaaGreat.freeA
  split
  · rename_i s e
    exact (h.free e).2.2
  · exact h
end Go.Proofs.YtcndilpaijapkaaGreat
