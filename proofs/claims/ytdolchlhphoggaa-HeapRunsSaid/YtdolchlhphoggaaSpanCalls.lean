/-
  What the functions of package span answer, of a table whose spans are known (Tb). Own work; each is proved by a walk through the landed text.
-/
import Derived.Test.YtdolchlhphoggaaRows
import Derived.Test.YtdolchlhphoggaaSpanMem
import Derived.Test.YtdolchlhphoggaaSpanCopy
import Derived.Test.YtdolchlhphoggaaSpanDel
import Derived.WalkKit
import Derived.ProofKit
import Derived.OpenShut
import Derived.Outline
import Derived.Deep.Light
import Derived.Deep.QuietTactic
import Derived.BigQuiet
import Derived.IntWalk
import Derived.StillTailTactics
import Derived.RegionTactic
import Derived.Deep.RegionLaw
import Derived.ChangeAlike
import Derived.Deep.RegionHeld3
namespace Go.Proofs.Ytdolchlhphoggaa
open Go.ChangeShapes Go.WideShapes Go.ChangeAt Go.RowKit
set_option maxRecDepth 100000

abbrev ptr (p : Nat) : Value := .pointer (some ⟨p, 0, none⟩)
/-- At p lies a table of P pages whose spans are those of l; v is its slice; its blocks are from B on. -/
structure Tb (w : World) (B p : Nat) (v : Value) (P : Int) (l : List S) : Prop where
  box : Blk w p 85 [.int .i64 P, v]
  own : OwS w B v l.length l
  low : B ≤ p
theorem Tb.c0 {w : World} {B p : Nat} {v : Value} {P : Int} {l : List S} (h : Tb w B p v P l) : w.cell? ⟨p, 0, none⟩ = some (.int .i64 P) := h.box.cell 0
theorem Tb.c1 {w : World} {B p : Nat} {v : Value} {P : Int} {l : List S} (h : Tb w B p v P l) : w.cell? ⟨p, 1, none⟩ = some v := h.box.cell 1
theorem Tb.kept {D : Nat → Prop} {w w' : World} {B p : Nat} {v : Value} {P : Int} {l : List S} (h : Tb w B p v P l) (k : Kept D w w') (hp : ¬ D p) (hg : ∀ g, v.ownBlock = some g → ¬ D g) : Tb w' B p v P l := ⟨h.box.kept k hp, h.own.kept k hg, h.low⟩
theorem Tb.old {w w' : World} {B p : Nat} {v : Value} {P : Int} {l : List S} (h : Tb w B p v P l) (k : Kept Old w w') : Tb w' B p v P l := h.kept k (fun x => x) (fun _ _ x => x)
theorem Tb.ne {w : World} {B p : Nat} {v : Value} {P : Int} {l : List S} (h : Tb w B p v P l) : v.ownBlock ≠ some p := by
  intro e
  rcases h.own.blk with ⟨rfl, _⟩ | ⟨g, c, r, rfl, _, b, _⟩
  · cases e
  · have : g = p := by simpa [Value.ownBlock] using e
    subst this
    exact h.box.ne b (by decide) rfl
theorem endS_any (x : S) (w : World) (h : in64S (x.a + x.n)) : Calls Try.prog 44 #[spn x] w fun e w' => e = .returned (.int .i64 (x.a + x.n)) ∧ Kept Old w w' := by
  obtain ⟨h1, h2⟩ := h
  go_enter Try.func44, Try.ntmps44
  go_wp2
  go_ret
  exact ⟨rfl, (Kept.refl _ _).alloc _⟩
theorem len_nil (w : World) : Calls Try.prog 49 #[.pointer none] w fun e w' => e = .returned (.int .i64 0) ∧ w = w' := by
  go_enter Try.func49, Try.ntmps49
  go_wp2
  go_ret
  exact ⟨rfl, rfl⟩
theorem len_any {B p : Nat} {v : Value} {P : Int} {l : List S} (w : World) (h : Tb w B p v P l) : Calls Try.prog 49 #[ptr p] w fun e w' => e = .returned (.int .i64 (l.length : Int)) ∧ w = w' := by
  have c1 := h.c1
  obtain ⟨A, c, rfl, _, _, _⟩ := h.own.rs
  clear h
  go_enter Try.func49, Try.ntmps49
  go_wp2
  go_ret
  exact ⟨rfl, rfl⟩
theorem new_no (n : Int) (w : World) (h : n < 1 ∨ 256 < n) : Calls Try.prog 27 #[.int .i64 n] w fun e w' => e = .returned (.pointer none) ∧ w = w' := by
  rcases h with h | h
  · go_enter Try.func27, Try.ntmps27
    go_wp2
    go_ret
    exact ⟨rfl, rfl⟩
  · have h' : ¬ n < 1 := by omega
    go_enter Try.func27, Try.ntmps27
    go_wp2
    go_ret
    exact ⟨rfl, rfl⟩
/-- A new table. -/
def NewPost (B : Nat) (P : Int) (w : World) (e : Ending) (w' : World) : Prop := ∃ p, e = .returned (ptr p) ∧ Tb w' B p (.slice none 0 0) P [] ∧ Kept Old w w' ∧ w.heap.size ≤ p
theorem new_yes (B : Nat) (P : Int) (w : World) (h : 1 ≤ P) (h' : P ≤ 256) (hB : B ≤ w.heap.size) : Calls Try.prog 27 #[.int .i64 P] w (NewPost B P w) := by
  have Q : NewPost B P w (.returned (ptr w.heap.size)) (w.alloc (.cells #[.int .i64 P, .slice none 0 0] 85)) :=
    ⟨w.heap.size, rfl, ⟨Blk.new w _ _, OwS.nil _ _, hB⟩, (Kept.refl _ _).alloc _, Nat.le_refl _⟩
  have Q := Lib.hid Q
  go_enter Try.func27, Try.ntmps27
  go_wp2
  go_ret
  exact Q.out
/-- Does x lie in P pages? -/
def liesBS (x : S) (P : Int) : Bool := decide (0 ≤ x.a ∧ 1 ≤ x.n ∧ x.a + x.n ≤ P)
theorem liesS_cases (x : S) (p : Int) : (¬ 0 ≤ x.a ∧ liesBS x p = false ∧ True) ∨ (0 ≤ x.a ∧ liesBS x p = false ∧ ¬ 1 ≤ x.n) ∨ (0 ≤ x.a ∧ liesBS x p = false ∧ 1 ≤ x.n ∧ ¬ x.a ≤ p - x.n) ∨ (0 ≤ x.a ∧ liesBS x p = true ∧ 1 ≤ x.n ∧ x.a ≤ p - x.n) := by
  unfold liesBS
  simp only [decide_eq_false_iff_not, decide_eq_true_eq, and_true]
  omega
theorem liesS_any {B p : Nat} {v : Value} {P : Int} {l : List S} (x : S) (w : World) (h : Tb w B p v P l) (f : Fit x) (hp : 0 ≤ P ∧ P ≤ 256) : Calls Try.prog 43 #[ptr p, spn x] w fun e w' => e = .returned (.bool (liesBS x P)) ∧ Kept Old w w' := by
  obtain ⟨_, ⟨h1, h2⟩, _⟩ := f
  obtain ⟨p1, p2⟩ := hp
  have c0 := h.c0
  have hl := h.box.lt
  clear h
  rcases liesS_cases x P with ⟨c, e, _⟩ | ⟨c, e, d⟩ | ⟨c, e, d, f⟩ | ⟨c, e, d, f⟩
  · have c' : decide (0 ≤ x.a) = false := decide_eq_false c
    rw [e]
    clear e c
    go_enter Try.func43, Try.ntmps43
    go_wp2_with fail
    go_quiet (fail)
    go_wp2
    go_ret
    exact ⟨rfl, ((Kept.refl _ _).alloc _).drewN _⟩
  · have c' : decide (0 ≤ x.a) = true := decide_eq_true c
    have d' : decide (1 ≤ x.n) = false := decide_eq_false d
    rw [e]
    clear e c d
    go_enter Try.func43, Try.ntmps43
    go_wp2_with fail
    go_quiet (fail)
    go_wp2
    go_ret
    exact ⟨rfl, ((Kept.refl _ _).alloc _).drewN _⟩
  · have c' : decide (0 ≤ x.a) = true := decide_eq_true c
    have d' : decide (1 ≤ x.n) = true := decide_eq_true d
    have f' : decide (x.a ≤ P - x.n) = false := decide_eq_false f
    have wr : IntKind.i64.wrap (P - x.n) = P - x.n := IntWalk.i64_in _ (by omega)
    rw [e]
    clear e c d f
    go_enter Try.func43, Try.ntmps43
    go_wp2_with fail
    go_quiet (fail)
    go_wp2
    go_ret
    exact ⟨rfl, ((Kept.refl _ _).alloc _).drewN _⟩
  · have c' : decide (0 ≤ x.a) = true := decide_eq_true c
    have d' : decide (1 ≤ x.n) = true := decide_eq_true d
    have f' : decide (x.a ≤ P - x.n) = true := decide_eq_true f
    have wr : IntKind.i64.wrap (P - x.n) = P - x.n := IntWalk.i64_in _ (by omega)
    rw [e]
    clear e c d f
    go_enter Try.func43, Try.ntmps43
    go_wp2_with fail
    go_quiet (fail)
    go_wp2
    go_ret
    exact ⟨rfl, ((Kept.refl _ _).alloc _).drewN _⟩
theorem placeS_any {B p : Nat} {v : Value} {P : Int} {l : List S} (q : Int) (w : World) (h : Tb w B p v P l) (g : Good P l) (hP : 0 ≤ P ∧ P ≤ 256) :
    Calls Try.prog 42 #[ptr p, .int .i64 q] w fun e w' => e = .returned (.int .i64 (placeL l q : Int)) ∧ Kept Old w w' := by
  have hn : l.length ≤ 256 := by have := g.len hP.1; omega
  have HT := Lib.hid h
  have HG := Lib.hid g
  obtain ⟨A, c, rfl, r, _, _⟩ := h.own.rs
  have HR := Lib.hid r
  have c1 := h.c1
  generalize hln : l.length = n at *
  obtain ⟨p1, p2⟩ := hP
  clear h g r
  go_enter Try.func42, Try.ntmps42
  go_wp2
  go_loopw [12] (fun i wr => ∃ k : Nat, k ≤ n ∧ i = .int .i64 (k : Int) ∧ Hid (k ≤ placeL l q) ∧ Hid (Kept Old w wr)) (fun i _ => n - (intOf i).toNat)
  case atStart => exact ⟨0, by omega, rfl, Lib.hid (Nat.zero_le _), Lib.hid (Kept.refl _ _)⟩
  case round =>
    obtain ⟨k, hk, rfl, HB, K⟩ := hrel
    rename World => W
    have d1 := (HT.out.old K.out).c1
    by_cases c : k < n
    · obtain ⟨g, o, x, rfl, _, hx, f1, a0, a1, a2⟩ := (HR.out.old K.out).get c
      obtain ⟨b1, b2, b3, b4, b5⟩ := HG.out.at hx
      have ei := Lib.hid (⟨by omega, by omega⟩ : in64S (x.a + x.n))
      have hx := Lib.hid hx
      clear c1 f1
      by_cases d : x.a + x.n ≤ q
      · have hs := Lib.hid (show k + 1 ≤ placeL l q from by
          rcases Nat.lt_or_ge k (placeL l q) with z | z
          · exact z
          · have e : k = placeL l q := by have := HB.out; omega
            have hx' := hx.out
            rw [e] at hx'
            have := place_hi l q hx'
            omega)
        go_wp2_with fail
        refine (endS_any x _ ei.out).mono ?_
        rintro e w' ⟨rfl, k1⟩
        go_wp2
        refine ⟨⟨k + 1, by omega, by go_num, hs, Lib.hid ((K.out.alloc _).trans k1)⟩, ?_⟩
        simp [intOf]; omega
      · have e := Lib.hid (show k = placeL l q from by
          rcases Nat.lt_or_ge k (placeL l q) with z | z
          · have := place_lo l q hx.out z
            omega
          · have := HB.out
            omega)
        go_wp2_with fail
        refine (endS_any x _ ei.out).mono ?_
        rintro e2 w' ⟨rfl, k1⟩
        go_wp2
        go_ret
        exact ⟨by rw [← e.out]; rfl, (K.out.alloc _).trans k1⟩
    · have e := Lib.hid (show placeL l q = n from by have := place_le l q; have := HB.out; omega)
      go_wp2
      go_ret
      exact ⟨by rw [e.out]; rfl, K.out⟩
/-- List: new memory. -/
def ListPost (l : List S) (w : World) (e : Ending) (w' : World) : Prop := ∃ A c, e = .returned (.slice A l.length c) ∧ RsS w' A l.length l ∧ Kept Old w w' ∧ (∀ ad, A = some ad → w.heap.size ≤ ad.block) ∧ (∃ g cs, A = some ⟨g, 0, none⟩ ∧ Blk w' g 44 cs ∧ l.length ≤ c)
theorem make_span (n : Nat) (h : n ≤ 3000) (w : World) : ∃ cs : List Value, cs.length = n * 3 ∧ (Instr.makeSlice 31 (.int .i64 (n : Int)) (.int .i64 (n : Int))).run Try.prog w = .ok (.slice (some ⟨w.heap.size, 0, none⟩) n n) (w.alloc (.cells cs.toArray 44)) := by
  obtain ⟨i0, hi, hz0, hz1, hz2⟩ := info_parts Try.spanInfo
  have hr := run_make (P := Try.prog) w 31 44 i0 _ Try.underlying31 hi hz0 .i64 .i64 n n (by omega) (Int.le_refl _) (by rw [hz2]; omega) (by omega)
  simp only [Int.toNat_natCast, hz1] at hr
  exact ⟨(madeCells (Value.agg #[.int .i64 0, .int .i64 0, .int .i64 0]).cells (n * 3)).toList, by rw [Array.length_toList, size_madeCells], by rw [Array.toArray_toList]; exact hr⟩
theorem list_nil (w : World) : Calls Try.prog 37 #[.pointer none] w (ListPost [] w) := by
  obtain ⟨cs, hcs, hm⟩ := make_span 0 (by omega) w
  have Q : ListPost [] w (.returned (.slice (some ⟨w.heap.size, 0, none⟩) 0 0)) (w.alloc (.cells cs.toArray 44)) := ⟨_, _, rfl, RsS.nil _ _, (Kept.refl _ _).alloc _, fun ad e => by injection e with e; subst e; exact Nat.le_refl _, _, cs, rfl, Blk.new _ _ _, Nat.le_refl _⟩
  have Q := Lib.hid Q
  have hm : (Instr.makeSlice 31 (.int .i64 0) (.int .i64 0)).run Try.prog w = .ok (.slice (some ⟨w.heap.size, 0, none⟩) 0 0) (w.alloc (.cells cs.toArray 44)) := hm
  clear hcs
  go_enter Try.func37, Try.ntmps37
  go_wp2_with fail
  refine (len_nil _).mono ?_
  rintro e w' ⟨rfl, rfl⟩
  go_wp2
  go_ret
  exact Q.out
set_option maxHeartbeats 1000000 in
theorem list_any {B p : Nat} {v : Value} {P : Int} {l : List S} (w : World) (h : Tb w B p v P l) (hn : l.length ≤ 1000) : Calls Try.prog 37 #[ptr p] w (ListPost l w) := by
  obtain ⟨cs, hcs, hm⟩ := make_span l.length (by omega) w
  have HT := Lib.hid h
  have k0 : Kept Old w (w.alloc (.cells cs.toArray 44)) := (Kept.refl _ _).alloc _
  have c1 := (h.old k0).c1
  obtain ⟨A, c, rfl, r, hc, hA⟩ := h.own.rs
  have b0 := Lib.hid (Blk.new w 44 cs)
  have r1 := Lib.hid (r.old k0)
  have k0 := Lib.hid k0
  obtain ⟨W, hW⟩ : ∃ W, W = w.alloc (.cells cs.toArray 44) := ⟨_, rfl⟩
  rw [← hW] at hm c1 b0 r1 k0
  have HT1 := Lib.hid (HT.out.old k0.out)
  have hs : W.heap.size = w.heap.size + 1 := by rw [hW]; simp
  clear hW h r
  have E : ∀ w', Hid (Blk w' w.heap.size 44 (CS l)) → Hid (Kept (Only w.heap.size) W w') → ListPost l w (.returned (.slice (some ⟨w.heap.size, 0, none⟩) l.length l.length)) w' := fun w' b k => by
    have o : OwS w' 0 (.slice (some ⟨w.heap.size, 0, none⟩) l.length l.length) l.length l := OwS.ofBlk (r := []) (Nat.zero_le _) (by simpa using b.out) rfl (by simp) (Nat.le_refl _) (by simp only [maxLen]; omega) HT.out.own.fit
    obtain ⟨A', c', e, r, _⟩ := o.rs
    injection e with e1 e2 e3
    subst e1
    subst e3
    exact ⟨_, _, rfl, r, k0.out.join k.out (fun i hi e => by have : i = w.heap.size := e; omega), fun ad e => by injection e with e; subst e; exact Nat.le_refl _, _, _, rfl, b.out, Nat.le_refl _⟩
  have E := Lib.hid E
  by_cases hl : l.length = 0
  · have e0 : l = [] := List.eq_nil_of_length_eq_zero hl
    subst e0
    have cl : cs = [] := List.eq_nil_of_length_eq_zero (by simpa using hcs)
    subst cl
    have E := Lib.hid (E.out W b0 (Lib.hid (Kept.refl _ _)))
    have hm : (Instr.makeSlice 31 (.int .i64 0) (.int .i64 0)).run Try.prog w = .ok (.slice (some ⟨w.heap.size, 0, none⟩) 0 0) W := hm
    have c1 : W.cell? ⟨p, 1, none⟩ = some (.slice A 0 c) := c1
    have cz := copy_own0 W 0 c (some ⟨w.heap.size, 0, none⟩) A 0 0 rfl
    clear hcs b0 r1
    go_enter Try.func37, Try.ntmps37
    go_wp2_with fail
    refine (len_any _ HT.out).mono ?_
    rintro e w' ⟨rfl, rfl⟩
    go_wp2
    go_ret
    exact E.out
  · obtain ⟨g, o, rfl, _⟩ := r1.out.lies (by omega)
    have f1 := Lib.hid (show 0 + (CS l).length ≤ cs.length from by rw [CS_length]; omega)
    have f2 := Lib.hid (show (CS l).length = l.length * 3 from CS_length l)
    have o1 : over cs 0 (CS l) = CS l := by
      unfold over
      rw [List.drop_eq_nil_of_le (by rw [CS_length]; omega)]
      simp
    have o1 := Lib.hid o1
    have s1 := Lib.hid r1.out.cells
    have c2 := Lib.hid (CS_one l)
    have hcs := Lib.hid hcs
    have r1' := Lib.hid r1
    clear r1
    go_enter Try.func37, Try.ntmps37
    go_wp2_with fail
    refine (len_any _ HT.out).mono ?_
    rintro e w' ⟨rfl, rfl⟩
    go_wp2_with (refine cp_wp (cs := CS l) rfl (.tmp 9) (.tmp 13) rfl rfl 0 l.length 44 b0.out l.length c l.length l.length ⟨g, o, none⟩ rfl rfl (Nat.min_self _) f2.out f1.out c2.out s1.out ?_; intro w2 b2 k2; rw [o1.out] at b2; have E := Lib.hid (E.out w2 b2 k2))
    go_ret
    exact E.out
end Go.Proofs.Ytdolchlhphoggaa
