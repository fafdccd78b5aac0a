/-
  A heap among other blocks (Hp), and what New, Alloc, Of, Fits, Pages, Spans answer of it. Own work; each is proved by a walk through the landed text.
-/
import Derived.Test.YtdolchlhphoggaaRows
import Derived.Test.YtdolchlhphoggaaHeapMath
import Derived.Test.YtdolchlhphoggaaRunsBoth
import Derived.Test.YtdolchlhphoggaaSpanSt
namespace Go.Proofs.Ytdolchlhphoggaa
open Go.ChangeShapes Go.WideShapes Go.ChangeAt Go.RowKit
set_option maxRecDepth 100000

/-- The block of a list that has runs. -/
def FR (A : Option Addr) (n : Nat) (b : Nat) : Prop := 0 < n ∧ ∃ ad, A = some ad ∧ ad.block = b
/-- The blocks that a heap's table leaves alone. -/
def FH (F : Nat → Prop) (h : Nat) (A : Option Addr) (n : Nat) (b : Nat) : Prop := F b ∨ b = h ∨ FR A n b
structure HpAt (w0 W : World) (h : Nat) (P : Int) (rl : List R) (sl : List S) (F : Nat → Prop) (q : Nat) (A : Option Addr) (n c : Nat) : Prop where
  box : Blk W h 70 [.int .i64 P, .slice A n c, ptr q]
  runs : Rs W A n rl
  cap : n ≤ c
  nil : A = none → c = 0
  tab : StS w0 W q P sl (FH F h A n)
  whole : Whole P rl sl
  low : w0.heap.size ≤ h
  far : ∀ b, F b → b ≠ h ∧ ¬ FR A n b
/-- A heap at h, of P pages, whose free runs are rl and whose spans are sl; its blocks are new since w0, and none of F's; F's are there. -/
def Hp (w0 W : World) (h : Nat) (P : Int) (rl : List R) (sl : List S) (F : Nat → Prop) : Prop := ∃ q A n c, HpAt w0 W h P rl sl F q A n c
theorem StS.lt {w0 W : World} {p : Nat} {P : Int} {l : List S} {F : Nat → Prop} (h : StS w0 W p P l F) {b : Nat} (hb : F b) : b < W.heap.size := by obtain ⟨v, _, _, _, _, f⟩ := h; exact (f b hb).2.2
theorem Rs.fr {D : Nat → Prop} {W W' : World} {A : Option Addr} {n : Nat} {l : List R} (h : Rs W A n l) (k : Kept D W W') (hd : ∀ b, FR A n b → ¬ D b) : Rs W' A n l :=
  ⟨h.len, h.fit, fun hn => by
    obtain ⟨g, o, rfl, hg, c⟩ := h.lies hn
    have hd' : ¬ D g := hd g ⟨hn, _, rfl, rfl⟩
    exact ⟨g, o, rfl, Nat.lt_of_lt_of_le hg k.size, fun i x hx => ⟨(k.cell (p := ⟨g, o + i * 2, none⟩) hg hd').trans (c i x hx).1, (k.cell (p := ⟨g, o + i * 2 + 1, none⟩) hg hd').trans (c i x hx).2⟩⟩⟩
theorem Rs.ltB {W : World} {A : Option Addr} {n : Nat} {l : List R} (h : Rs W A n l) {b : Nat} (hb : FR A n b) : b < W.heap.size := by
  obtain ⟨hn, ad, e, rfl⟩ := hb
  obtain ⟨g, o, rfl, hg, _⟩ := h.lies hn
  injection e with e
  subst e
  exact hg
theorem HpAt.old {w0 W W' : World} {h : Nat} {P : Int} {rl : List R} {sl : List S} {F : Nat → Prop} {q : Nat} {A : Option Addr} {n c : Nat} (H : HpAt w0 W h P rl sl F q A n c) (k : Kept Old W W') : HpAt w0 W' h P rl sl F q A n c :=
  ⟨H.box.kept k (fun x => x), H.runs.old k, H.cap, H.nil, H.tab.old k, H.whole, H.low, H.far⟩
theorem Hp.old {w0 W W' : World} {h : Nat} {P : Int} {rl : List R} {sl : List S} {F : Nat → Prop} (H : Hp w0 W h P rl sl F) (k : Kept Old W W') : Hp w0 W' h P rl sl F := by
  obtain ⟨q, A, n, c, H⟩ := H
  exact ⟨q, A, n, c, H.old k⟩
theorem Hp.kept {w0 W : World} {h : Nat} {P : Int} {rl : List R} {sl : List S} {F : Nat → Prop} (H : Hp w0 W h P rl sl F) : Kept Old w0 W := by
  obtain ⟨q, A, n, c, H⟩ := H
  exact H.tab.kept
theorem Hp.whole {w0 W : World} {h : Nat} {P : Int} {rl : List R} {sl : List S} {F : Nat → Prop} (H : Hp w0 W h P rl sl F) : Whole P rl sl := by
  obtain ⟨q, A, n, c, H⟩ := H
  exact H.whole
theorem Hp.lt {w0 W : World} {h : Nat} {P : Int} {rl : List R} {sl : List S} {F : Nat → Prop} (H : Hp w0 W h P rl sl F) {b : Nat} (hb : F b) : b < W.heap.size := by
  obtain ⟨q, A, n, c, H⟩ := H
  exact H.tab.lt (.inl hb)
/-- Blocks that came since are none of the heap's. -/
theorem Hp.more {w0 W W' : World} {h : Nat} {P : Int} {rl : List R} {sl : List S} {F G : Nat → Prop} (H : Hp w0 W h P rl sl F) (k : Kept Old W W') (hG : ∀ b, G b → F b ∨ (W.heap.size ≤ b ∧ b < W'.heap.size)) : Hp w0 W' h P rl sl G := by
  obtain ⟨q, A, n, c, H⟩ := H
  have hl := H.box.lt
  refine ⟨q, A, n, c, H.box.kept k (fun x => x), H.runs.old k, H.cap, H.nil, H.tab.more k (fun b hb => ?_), H.whole, H.low, fun b hb => ?_⟩
  · rcases hb with hb | hb
    · rcases hG b hb with e | e
      · exact .inl (.inl e)
      · exact .inr e
    · exact .inl (.inr hb)
  · rcases hG b hb with e | e
    · exact H.far b e
    · exact ⟨by omega, fun z => by have := H.runs.ltB z; omega⟩
/-- A store into a block of F that is new since w0. -/
theorem Hp.only {w0 W W' : World} {h b : Nat} {P : Int} {rl : List R} {sl : List S} {F : Nat → Prop} (H : Hp w0 W h P rl sl F) (hb : F b) (h0 : w0.heap.size ≤ b) (k : Kept (Only b) W W') : Hp w0 W' h P rl sl F := by
  obtain ⟨q, A, n, c, H⟩ := H
  have f := H.far b hb
  exact ⟨q, A, n, c, H.box.kept k (fun e => f.1 (show h = b from e).symm), H.runs.fr k (fun d hd e => f.2 (by rw [← show d = b from e]; exact hd)), H.cap, H.nil, H.tab.only (.inl hb) h0 k, H.whole, H.low, H.far⟩

/-! ### New -/
theorem hnew_no (n : Int) (w : World) (h : n < 1 ∨ 256 < n) : Calls Try.prog 8 #[.int .i64 n] w fun e w' => e = .returned (.pointer none) ∧ w = w' := by
  have hT := Lib.hid (new_no n w h)
  clear h
  go_enter Try.func8, Try.ntmps8
  go_wp2_with fail
  refine hT.out.mono ?_
  rintro e W ⟨rfl, rfl⟩
  go_wp2
  go_ret
  exact ⟨rfl, rfl⟩
def NewH (w0 : World) (P : Int) (F : Nat → Prop) (W : World) (e : Ending) (W' : World) : Prop := ∃ h, e = .returned (ptr h) ∧ Hp w0 W' h P [(0, P)] [] F ∧ Kept Old W W'
theorem hp_new (w0 : World) (P : Int) (F : Nat → Prop) (W : World) (h1 : 1 ≤ P) (h2 : P ≤ 256) (K : Kept Old w0 W) (hF : ∀ b, F b → b < W.heap.size) :
    Calls Try.prog 8 #[.int .i64 P] W (NewH w0 P F W) := by
  have hT := Lib.hid (st_new w0 P F W h1 h2 K hF)
  have hp := Lib.hid (⟨h1, h2⟩ : 1 ≤ P ∧ P ≤ 256)
  have hF := Lib.hid hF
  have K := Lib.hid K
  clear h1 h2
  go_enter Try.func8, Try.ntmps8
  go_wp2_with fail
  refine hT.out.mono ?_
  rintro e W1 ⟨q, rfl, T, k1⟩
  have E : NewH w0 P F W (.returned (ptr (W1.heap.size + 1))) ((W1.alloc (.cells #[.int .i64 0, .int .i64 P] 63)).alloc (.cells #[.int .i64 P, .slice (some ⟨W1.heap.size, 0, none⟩) 1 1, ptr q] 70)) := by
    have k2 := (Kept.refl Old W1).alloc (.cells #[.int .i64 0, .int .i64 P] 63)
    have k3 := k2.alloc (.cells #[.int .i64 P, .slice (some ⟨W1.heap.size, 0, none⟩) 1 1, ptr q] 70)
    have R1 := Rs.one W1 (0, P) ⟨by omega, by omega⟩ (by have := hp.out; exact ⟨by show _ ≤ P; omega, by show P ≤ _; omega⟩) _ rfl
    have B := Blk.new (W1.alloc (.cells #[.int .i64 0, .int .i64 P] 63)) 70 [.int .i64 P, .slice (some ⟨W1.heap.size, 0, none⟩) 1 1, ptr q]
    have sz : (W1.alloc (.cells #[.int .i64 0, .int .i64 P] 63)).heap.size = W1.heap.size + 1 := by simp
    have sz2 : ((W1.alloc (.cells #[.int .i64 0, .int .i64 P] 63)).alloc (.cells #[.int .i64 P, .slice (some ⟨W1.heap.size, 0, none⟩) 1 1, ptr q] 70)).heap.size = W1.heap.size + 2 := by simp
    rw [sz] at B
    have s0 := K.out.size
    have s1 := k1.size
    refine ⟨_, rfl, ⟨q, _, 1, 1, B, R1.old ((Kept.refl _ _).alloc _), Nat.le_refl _, fun h => by (cases h), T.more k3 (fun b hb => ?_), Whole.new hp.out.1 hp.out.2, by omega, fun b hb => ?_⟩, k1.trans k3⟩
    · rcases hb with hb | hb | ⟨_, ad, e, hb⟩
      · exact .inl hb
      · exact .inr (by omega)
      · injection e with e
        subst e
        exact .inr (by rw [sz2]; simp only at hb; omega)
    · have := hF.out b hb
      exact ⟨by omega, fun ⟨_, ad, e, hb⟩ => by
        injection e with e
        subst e
        simp only at hb
        omega⟩
  have E := Lib.hid E
  clear hT T k1
  go_wp2
  go_ret
  exact E.out

/-! ### Calls that only read -/
theorem hp_pages {w0 W : World} {h : Nat} {P : Int} {rl : List R} {sl : List S} {F : Nat → Prop} (H : Hp w0 W h P rl sl F) :
    Calls Try.prog 17 #[ptr h] W fun e W' => e = .returned (.int .i64 P) ∧ W = W' := by
  obtain ⟨q, A, n, c, H⟩ := H
  have c0 := H.box.cell 0
  simp only [List.getElem?_cons_zero] at c0
  clear H
  go_enter Try.func17, Try.ntmps17
  go_wp2
  go_ret
  exact ⟨rfl, rfl⟩
/-- Is a run long enough? -/
def fitsB (rl : List R) (m : Int) : Bool := decide (1 ≤ m) && fitB rl m
theorem hp_fits {w0 W : World} {h : Nat} {P : Int} {rl : List R} {sl : List S} {F : Nat → Prop} (m : Int) (H : Hp w0 W h P rl sl F) :
    Calls Try.prog 12 #[ptr h, .int .i64 m] W fun e W' => e = .returned (.bool (fitsB rl m)) ∧ Kept Old W W' := by
  obtain ⟨q, A, n, c, H⟩ := H
  have c1 := H.box.cell 1
  simp only [List.getElem?_cons_succ, List.getElem?_cons_zero] at c1
  have hn : n ≤ 1000 := by have := H.whole.len; have := H.runs.len; omega
  have HF : ∃ z : Int, Calls Try.prog 28 #[.slice A n c, .int .i64 m] W fun e w' => e = .returned (.tuple #[.int .i64 z, .bool (fitsB rl m)]) ∧ Kept Old W w' := by
    by_cases hm : m < 1
    · have e : fitsB rl m = false := by unfold fitsB; rw [decide_eq_false (by omega), Bool.false_and]
      rw [e]
      exact ⟨0, fit_bad A n c m W hm⟩
    · have e : fitsB rl m = fitB rl m := by unfold fitsB; rw [decide_eq_true (by omega), Bool.true_and]
      rw [e]
      cases hf : fitB rl m with
      | false => exact ⟨0, fit_no A n c rl m W H.runs (by omega) hf hn⟩
      | true =>
        obtain ⟨i, x, f⟩ := fits_of hf
        exact ⟨i, fit_ok A n c rl m i x W H.runs (by omega) f hn⟩
  obtain ⟨z, HF⟩ := HF
  have HF := Lib.hid HF
  generalize fitsB rl m = b at *
  clear H hn
  go_enter Try.func12, Try.ntmps12
  go_wp2_with fail
  refine HF.out.mono ?_
  rintro e W1 ⟨rfl, k1⟩
  have k1 := Lib.hid k1
  go_wp2
  go_ret
  exact ⟨rfl, k1.out⟩
theorem hp_of {w0 W : World} {h : Nat} {P : Int} {rl : List R} {sl : List S} {F : Nat → Prop} (p : Int) (H : Hp w0 W h P rl sl F) :
    Calls Try.prog 15 #[ptr h, .int .i64 p] W fun e W' => e = .returned (.tuple #[spn (ofX sl p), .bool (ofB sl p)]) ∧ Kept Old W W' := by
  obtain ⟨q, A, n, c, H⟩ := H
  have k0 := Lib.hid ((Kept.refl Old W).alloc (.cells #[.int .i64 0, .int .i64 0, .int .i64 0] 44))
  have B0 := Lib.hid (BxS.new W noS)
  have H0 := H.old k0.out
  have c2 := H0.box.cell 2
  simp only [List.getElem?_cons_succ, List.getElem?_cons_zero] at c2
  have T0 := Lib.hid H0.tab
  have T0 := Lib.hid (st_of p T0.out)
  clear H H0
  generalize ofX sl p = x at *
  generalize ofB sl p = y at *
  go_enter Try.func15, Try.ntmps15
  go_wp2_with fail
  refine T0.out.mono ?_
  rintro e W1 ⟨rfl, k1⟩
  have K := Lib.hid (k0.out.trans k1)
  have hb := Blk.lt (B0.out.old k1)
  have b0 := (B0.out.old k1).c0
  have b1 := (B0.out.old k1).c1
  have b2 := (B0.out.old k1).c2
  have bf := Blk.frozen (B0.out.old k1)
  obtain ⟨V, hV, v0, v1, v2, KV, _⟩ := (B0.out.old k1).end3 K.out (Nat.le_refl _) x
  have KV := Lib.hid KV
  generalize W.heap.size = s at *
  clear k0 k1 B0 T0
  go_wp2
  exact bodyPost_ret (v := .tuple #[spn x, .bool y]) (by simp [results, Try.results15, go_sem, v0, v1, v2]) rfl ⟨rfl, KV.out⟩
theorem hp_spans {w0 W : World} {h : Nat} {P : Int} {rl : List R} {sl : List S} {F : Nat → Prop} (H : Hp w0 W h P rl sl F) :
    Calls Try.prog 21 #[ptr h] W (ListPost sl W) := by
  obtain ⟨q, A, n, c, H⟩ := H
  have c2 := H.box.cell 2
  simp only [List.getElem?_cons_succ, List.getElem?_cons_zero] at c2
  have T0 := Lib.hid H.tab
  clear H
  go_enter Try.func21, Try.ntmps21
  go_wp2_with fail
  refine (st_list T0.out).mono ?_
  rintro e W1 ⟨A5, c5, rfl, R⟩
  have E : ListPost sl W (.returned (.slice A5 sl.length c5)) W1 := ⟨A5, c5, rfl, R⟩
  have E := Lib.hid E
  clear R
  go_wp2
  go_ret
  exact E.out
end Go.Proofs.Ytdolchlhphoggaa
