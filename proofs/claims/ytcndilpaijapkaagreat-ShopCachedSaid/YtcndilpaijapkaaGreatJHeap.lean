/-
  Joined texts of Heap; own work.
-/
import Derived.Test.YtcndilpaijapkaaGreatRows
import Derived.Test.YtcndilpaijapkaaGreatJRunsPutb
import Derived.Test.YtcndilpaijapkaaGreatJRunsRef
import Derived.Test.YtcndilpaijapkaaGreatJSpan
import Derived.Test.YtcndilpaijapkaaGreatJSpanMem
/- A heap among other blocks (Hp), and what New, Alloc, Of, Fits, Pages, Spans answer of it. Own work; each is proved by a walk through the landed text. -/
namespace Go.Proofs.YtcndilpaijapkaaGreat
open Go.ChangeShapes Go.WideShapes Go.ChangeAt Go.RowKit
set_option maxRecDepth 100000

/-- The block of a list that has runs. -/
def FR (A : Option Addr) (n : Nat) (b : Nat) : Prop := 0 < n ∧ ∃ ad, A = some ad ∧ ad.block = b
/-- The blocks that a heap's table leaves alone. -/
def FH (F : Nat → Prop) (h : Nat) (A : Option Addr) (n : Nat) (b : Nat) : Prop := F b ∨ b = h ∨ FR A n b
structure HpAt (w0 W : World) (h : Nat) (P : Int) (rl : List R) (sl : List S) (F : Nat → Prop) (q : Nat) (A : Option Addr) (n c : Nat) : Prop where
  box : Blk W h 144 [.int .i64 P, .slice A n c, ptr q]
  runs : Rs W A n rl
  cap : n ≤ c
  nil : A = none → c = 0
  tab : StS w0 W q P sl (FH F h A n)
  whole : Whole P rl sl
  low : w0.heap.size ≤ h
  far : ∀ b, F b → b ≠ h ∧ ¬ FR A n b
/-- A heap at h, of P pages, whose free runs are rl and whose spans are sl; its blocks are new since w0, and none of F's; F's are there. -/
def Hp (w0 W : World) (h : Nat) (P : Int) (rl : List R) (sl : List S) (F : Nat → Prop) : Prop := ∃ q A n c, HpAt w0 W h P rl sl F q A n c
theorem StS.lt {w0 W : World} {p : Nat} {P : Int} {l : List S} {F : Nat → Prop} (h : StS w0 W p P l F) {b : Nat} (hb : F b) : b < W.heap.size := by obtain ⟨v, _, _, _, _, f⟩ := h; exact (f b hb).2.2
theorem Rs.fr {D : Nat → Prop} {W W' : World} {A : Option Addr} {n : Nat} {l : List R} (h : Rs W A n l) (k : Kept D W W') (hd : ∀ b, FR A n b → ¬ D b) : Rs W' A n l :=
  ⟨h.len, h.fit, fun hn => by
    obtain ⟨g, o, rfl, hg, c⟩ := h.lies hn
    have hd' : ¬ D g := hd g ⟨hn, _, rfl, rfl⟩
    exact ⟨g, o, rfl, Nat.lt_of_lt_of_le hg k.size, fun i x hx => ⟨(k.cell (p := ⟨g, o + i * 2, none⟩) hg hd').trans (c i x hx).1, (k.cell (p := ⟨g, o + i * 2 + 1, none⟩) hg hd').trans (c i x hx).2⟩⟩⟩
theorem Rs.ltB {W : World} {A : Option Addr} {n : Nat} {l : List R} (h : Rs W A n l) {b : Nat} (hb : FR A n b) : b < W.heap.size := by
  obtain ⟨hn, ad, e, rfl⟩ := hb
  obtain ⟨g, o, rfl, hg, _⟩ := h.lies hn
  injection e with e
  subst e
  exact hg
theorem HpAt.old {w0 W W' : World} {h : Nat} {P : Int} {rl : List R} {sl : List S} {F : Nat → Prop} {q : Nat} {A : Option Addr} {n c : Nat} (H : HpAt w0 W h P rl sl F q A n c) (k : Kept Old W W') : HpAt w0 W' h P rl sl F q A n c :=
  ⟨H.box.kept k (fun x => x), H.runs.old k, H.cap, H.nil, H.tab.old k, H.whole, H.low, H.far⟩
theorem Hp.old {w0 W W' : World} {h : Nat} {P : Int} {rl : List R} {sl : List S} {F : Nat → Prop} (H : Hp w0 W h P rl sl F) (k : Kept Old W W') : Hp w0 W' h P rl sl F := by
  obtain ⟨q, A, n, c, H⟩ := H
  exact ⟨q, A, n, c, H.old k⟩
theorem Hp.kept {w0 W : World} {h : Nat} {P : Int} {rl : List R} {sl : List S} {F : Nat → Prop} (H : Hp w0 W h P rl sl F) : Kept Old w0 W := by
  obtain ⟨q, A, n, c, H⟩ := H
  exact H.tab.kept
theorem Hp.whole {w0 W : World} {h : Nat} {P : Int} {rl : List R} {sl : List S} {F : Nat → Prop} (H : Hp w0 W h P rl sl F) : Whole P rl sl := by
  obtain ⟨q, A, n, c, H⟩ := H
  exact H.whole
theorem Hp.lt {w0 W : World} {h : Nat} {P : Int} {rl : List R} {sl : List S} {F : Nat → Prop} (H : Hp w0 W h P rl sl F) {b : Nat} (hb : F b) : b < W.heap.size := by
  obtain ⟨q, A, n, c, H⟩ := H
  exact H.tab.lt (.inl hb)
/-- Blocks that came since are none of the heap's. -/
theorem Hp.more {w0 W W' : World} {h : Nat} {P : Int} {rl : List R} {sl : List S} {F G : Nat → Prop} (H : Hp w0 W h P rl sl F) (k : Kept Old W W') (hG : ∀ b, G b → F b ∨ (W.heap.size ≤ b ∧ b < W'.heap.size)) : Hp w0 W' h P rl sl G := by
  obtain ⟨q, A, n, c, H⟩ := H
  have hl := H.box.lt
  refine ⟨q, A, n, c, H.box.kept k (fun x => x), H.runs.old k, H.cap, H.nil, H.tab.more k (fun b hb => ?_), H.whole, H.low, fun b hb => ?_⟩
  · rcases hb with hb | hb
    · rcases hG b hb with e | e
      · exact .inl (.inl e)
      · exact .inr e
    · exact .inl (.inr hb)
  · rcases hG b hb with e | e
    · exact H.far b e
    · exact ⟨by omega, fun z => by have := H.runs.ltB z; omega⟩
/-- A store into a block of F that is new since w0. -/
theorem Hp.only {w0 W W' : World} {h b : Nat} {P : Int} {rl : List R} {sl : List S} {F : Nat → Prop} (H : Hp w0 W h P rl sl F) (hb : F b) (h0 : w0.heap.size ≤ b) (k : Kept (Only b) W W') : Hp w0 W' h P rl sl F := by
  obtain ⟨q, A, n, c, H⟩ := H
  have f := H.far b hb
  exact ⟨q, A, n, c, H.box.kept k (fun e => f.1 (show h = b from e).symm), H.runs.fr k (fun d hd e => f.2 (by rw [← show d = b from e]; exact hd)), H.cap, H.nil, H.tab.only (.inl hb) h0 k, H.whole, H.low, H.far⟩

/-! ### New -/
theorem hnew_no (n : Int) (w : World) (h : n < 1 ∨ 256 < n) : Calls Tryz.prog 43 #[.int .i64 n] w fun e w' => e = .returned (.pointer none) ∧ w = w' := by
  have hT := Lib.hid (new_no n w h)
  clear h
  go_enter Tryz.func43, Tryz.ntmps43
  go_wp2_with fail
  refine hT.out.mono ?_
  rintro e W ⟨rfl, rfl⟩
  go_wp2
  go_ret
  exact ⟨rfl, rfl⟩
def NewH (w0 : World) (P : Int) (F : Nat → Prop) (W : World) (e : Ending) (W' : World) : Prop := ∃ h, e = .returned (ptr h) ∧ Hp w0 W' h P [(0, P)] [] F ∧ Kept Old W W'
theorem hp_new (w0 : World) (P : Int) (F : Nat → Prop) (W : World) (h1 : 1 ≤ P) (h2 : P ≤ 256) (K : Kept Old w0 W) (hF : ∀ b, F b → b < W.heap.size) :
    Calls Tryz.prog 43 #[.int .i64 P] W (NewH w0 P F W) := by
  have hT := Lib.hid (st_new w0 P F W h1 h2 K hF)
  have hp := Lib.hid (⟨h1, h2⟩ : 1 ≤ P ∧ P ≤ 256)
  have hF := Lib.hid hF
  have K := Lib.hid K
  clear h1 h2
  go_enter Tryz.func43, Tryz.ntmps43
  go_wp2_with fail
  refine hT.out.mono ?_
  rintro e W1 ⟨q, rfl, T, k1⟩
  have E : NewH w0 P F W (.returned (ptr (W1.heap.size + 1))) ((W1.alloc (.cells #[.int .i64 0, .int .i64 P] 91)).alloc (.cells #[.int .i64 P, .slice (some ⟨W1.heap.size, 0, none⟩) 1 1, ptr q] 144)) := by
    have k2 := (Kept.refl Old W1).alloc (.cells #[.int .i64 0, .int .i64 P] 91)
    have k3 := k2.alloc (.cells #[.int .i64 P, .slice (some ⟨W1.heap.size, 0, none⟩) 1 1, ptr q] 144)
    have R1 := Rs.one W1 (0, P) ⟨by omega, by omega⟩ (by have := hp.out; exact ⟨by show _ ≤ P; omega, by show P ≤ _; omega⟩) _ rfl
    have B := Blk.new (W1.alloc (.cells #[.int .i64 0, .int .i64 P] 91)) 144 [.int .i64 P, .slice (some ⟨W1.heap.size, 0, none⟩) 1 1, ptr q]
    have sz : (W1.alloc (.cells #[.int .i64 0, .int .i64 P] 91)).heap.size = W1.heap.size + 1 := by simp
    have sz2 : ((W1.alloc (.cells #[.int .i64 0, .int .i64 P] 91)).alloc (.cells #[.int .i64 P, .slice (some ⟨W1.heap.size, 0, none⟩) 1 1, ptr q] 144)).heap.size = W1.heap.size + 2 := by simp
    rw [sz] at B
    have s0 := K.out.size
    have s1 := k1.size
    refine ⟨_, rfl, ⟨q, _, 1, 1, B, R1.old ((Kept.refl _ _).alloc _), Nat.le_refl _, fun h => by (cases h), T.more k3 (fun b hb => ?_), Whole.new hp.out.1 hp.out.2, by omega, fun b hb => ?_⟩, k1.trans k3⟩
    · rcases hb with hb | hb | ⟨_, ad, e, hb⟩
      · exact .inl hb
      · exact .inr (by omega)
      · injection e with e
        subst e
        exact .inr (by rw [sz2]; simp only at hb; omega)
    · have := hF.out b hb
      exact ⟨by omega, fun ⟨_, ad, e, hb⟩ => by
        injection e with e
        subst e
        simp only at hb
        omega⟩
  have E := Lib.hid E
  clear hT T k1
  go_wp2
  go_ret
  exact E.out

/-! ### Calls that only read -/
/-- Is a run long enough? -/
def fitsB (rl : List R) (m : Int) : Bool := decide (1 ≤ m) && fitB rl m
theorem hp_of {w0 W : World} {h : Nat} {P : Int} {rl : List R} {sl : List S} {F : Nat → Prop} (p : Int) (H : Hp w0 W h P rl sl F) :
    Calls Tryz.prog 119 #[ptr h, .int .i64 p] W fun e W' => e = .returned (.tuple #[spn (ofX sl p), .bool (ofB sl p)]) ∧ Kept Old W W' := by
  obtain ⟨q, A, n, c, H⟩ := H
  have k0 := Lib.hid ((Kept.refl Old W).alloc (.cells #[.int .i64 0, .int .i64 0, .int .i64 0] 115))
  have B0 := Lib.hid (BxS.new W noS)
  have H0 := H.old k0.out
  have c2 := H0.box.cell 2
  simp only [List.getElem?_cons_succ, List.getElem?_cons_zero] at c2
  have T0 := Lib.hid H0.tab
  have T0 := Lib.hid (st_of p T0.out)
  clear H H0
  generalize ofX sl p = x at *
  generalize ofB sl p = y at *
  go_enter Tryz.func119, Tryz.ntmps119
  go_wp2_with fail
  refine T0.out.mono ?_
  rintro e W1 ⟨rfl, k1⟩
  have K := Lib.hid (k0.out.trans k1)
  have hb := Blk.lt (B0.out.old k1)
  have b0 := (B0.out.old k1).c0
  have b1 := (B0.out.old k1).c1
  have b2 := (B0.out.old k1).c2
  have bf := Blk.frozen (B0.out.old k1)
  obtain ⟨V, hV, v0, v1, v2, KV, _⟩ := (B0.out.old k1).end3 K.out (Nat.le_refl _) x
  have KV := Lib.hid KV
  generalize W.heap.size = s at *
  clear k0 k1 B0 T0
  go_wp2
  exact bodyPost_ret (v := .tuple #[spn x, .bool y]) (by simp [results, Tryz.results119, go_sem, v0, v1, v2]) rfl ⟨rfl, KV.out⟩
end Go.Proofs.YtcndilpaijapkaaGreat
/- What Heap.Alloc answers, and what it leaves. Own work; each is proved by a walk through the landed text. -/
namespace Go.Proofs.YtcndilpaijapkaaGreat
open Go.ChangeShapes Go.WideShapes Go.ChangeAt Go.RowKit
set_option maxRecDepth 100000

/-- The heap behind a store of its new list of runs. -/
theorem HpAt.store {w0 W0 W : World} {h : Nat} {P : Int} {rl rl' : List R} {sl sl' : List S} {F : Nat → Prop} {q : Nat} {A A' : Option Addr} {n n' c c' : Nat} (H : HpAt w0 W0 h P rl sl F q A n c)
    (B : Blk W h 144 [.int .i64 P, .slice A n c, ptr q]) (R' : Rs W A' n' rl') (hc : n' ≤ c') (hn : A' = none → c' = 0) (new : ∀ ad, A' = some ad → W0.heap.size ≤ ad.block) (T : StS w0 W q P sl' (FH F h A' n')) (wh : Whole P rl' sl') (K : Kept (Fr F) W0 W) :
    Hp w0 (W.setCell ⟨h, 1, none⟩ (.slice A' n' c')) h P rl' sl' F ∧ Kept (Fr F) W0 (W.setCell ⟨h, 1, none⟩ (.slice A' n' c')) := by
  have k : Kept (Only h) W (W.setCell ⟨h, 1, none⟩ (.slice A' n' c')) := only_setCell _ _ _ _
  have hl := H.box.lt
  have ne : ∀ b, FR A' n' b → W0.heap.size ≤ b := fun b ⟨_, ad, e, hb⟩ => by rw [← hb]; exact new ad e
  refine ⟨⟨q, A', n', c', B.put 1 _, R'.fr k (fun b hb e => ?_), hc, hn, T.only (.inr (.inl rfl)) H.low k, wh, H.low, fun b hb => ⟨(H.far b hb).1, fun z => ?_⟩⟩, K.join k (fun i _ e => ?_)⟩
  · have := ne b hb
    have : b = h := e
    omega
  · have := ne b z
    have := H.tab.lt (b := b) (.inl hb)
    omega
  · have : i = h := e
    subst this
    exact fun z => (H.far _ z).1 rfl
theorem allocA_bad {rl : List R} {sl : List S} {n cl : Int} (h : ¬ (0 ≤ cl ∧ cl < 8 ∧ 1 ≤ n)) : allocA rl sl n cl = ⟨0, 1, rl, sl⟩ := by unfold allocA; rw [if_neg h]
theorem allocA_full {rl : List R} {sl : List S} {n cl : Int} (h : 0 ≤ cl ∧ cl < 8 ∧ 1 ≤ n) (f : fitAt rl n = none) : allocA rl sl n cl = ⟨0, 3, rl, sl⟩ := by unfold allocA; rw [if_pos h, f]
theorem allocA_ok {rl : List R} {sl : List S} {n cl : Int} {i : Nat} {x : R} (h : 0 ≤ cl ∧ cl < 8 ∧ 1 ≤ n) (f : fitAt rl n = some (i, x)) : allocA rl sl n cl = ⟨x.1, 0, takeL rl n i x, insL sl ⟨x.1, n, cl⟩⟩ := by unfold allocA; rw [if_pos h, f]
/-- What Alloc answers, and leaves. -/
def AllocPost (w0 : World) (h : Nat) (P : Int) (F : Nat → Prop) (W : World) (o : AnsA) (e : Ending) (W' : World) : Prop :=
  e = .returned (.tuple #[.int .i64 o.x, .int .i64 o.e]) ∧ Hp w0 W' h P o.rl o.sl F ∧ Kept (Fr F) W W'
set_option maxHeartbeats 1000000 in
theorem hp_alloc {w0 W : World} {h : Nat} {P : Int} {rl : List R} {sl : List S} {F : Nat → Prop} (n cl : Int) (H : Hp w0 W h P rl sl F) :
    Calls Tryz.prog 153 #[ptr h, .int .i64 n, .int .i64 cl] W (AllocPost w0 h P F W (allocA rl sl n cl)) := by
  by_cases c0 : 0 ≤ cl
  · by_cases c7 : cl < 8
    · have H' := H
      obtain ⟨q, A, k, c, HA⟩ := H
      have a1 := HA.box.cell 1
      have a2 := HA.box.cell 2
      simp only [List.getElem?_cons_succ, List.getElem?_cons_zero] at a1 a2
      have hk : k ≤ 257 := by have := HA.whole.len; have := HA.runs.len; omega
      by_cases hn : 1 ≤ n
      · cases f : fitAt rl n with
        | none =>
          rw [allocA_full ⟨c0, c7, hn⟩ f]
          have hT := Lib.hid (take_full A k c rl n W HA.runs hn (fit_at_none f) (by omega))
          have H' := Lib.hid H'
          clear HA f hk
          go_enter Tryz.func153, Tryz.ntmps153
          go_wp2_with fail
          refine hT.out.mono ?_
          rintro e W1 ⟨rfl, k1⟩
          have Q := Lib.hid (⟨H'.out.old k1, k1.any⟩ : Hp w0 W1 h P rl sl F ∧ Kept (Fr F) W W1)
          clear k1 H' hT
          go_wp2
          go_ret2
          exact ⟨rfl, Q.out⟩
        | some p =>
          obtain ⟨i, x⟩ := p
          rw [allocA_ok ⟨c0, c7, hn⟩ f]
          have f := fit_at_some f
          have hT := Lib.hid (take_ok A k c rl n i x W HA.runs HA.whole.wide HA.cap hn f (by omega))
          obtain ⟨ok, hit, wh⟩ := HA.whole.alloc f hn c0 c7
          have ok := Lib.hid ok
          have hit := Lib.hid hit
          have wh := Lib.hid wh
          have HA := Lib.hid HA
          clear f hk H'
          go_enter Tryz.func153, Tryz.ntmps153
          go_wp2_with fail
          refine hT.out.mono ?_
          rintro e W1 ⟨v, rfl, A1, n1, c1, rfl, R1, hc1, ⟨z1, new1⟩, k1⟩
          have T1 : StS w0 W1 q P sl (FH F h A1 n1) := HA.out.tab.more k1 (fun b hb => by
            rcases hb with hb | hb | hb
            · exact .inl (.inl hb)
            · exact .inl (.inr (.inl hb))
            · refine .inr ⟨?_, R1.ltB hb⟩
              obtain ⟨_, ad, e, hb⟩ := hb
              rw [← hb]
              exact new1 ad e)
          have T1 := Lib.hid T1
          have B1 := Lib.hid (HA.out.box.kept k1 (fun x => x))
          have R1 := Lib.hid R1
          have new1 := Lib.hid new1
          have z1 := Lib.hid z1
          have hc1 := Lib.hid hc1
          have a2 := B1.out.cell 2
          simp only [List.getElem?_cons_succ, List.getElem?_cons_zero] at a2
          have k1 := Lib.hid k1
          clear hT
          go_wp2_with fail
          have ft : Fit (⟨x.1, n, cl⟩ : S) := by
            have o := ok_of ok.out
            have p := HA.out.whole.pages
            obtain ⟨o1, o2, o3, o4, o5⟩ := o
            simp only at o1 o2 o3 o4 o5
            exact ⟨⟨by show _ ≤ x.1; omega, by show x.1 ≤ _; omega⟩, ⟨by show _ ≤ n; omega, by show n ≤ _; omega⟩, ⟨by show _ ≤ cl; omega, by show cl ≤ _; omega⟩⟩
          refine (st_add ⟨x.1, n, cl⟩ T1.out ft).mono ?_
          rintro e W2 ⟨rfl, T2, k2⟩
          rw [show addL P sl ⟨x.1, n, cl⟩ = insL sl ⟨x.1, n, cl⟩ by unfold addL; rw [if_pos ok.out, if_neg (by rw [hit.out]; decide)]] at T2
          rw [show addC P sl ⟨x.1, n, cl⟩ = 0 by unfold addC; rw [if_pos ok.out, if_neg (by rw [hit.out]; decide)]]
          have B2 := B1.out.kept k2 (fun e => e (.inr (.inl rfl)))
          have R2 := R1.out.fr k2 (fun b hb e => e (.inr (.inr hb)))
          have KK : Kept (Fr F) W W2 := (Kept.any k1.out).trans (k2.mono fun i e z => e (.inl z))
          have Q := Lib.hid (HA.out.store B2 R2 hc1.out z1.out new1.out T2 wh.out KK)
          have d1 := B2.cell 1
          simp only [List.getElem?_cons_succ, List.getElem?_cons_zero] at d1
          have df := B2.frozen
          clear T2 k2 B2 R2 KK B1 R1 T1 k1 ok hit wh HA ft a2 hc1 z1 new1
          go_wp2
          go_ret2
          exact ⟨rfl, Q.out⟩
      · rw [allocA_bad (by omega)]
        have hT := Lib.hid (take_bad A k c n W (by omega))
        have H' := Lib.hid H'
        clear HA hk
        go_enter Tryz.func153, Tryz.ntmps153
        go_wp2_with fail
        refine hT.out.mono ?_
        rintro e W1 ⟨rfl, k1⟩
        have Q := Lib.hid (⟨H'.out.old k1, k1.any⟩ : Hp w0 W1 h P rl sl F ∧ Kept (Fr F) W W1)
        clear k1 H' hT
        go_wp2
        go_ret2
        exact ⟨rfl, Q.out⟩
    · rw [allocA_bad (by omega)]
      have H := Lib.hid H
      go_enter Tryz.func153, Tryz.ntmps153
      go_wp2
      go_ret2
      exact ⟨rfl, H.out, Kept.refl _ _⟩
  · rw [allocA_bad (by omega)]
    have H := Lib.hid H
    go_enter Tryz.func153, Tryz.ntmps153
    go_wp2
    go_ret2
    exact ⟨rfl, H.out, Kept.refl _ _⟩
end Go.Proofs.YtcndilpaijapkaaGreat
/- What Heap.Free answers, and what it leaves. Own work; each is proved by a walk through the landed text. -/
namespace Go.Proofs.YtcndilpaijapkaaGreat
open Go.ChangeShapes Go.WideShapes Go.ChangeAt Go.RowKit
set_option maxRecDepth 100000

theorem freeA_no {rl : List R} {sl : List S} {p : Int} (h : begL sl p = none) : freeA rl sl p = ⟨noS, 2, rl, sl⟩ := by unfold freeA; rw [h]
theorem freeA_yes {rl : List R} {sl : List S} {p : Int} {s : S} (h : begL sl p = some s) : freeA rl sl p = ⟨s, 0, putL rl s.a s.n, delL sl p⟩ := by unfold freeA; rw [h]
/-- What Free answers, and leaves. -/
def FreePost (w0 : World) (h : Nat) (P : Int) (F : Nat → Prop) (W : World) (o : AnsF) (e : Ending) (W' : World) : Prop :=
  e = .returned (.tuple #[spn o.x, .int .i64 o.e]) ∧ Hp w0 W' h P o.rl o.sl F ∧ Kept (Fr F) W W'
theorem beg_ways {sl : List S} {p : Int} (h : begL sl p = none) : ∃ x b, ofX sl p = x ∧ ofB sl p = b ∧ ((b = false ∧ True) ∨ (b = true ∧ (x.a == p) = false)) := by
  rcases beg_none h with e | ⟨y, e, ne⟩
  · exact ⟨_, _, rfl, rfl, .inl ⟨by simp [ofB, e], trivial⟩⟩
  · exact ⟨_, _, rfl, rfl, .inr ⟨by simp [ofB, e], by simp [ofX, e]; exact ne⟩⟩
set_option maxHeartbeats 1000000 in
theorem hp_free_no {w0 W : World} {h : Nat} {P : Int} {rl : List R} {sl : List S} {F : Nat → Prop} (p : Int) (H : Hp w0 W h P rl sl F) (hb : begL sl p = none) :
    Calls Tryz.prog 78 #[ptr h, .int .i64 p] W (FreePost w0 h P F W (freeA rl sl p)) := by
  rw [freeA_no hb]
  have k0 := Lib.hid ((Kept.refl Old W).alloc (.cells #[.int .i64 0, .int .i64 0, .int .i64 0] 115))
  have B0 := Lib.hid (BxS.new W noS)
  have hO := Lib.hid (hp_of p (H.old k0.out))
  obtain ⟨x, b, e1, e2, ways⟩ := beg_ways hb
  rw [e1, e2] at hO
  have H := Lib.hid H
  clear hb e1 e2
  rcases ways with ⟨rfl, _⟩ | ⟨rfl, ne⟩
  all_goals
    go_enter Tryz.func78, Tryz.ntmps78
    go_wp2_with fail
    refine hO.out.mono ?_
    rintro e W1 ⟨rfl, k1⟩
    have K := Lib.hid (k0.out.trans k1)
    have hb := Blk.lt (B0.out.old k1)
    have b0 := (B0.out.old k1).c0
    have b1 := (B0.out.old k1).c1
    have b2 := (B0.out.old k1).c2
    have bf := Blk.frozen (B0.out.old k1)
    obtain ⟨V, hV, _, _, _, KV, BV, _⟩ := (B0.out.old k1).end3 K.out (Nat.le_refl _) noS
    have KV := Lib.hid KV
    have v0 := fun o => (BxS.alloc BV o).c0
    have v1 := fun o => (BxS.alloc BV o).c1
    have v2 := fun o => (BxS.alloc BV o).c2
    generalize W.heap.size = s at *
    clear k0 k1 B0 hO
    go_wp2
    have k9 := KV.out.alloc (.cells #[.int .i64 x.a, .int .i64 x.n, .int .i64 x.c] 115)
    exact bodyPost_ret (v := .tuple #[spn noS, .int .i64 2]) (by simp [results, Tryz.results78, go_sem, v0, v1, v2]) rfl ⟨rfl, H.out.old k9, k9.any⟩
/-- The blocks that Remove leaves alone: those of the heap's frame, and that of the result. -/
def FS (F : Nat → Prop) (h : Nat) (A : Option Addr) (n s : Nat) (b : Nat) : Prop := FH F h A n b ∨ b = s
/-- The heap behind the store of its runs, and what is so behind Remove and the store of the result. -/
theorem HpAt.free {w0 W W3 : World} {h : Nat} {P : Int} {rl rl' : List R} {sl sl' : List S} {F : Nat → Prop} {q : Nat} {A A1 : Option Addr} {n n1 c c1 s : Nat} (H : HpAt w0 W h P rl sl F q A n c) (k : Kept Old W W3) (hs : W.heap.size = s) (B0 : BxS W3 s noS)
    (R3 : Rs W3 A1 n1 rl') (hc : n1 ≤ c1) (hz : A1 = none → c1 = 0) (new : ∀ ad, A1 = some ad → s < ad.block) (wh : Whole P rl' sl') :
    ∃ W4, W3.setCell ⟨h, 1, none⟩ (.slice A1 n1 c1) = W4 ∧ StS w0 W4 q P sl (FS F h A1 n1 s) ∧ W4.cell? ⟨h, 2, none⟩ = some (ptr q) ∧
      ∀ W5, StS w0 W5 q P sl' (FS F h A1 n1 s) → Kept (Fr (FS F h A1 n1 s)) W4 W5 → BxS W5 s noS ∧ ∀ W6, Kept (Only s) W5 W6 → Hp w0 W6 h P rl' sl' F ∧ Kept (Fr F) W W6 := by
  have hl := H.box.lt
  have h0 := H.tab.kept.size
  have ne : ∀ b, FR A1 n1 b → s < b := fun b ⟨_, ad, e, hb⟩ => by rw [← hb]; exact new ad e
  have kh : Kept (Only h) W3 (W3.setCell ⟨h, 1, none⟩ (.slice A1 n1 c1)) := only_setCell _ _ _ _
  have B3 := (H.box.kept k (fun x => x)).put 1 (.slice A1 n1 c1)
  have T3 : StS w0 W3 q P sl (FS F h A1 n1 s) := H.tab.more k (fun b hb => by
    rcases hb with (hb | hb | hb) | hb
    · exact .inl (.inl hb)
    · exact .inl (.inr (.inl hb))
    · exact .inr ⟨by have := ne b hb; omega, R3.ltB hb⟩
    · exact .inr ⟨by omega, by rw [hb]; exact Blk.lt B0⟩)
  have T4 := T3.only (b := h) (.inl (.inr (.inl rfl))) H.low kh
  have R4 := R3.fr kh (fun b hb e => by have := ne b hb; have : b = h := e; omega)
  have B04 : BxS (W3.setCell ⟨h, 1, none⟩ (.slice A1 n1 c1)) s noS := B0.kept kh (fun e => by have : s = h := e; omega)
  refine ⟨_, rfl, T4, B3.cell 2, fun W5 T5 k5 => ⟨B04.kept k5 (fun e => e (.inr rfl)), fun W6 k6 => ?_⟩⟩
  have B5 := B3.kept k5 (fun e => e (.inl (.inr (.inl rfl))))
  have R5 := R4.fr k5 (fun b hb e => e (.inl (.inr (.inr hb))))
  have B6 := B5.kept k6 (fun e => by have : h = s := e; omega)
  have R6 := R5.fr k6 (fun b hb e => by have := ne b hb; have : b = s := e; omega)
  have T6 := (T5.only (b := s) (.inr rfl) (by omega) k6).less (G := FH F h A1 n1) (fun b hb => .inl hb)
  refine ⟨⟨q, A1, n1, c1, B6, R6, hc, hz, T6, wh, H.low, fun b hb => ⟨(H.far b hb).1, fun z => ?_⟩⟩, ?_⟩
  · have := ne b z
    have := H.tab.lt (b := b) (.inl hb)
    omega
  · have kf : Kept (Fr F) W W3 := k.any
    have kf := kf.join kh (fun i _ e => by have : i = h := e; subst this; exact fun z => (H.far _ z).1 rfl)
    have kf := kf.trans (k5.mono fun i e z => e (.inl (.inl z)))
    exact kf.join k6 (fun i hi e => by have : i = s := e; omega)
set_option maxHeartbeats 2000000 in
theorem hp_free_yes {w0 W : World} {h : Nat} {P : Int} {rl : List R} {sl : List S} {F : Nat → Prop} (p : Int) (x : S) (H : Hp w0 W h P rl sl F) (hb : begL sl p = some x) :
    Calls Tryz.prog 78 #[ptr h, .int .i64 p] W (FreePost w0 h P F W (freeA rl sl p)) := by
  rw [freeA_yes hb]
  obtain ⟨ok, fr, wh⟩ := H.whole.free hb
  obtain ⟨ho, rfl⟩ := beg_some hb
  have k0 := Lib.hid ((Kept.refl Old W).alloc (.cells #[.int .i64 0, .int .i64 0, .int .i64 0] 115))
  have B0 := Lib.hid (BxS.new W noS)
  have hO := Lib.hid (hp_of x.a (H.old k0.out))
  rw [show ofX sl x.a = x by simp [ofX, ho], show ofB sl x.a = true by simp [ofB, ho]] at hO
  obtain ⟨q, A, n, c, H⟩ := H
  have hn : n ≤ 900 := by have := H.whole.len; have := H.runs.len; omega
  have H := Lib.hid H
  have ok := Lib.hid ok
  have fr := Lib.hid fr
  have wh := Lib.hid wh
  have hb := Lib.hid hb
  clear ho
  go_enter Tryz.func78, Tryz.ntmps78
  go_wp2_with fail
  refine hO.out.mono ?_
  rintro e W1 ⟨rfl, k1⟩
  have k2 := (k0.out.trans k1).alloc (.cells #[.int .i64 x.a, .int .i64 x.n, .int .i64 x.c] 115)
  have B2 := Lib.hid ((B0.out.old k1).alloc (.cells #[.int .i64 x.a, .int .i64 x.n, .int .i64 x.c] 115))
  have X2 := Lib.hid (BxS.new W1 x)
  have H2 := Lib.hid (H.out.old k2)
  have hs := Lib.hid (Blk.lt (B0.out.old k1))
  have k2 := Lib.hid k2
  have hlow := Lib.hid (show W.heap.size ≤ W.heap.size from Nat.le_refl _)
  have s0 := Lib.hid (rfl : W.heap.size = W.heap.size)
  clear k0 k1 B0 hO
  have a1 := H2.out.box.cell 1
  simp only [List.getElem?_cons_succ, List.getElem?_cons_zero] at a1
  have x0 := X2.out.c0
  have x1 := X2.out.c1
  have hh : h < W1.heap.size + 1 := by have := H2.out.box.lt; simpa using this
  have ok1 := Lib.hid ok.out.a0
  have ok2 := Lib.hid ok.out.n1
  have ok3 := Lib.hid (show x.a + x.n ≤ 256 by have := ok.out.up; have := H.out.whole.pages; omega)
  go_upto_region 5 with fail
  go_cut [8, 9] from 25 to 37 (fun s t wx => t = .int .i64 0 ∧ ∃ A1 n1 c1, s = .slice A1 n1 c1 ∧ Hid (Rs wx A1 n1 (putL rl x.a x.n)) ∧ Hid (n1 ≤ c1) ∧ Hid (A1 = none → c1 = 0) ∧ Hid (∀ ad, A1 = some ad → W1.heap.size + 1 ≤ ad.block) ∧ Hid (Kept Old (W1.alloc (.cells #[.int .i64 x.a, .int .i64 x.n, .int .i64 x.c] 115)) wx))
  case first =>
    have hw2 : (W1.alloc (.cells #[.int .i64 x.a, .int .i64 x.n, .int .i64 x.c] 115)).heap.size = W1.heap.size + 1 := by simp
    have hw2 := Lib.hid hw2
    generalize W1.alloc (.cells #[.int .i64 x.a, .int .i64 x.n, .int .i64 x.c] 115) = W2 at *
    go_region_with (go_at_call 120; refine (put_ok A n c rl (x.a, x.n) _ (by first | exact H2.out.runs | exact H2.out.runs.drew) H2.out.whole.wide H2.out.cap H2.out.nil hn ok1.out ok2.out ok3.out fr.out).mono ?_; rintro e W3 ⟨v, rfl, A1, n1, c1, rfl, R3, hc3, ⟨z3, new3⟩, k3⟩)
    all_goals
      go_wp2_with fail
      go_meet
      exact ⟨rfl, A1, n1, c1, rfl, Lib.hid (by first | exact R3 | exact R3.drew), Lib.hid hc3, Lib.hid z3, Lib.hid (fun ad e => by rw [← hw2.out]; exact new3 ad e), Lib.hid (by first | exact k3 | exact ((Kept.refl Old W2).drew).trans k3)⟩
  case rest =>
    obtain ⟨rfl, A1, n1, c1, rfl, R3, hc3, z3, new3, k3⟩ := hcut
    obtain ⟨W4, e4, T4, a4, L4⟩ := H.out.free (k2.out.trans k3.out) rfl (B2.out.old k3.out) R3.out hc3.out z3.out (fun ad e => by have := new3.out ad e; have := hs.out; omega) wh.out
    have b1 := ((H2.out.old k3.out).box).cell 1
    simp only [List.getElem?_cons_succ, List.getElem?_cons_zero] at b1
    have bf := ((H2.out.old k3.out).box).frozen
    have T4 := Lib.hid T4
    have L4 := Lib.hid L4
    have hr := Lib.hid (show remX sl x.a = x ∧ remC sl x.a = 0 ∧ remL sl x.a = delL sl x.a from by simp [remX, remC, remL, hb.out])
    clear R3 hc3 z3 new3 k3 k2 B2 X2 H2 a1 x0 x1 hh ok1 ok2 ok3 fr ok wh
    go_wp2_with fail
    refine (st_rem x.a T4.out).mono ?_
    rintro e W5 ⟨rfl, T5, k5⟩
    rw [hr.out.2.2] at T5
    rw [hr.out.1, hr.out.2.1]
    obtain ⟨B5, L5⟩ := L4.out W5 T5 k5
    have b0 := B5.c0
    have b1 := B5.c1
    have b2 := B5.c2
    have bf := Blk.frozen B5
    obtain ⟨V, hV, v0, v1, v2, BV, KV⟩ := B5.put3 x
    have Q := Lib.hid (L5 V KV)
    generalize W.heap.size = s at *
    clear B5 L5 T5 k5 L4 T4 KV
    go_wp2
    exact bodyPost_ret (v := .tuple #[spn x, .int .i64 0]) (by simp [results, Tryz.results78, go_sem, v0, v1, v2]) rfl ⟨rfl, Q.out⟩
theorem hp_free {w0 W : World} {h : Nat} {P : Int} {rl : List R} {sl : List S} {F : Nat → Prop} (p : Int) (H : Hp w0 W h P rl sl F) :
    Calls Tryz.prog 78 #[ptr h, .int .i64 p] W (FreePost w0 h P F W (freeA rl sl p)) := by
  cases hb : begL sl p with
  | none => exact hp_free_no p H hb
  | some x => exact hp_free_yes p x H hb
end Go.Proofs.YtcndilpaijapkaaGreat
/- What Heap.Runs answers: make and copy at slices of runs. Own work; each is proved by a walk through the landed text. -/
namespace Go.Proofs.YtcndilpaijapkaaGreat
open Go.ChangeShapes Go.WideShapes Go.ChangeAt Go.RowKit
set_option maxRecDepth 100000

theorem Tryz.size2 : (Tryz.prog.info? 91).map (·.size) = some 2 := by kernel_rfl
/-- The builtin copy of k runs onto a block. -/
theorem copyR_own (w : World) {g : Nat} {cur cs : List Value} (o k : Nat) (T : TypeId) (h : Blk w g T cur) (dc sc dl sl : Nat) (ad : Addr) (hk : Nat.min sl dl = k) (hn : cs.length = k * 2) (hfit : o + cs.length ≤ cur.length) (h1 : ∀ u ∈ cs, u.oneCell' = true)
    (hs : ∀ j v, cs[j]? = some v → w.cell? (ad.add j) = some v) :
    ∃ w', (Builtin.copy_ #[92, 92] 3 #[.slice (some ⟨g, o, none⟩) dl dc, .slice (some ad) sl sc]).run Tryz.prog w = .ok (.int .i64 (k : Int)) w' ∧ Blk w' g T (over cur o cs) ∧ Kept (Only g) w w' := by
  have hl := run_loadCells_list (P := Tryz.prog) w ad cs hs
  have hst := run_storeCells_cells (P := Tryz.prog) g o cs 0 w (by simpa using fun j hj => h.mem (by omega)) (by simpa using fun j _ => h.frozen (o + j)) h1
  refine ⟨w.setCells g o cs, ?_, Blk.cells cs cur o w h hfit, kept_cells _ _ _ _⟩
  have hq := Tryz.size2
  cases hi : Tryz.prog.info? 91 with
  | none => simp [hi] at hq
  | some i =>
    have hz : i.size = 2 := by simpa [hi] using hq
    simp [Builtin.copy_, run_underlying Tryz.underlying92, Builtin.lenOf, Builtin.firstCells, sizeOf, typeInfo, hi, hz, hk, ← hn, hl, hst, goInt]
theorem copyR_own0 (w : World) (dc sc : Nat) (da sa : Option Addr) (sl dl : Nat) (hn : Nat.min sl dl = 0) :
    (Builtin.copy_ #[92, 92] 3 #[.slice da dl dc, .slice sa sl sc]).run Tryz.prog w = .ok (.int .i64 0) w := by
  have hq := Tryz.size2
  cases hi : Tryz.prog.info? 91 with
  | none => simp [hi] at hq
  | some i =>
    have hl : ∀ (x : Addr), (loadCells x 0).run Tryz.prog w = .ok #[] w := fun x => by simpa using run_loadCells_list (P := Tryz.prog) w x [] (by simp)
    cases da <;> cases sa <;> simp [Builtin.copy_, run_underlying Tryz.underlying92, Builtin.lenOf, Builtin.firstCells, sizeOf, typeInfo, hi, hn, storeCells, hl, goInt]
theorem cpR_wp {ops : Array Oper} {rest : List Oper} {o : Oper} {a : Act} {Q : Exit → Act → World → Prop} {w : World} (hgd : o.guard = none) (s x : Operand)
    (ho : o.op = .call { callee := .builtin .copy, args := #[s, x], argTypes := #[92, 92] }) (hty : o.type = 3)
    {g : Nat} {cur cs : List Value} (of k : Nat) (T : TypeId) (h : Blk w g T cur) (dc sc dl sl : Nat) (ad : Addr) (hs : a.eval s = .slice (some ⟨g, of, none⟩) dl dc) (hx : a.eval x = .slice (some ad) sl sc)
    (hk : Nat.min sl dl = k) (hn : cs.length = k * 2) (hfit : of + cs.length ≤ cur.length) (h1 : ∀ u ∈ cs, u.oneCell' = true) (hr : ∀ j v, cs[j]? = some v → w.cell? (ad.add j) = some v)
    (go : ∀ w', Hid (Blk w' g T (over cur of cs)) → Hid (Kept (Only g) w w') → wpList Tryz.prog ops Q rest (a.put o.dst (.int .i64 (k : Int))) w') : wpList Tryz.prog ops Q (o :: rest) a w := by
  refine wpList_plain hgd fun K hK => ?_
  obtain ⟨w', hrun, h2, h3⟩ := copyR_own w of k T h dc sc dl sl ad hk hn hfit h1 hr
  unfold Oper.wp execOp
  simp only [ho, hty, resolve, invoke, builtin, Sem.run_bind, Sem.run_pure, Result.andThen_ok, List.map_toArray, List.map_cons, List.map_nil, hs, hx, hrun]
  exact hK _ _ (go w' h2 h3)
theorem makeR (n : Nat) (h : n ≤ 3000) (w : World) : ∃ cs : List Value, cs.length = n * 2 ∧ (Instr.makeSlice 92 (.int .i64 (n : Int)) (.int .i64 (n : Int))).run Tryz.prog w = .ok (.slice (some ⟨w.heap.size, 0, none⟩) n n) (w.alloc (.cells cs.toArray 91)) := by
  obtain ⟨i0, hi, hz0, hz1, hz2⟩ := info_parts Tryz.runInfo
  have hr := run_make (P := Tryz.prog) w 92 91 i0 _ Tryz.underlying92 hi hz0 .i64 .i64 n n (by omega) (Int.le_refl _) (by rw [hz2]; omega) (by omega)
  simp only [Int.toNat_natCast, hz1] at hr
  exact ⟨(madeCells (Value.agg #[.int .i64 0, .int .i64 0]).cells (n * 2)).toList, by rw [Array.length_toList, size_madeCells], by rw [Array.toArray_toList]; exact hr⟩
/-- A block of runs reads as their list. -/
theorem Rs.ofBlk {w : World} {g : Nat} {l : List R} (h : Blk w g 91 (C l)) (hf : ∀ x ∈ l, in64 x.1 ∧ in64 x.2) : Rs w (some ⟨g, 0, none⟩) l.length l :=
  ⟨rfl, hf, fun _ => ⟨g, 0, rfl, Blk.lt h, fun i x hx => by
    have := C_get l i x hx
    rw [Nat.zero_add]
    exact ⟨(Blk.cell h _).trans this.1, (Blk.cell h _).trans this.2⟩⟩⟩
/-- The list that Runs answers: new memory. -/
def RunsPost (l : List R) (w : World) (e : Ending) (w' : World) : Prop := ∃ g, e = .returned (.slice (some ⟨g, 0, none⟩) l.length l.length) ∧ Rs w' (some ⟨g, 0, none⟩) l.length l ∧ Kept Old w w' ∧ w.heap.size ≤ g ∧ g < w'.heap.size
set_option maxHeartbeats 1000000 in
theorem hp_runs {w0 W : World} {h : Nat} {P : Int} {rl : List R} {sl : List S} {F : Nat → Prop} (H : Hp w0 W h P rl sl F) :
    Calls Tryz.prog 72 #[ptr h] W (RunsPost rl W) := by
  obtain ⟨q, A, n, c, H⟩ := H
  have hn := H.runs.len
  have hl : rl.length ≤ 257 := H.whole.len.1
  obtain rfl : rl.length = n := hn
  obtain ⟨cs, hcs, hm⟩ := makeR rl.length (by omega) W
  have k0 : Kept Old W (W.alloc (.cells cs.toArray 91)) := (Kept.refl _ _).alloc _
  have a1 := H.box.cell 1
  have d1 := (H.box.kept k0 (fun x => x)).cell 1
  simp only [List.getElem?_cons_succ, List.getElem?_cons_zero] at a1 d1
  have b0 := Lib.hid (Blk.new W 91 cs)
  have r1 := Lib.hid (H.runs.old k0)
  have fit := Lib.hid H.runs.fit
  have k0 := Lib.hid k0
  obtain ⟨V, hV⟩ : ∃ V, V = W.alloc (.cells cs.toArray 91) := ⟨_, rfl⟩
  rw [← hV] at hm d1 b0 r1 k0
  have hs : V.heap.size = W.heap.size + 1 := by rw [hV]; simp
  clear hV H
  have E : ∀ w', Hid (Blk w' W.heap.size 91 (C rl)) → Hid (Kept (Only W.heap.size) V w') → RunsPost rl W (.returned (.slice (some ⟨W.heap.size, 0, none⟩) rl.length rl.length)) w' := fun w' b k =>
    ⟨_, rfl, Rs.ofBlk b.out fit.out, k0.out.join k.out (fun i hi e => by have : i = W.heap.size := e; omega), Nat.le_refl _, Blk.lt b.out⟩
  have E := Lib.hid E
  by_cases hz : rl.length = 0
  · have e0 : rl = [] := List.eq_nil_of_length_eq_zero hz
    subst e0
    have cl : cs = [] := List.eq_nil_of_length_eq_zero (by simpa using hcs)
    subst cl
    have E := Lib.hid (E.out V b0 (Lib.hid (Kept.refl _ _)))
    have hm : (Instr.makeSlice 92 (.int .i64 0) (.int .i64 0)).run Tryz.prog W = .ok (.slice (some ⟨W.heap.size, 0, none⟩) 0 0) V := hm
    have a1 : W.cell? ⟨h, 1, none⟩ = some (.slice A 0 c) := a1
    have d1 : V.cell? ⟨h, 1, none⟩ = some (.slice A 0 c) := d1
    have cz := copyR_own0 V 0 c (some ⟨W.heap.size, 0, none⟩) A 0 0 rfl
    clear hcs b0 r1 fit
    go_enter Tryz.func72, Tryz.ntmps72
    go_wp2
    go_ret
    exact E.out
  · obtain ⟨g, o, rfl, _⟩ := r1.out.lies (by omega)
    have f1 := Lib.hid (show 0 + (C rl).length ≤ cs.length from by rw [C_length]; omega)
    have f2 := Lib.hid (show (C rl).length = rl.length * 2 from C_length rl)
    have o1 : over cs 0 (C rl) = C rl := by
      unfold over
      rw [List.drop_eq_nil_of_le (by rw [C_length]; omega)]
      simp
    have o1 := Lib.hid o1
    have s1 := Lib.hid r1.out.cells
    have c2 := Lib.hid (C_one rl)
    have hcs := Lib.hid hcs
    clear r1
    go_enter Tryz.func72, Tryz.ntmps72
    go_wp2_with (refine cpR_wp (cs := C rl) rfl (.tmp 12) (.tmp 16) rfl rfl 0 rl.length 91 b0.out rl.length c rl.length rl.length ⟨g, o, none⟩ rfl rfl (Nat.min_self _) f2.out f1.out c2.out s1.out ?_; intro w2 b2 k2; rw [o1.out] at b2; have E := Lib.hid (E.out w2 b2 k2))
    go_ret
    exact E.out
end Go.Proofs.YtcndilpaijapkaaGreat
