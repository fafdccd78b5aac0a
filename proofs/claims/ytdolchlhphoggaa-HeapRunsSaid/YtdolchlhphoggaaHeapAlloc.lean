/-
  What Heap.Alloc answers, and what it leaves. Own work; each is proved by a walk through the landed text.
-/
import Derived.Test.YtdolchlhphoggaaRows
import Derived.Test.YtdolchlhphoggaaHeapSt
namespace Go.Proofs.Ytdolchlhphoggaa
open Go.ChangeShapes Go.WideShapes Go.ChangeAt Go.RowKit
set_option maxRecDepth 100000

/-- The heap behind a store of its new list of runs. -/
theorem HpAt.store {w0 W0 W : World} {h : Nat} {P : Int} {rl rl' : List R} {sl sl' : List S} {F : Nat → Prop} {q : Nat} {A A' : Option Addr} {n n' c c' : Nat} (H : HpAt w0 W0 h P rl sl F q A n c)
    (B : Blk W h 70 [.int .i64 P, .slice A n c, ptr q]) (R' : Rs W A' n' rl') (hc : n' ≤ c') (hn : A' = none → c' = 0) (new : ∀ ad, A' = some ad → W0.heap.size ≤ ad.block) (T : StS w0 W q P sl' (FH F h A' n')) (wh : Whole P rl' sl') (K : Kept (Fr F) W0 W) :
    Hp w0 (W.setCell ⟨h, 1, none⟩ (.slice A' n' c')) h P rl' sl' F ∧ Kept (Fr F) W0 (W.setCell ⟨h, 1, none⟩ (.slice A' n' c')) := by
  have k : Kept (Only h) W (W.setCell ⟨h, 1, none⟩ (.slice A' n' c')) := only_setCell _ _ _ _
  have hl := H.box.lt
  have ne : ∀ b, FR A' n' b → W0.heap.size ≤ b := fun b ⟨_, ad, e, hb⟩ => by rw [← hb]; exact new ad e
  refine ⟨⟨q, A', n', c', B.put 1 _, R'.fr k (fun b hb e => ?_), hc, hn, T.only (.inr (.inl rfl)) H.low k, wh, H.low, fun b hb => ⟨(H.far b hb).1, fun z => ?_⟩⟩, K.join k (fun i _ e => ?_)⟩
  · have := ne b hb
    have : b = h := e
    omega
  · have := ne b z
    have := H.tab.lt (b := b) (.inl hb)
    omega
  · have : i = h := e
    subst this
    exact fun z => (H.far _ z).1 rfl
theorem allocA_bad {rl : List R} {sl : List S} {n cl : Int} (h : ¬ (0 ≤ cl ∧ cl < 8 ∧ 1 ≤ n)) : allocA rl sl n cl = ⟨0, 1, rl, sl⟩ := by unfold allocA; rw [if_neg h]
theorem allocA_full {rl : List R} {sl : List S} {n cl : Int} (h : 0 ≤ cl ∧ cl < 8 ∧ 1 ≤ n) (f : fitAt rl n = none) : allocA rl sl n cl = ⟨0, 3, rl, sl⟩ := by unfold allocA; rw [if_pos h, f]
theorem allocA_ok {rl : List R} {sl : List S} {n cl : Int} {i : Nat} {x : R} (h : 0 ≤ cl ∧ cl < 8 ∧ 1 ≤ n) (f : fitAt rl n = some (i, x)) : allocA rl sl n cl = ⟨x.1, 0, takeL rl n i x, insL sl ⟨x.1, n, cl⟩⟩ := by unfold allocA; rw [if_pos h, f]
/-- What Alloc answers, and leaves. -/
def AllocPost (w0 : World) (h : Nat) (P : Int) (F : Nat → Prop) (W : World) (o : AnsA) (e : Ending) (W' : World) : Prop :=
  e = .returned (.tuple #[.int .i64 o.x, .int .i64 o.e]) ∧ Hp w0 W' h P o.rl o.sl F ∧ Kept (Fr F) W W'
set_option maxHeartbeats 1000000 in
theorem hp_alloc {w0 W : World} {h : Nat} {P : Int} {rl : List R} {sl : List S} {F : Nat → Prop} (n cl : Int) (H : Hp w0 W h P rl sl F) :
    Calls Try.prog 18 #[ptr h, .int .i64 n, .int .i64 cl] W (AllocPost w0 h P F W (allocA rl sl n cl)) := by
  by_cases c0 : 0 ≤ cl
  · by_cases c7 : cl < 8
    · have H' := H
      obtain ⟨q, A, k, c, HA⟩ := H
      have a1 := HA.box.cell 1
      have a2 := HA.box.cell 2
      simp only [List.getElem?_cons_succ, List.getElem?_cons_zero] at a1 a2
      have hk : k ≤ 257 := by have := HA.whole.len; have := HA.runs.len; omega
      by_cases hn : 1 ≤ n
      · cases f : fitAt rl n with
        | none =>
          rw [allocA_full ⟨c0, c7, hn⟩ f]
          have hT := Lib.hid (take_full A k c rl n W HA.runs hn (fit_at_none f) (by omega))
          have H' := Lib.hid H'
          clear HA f hk
          go_enter Try.func18, Try.ntmps18
          go_wp2_with fail
          refine hT.out.mono ?_
          rintro e W1 ⟨rfl, k1⟩
          have Q := Lib.hid (⟨H'.out.old k1, k1.any⟩ : Hp w0 W1 h P rl sl F ∧ Kept (Fr F) W W1)
          clear k1 H' hT
          go_wp2
          go_ret2
          exact ⟨rfl, Q.out⟩
        | some p =>
          obtain ⟨i, x⟩ := p
          rw [allocA_ok ⟨c0, c7, hn⟩ f]
          have f := fit_at_some f
          have hT := Lib.hid (take_ok A k c rl n i x W HA.runs HA.whole.wide HA.cap hn f (by omega))
          obtain ⟨ok, hit, wh⟩ := HA.whole.alloc f hn c0 c7
          have ok := Lib.hid ok
          have hit := Lib.hid hit
          have wh := Lib.hid wh
          have HA := Lib.hid HA
          clear f hk H'
          go_enter Try.func18, Try.ntmps18
          go_wp2_with fail
          refine hT.out.mono ?_
          rintro e W1 ⟨v, rfl, A1, n1, c1, rfl, R1, hc1, ⟨z1, new1⟩, k1⟩
          have T1 : StS w0 W1 q P sl (FH F h A1 n1) := HA.out.tab.more k1 (fun b hb => by
            rcases hb with hb | hb | hb
            · exact .inl (.inl hb)
            · exact .inl (.inr (.inl hb))
            · refine .inr ⟨?_, R1.ltB hb⟩
              obtain ⟨_, ad, e, hb⟩ := hb
              rw [← hb]
              exact new1 ad e)
          have T1 := Lib.hid T1
          have B1 := Lib.hid (HA.out.box.kept k1 (fun x => x))
          have R1 := Lib.hid R1
          have new1 := Lib.hid new1
          have z1 := Lib.hid z1
          have hc1 := Lib.hid hc1
          have a2 := B1.out.cell 2
          simp only [List.getElem?_cons_succ, List.getElem?_cons_zero] at a2
          have k1 := Lib.hid k1
          clear hT
          go_wp2_with fail
          have ft : Fit (⟨x.1, n, cl⟩ : S) := by
            have o := ok_of ok.out
            have p := HA.out.whole.pages
            obtain ⟨o1, o2, o3, o4, o5⟩ := o
            simp only at o1 o2 o3 o4 o5
            exact ⟨⟨by show _ ≤ x.1; omega, by show x.1 ≤ _; omega⟩, ⟨by show _ ≤ n; omega, by show n ≤ _; omega⟩, ⟨by show _ ≤ cl; omega, by show cl ≤ _; omega⟩⟩
          refine (st_add ⟨x.1, n, cl⟩ T1.out ft).mono ?_
          rintro e W2 ⟨rfl, T2, k2⟩
          rw [show addL P sl ⟨x.1, n, cl⟩ = insL sl ⟨x.1, n, cl⟩ by unfold addL; rw [if_pos ok.out, if_neg (by rw [hit.out]; decide)]] at T2
          rw [show addC P sl ⟨x.1, n, cl⟩ = 0 by unfold addC; rw [if_pos ok.out, if_neg (by rw [hit.out]; decide)]]
          have B2 := B1.out.kept k2 (fun e => e (.inr (.inl rfl)))
          have R2 := R1.out.fr k2 (fun b hb e => e (.inr (.inr hb)))
          have KK : Kept (Fr F) W W2 := (Kept.any k1.out).trans (k2.mono fun i e z => e (.inl z))
          have Q := Lib.hid (HA.out.store B2 R2 hc1.out z1.out new1.out T2 wh.out KK)
          have d1 := B2.cell 1
          simp only [List.getElem?_cons_succ, List.getElem?_cons_zero] at d1
          have df := B2.frozen
          clear T2 k2 B2 R2 KK B1 R1 T1 k1 ok hit wh HA ft a2 hc1 z1 new1
          go_wp2
          go_ret2
          exact ⟨rfl, Q.out⟩
      · rw [allocA_bad (by omega)]
        have hT := Lib.hid (take_bad A k c n W (by omega))
        have H' := Lib.hid H'
        clear HA hk
        go_enter Try.func18, Try.ntmps18
        go_wp2_with fail
        refine hT.out.mono ?_
        rintro e W1 ⟨rfl, k1⟩
        have Q := Lib.hid (⟨H'.out.old k1, k1.any⟩ : Hp w0 W1 h P rl sl F ∧ Kept (Fr F) W W1)
        clear k1 H' hT
        go_wp2
        go_ret2
        exact ⟨rfl, Q.out⟩
    · rw [allocA_bad (by omega)]
      have H := Lib.hid H
      go_enter Try.func18, Try.ntmps18
      go_wp2
      go_ret2
      exact ⟨rfl, H.out, Kept.refl _ _⟩
  · rw [allocA_bad (by omega)]
    have H := Lib.hid H
    go_enter Try.func18, Try.ntmps18
    go_wp2
    go_ret2
    exact ⟨rfl, H.out, Kept.refl _ _⟩
end Go.Proofs.Ytdolchlhphoggaa
