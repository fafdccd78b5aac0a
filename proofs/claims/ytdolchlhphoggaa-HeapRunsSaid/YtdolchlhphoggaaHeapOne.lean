/-
  A heap and the document's own shop side by side (Both): an Alloc and a Free of both (one), and that their lists are alike (Same). Own work; each is proved by a walk through the landed text.
-/
import Derived.Test.YtdolchlhphoggaaRows
import Derived.Test.YtdolchlhphoggaaShopFree
import Derived.Test.YtdolchlhphoggaaShopAllocN
import Derived.Test.YtdolchlhphoggaaShopAllocS
import Derived.Test.YtdolchlhphoggaaHeapRuns
import Derived.Test.YtdolchlhphoggaaSpanRof
namespace Go.Proofs.Ytdolchlhphoggaa
open Go.ChangeShapes Go.WideShapes Go.ChangeAt Go.RowKit
set_option maxRecDepth 100000

theorem Sp.at_s {W : World} {s : Nat} {P : Int} {rl : List R} {sl : List S} {F : Nat → Prop} (H : Sp W s P rl sl F) : F s := by
  obtain ⟨A, n, c, B, m, d, r, H⟩ := H
  exact H.at_s
theorem Sp.lt {W : World} {s : Nat} {P : Int} {rl : List R} {sl : List S} {F : Nat → Prop} (H : Sp W s P rl sl F) : s < W.heap.size := by
  obtain ⟨A, n, c, B, m, d, r, H⟩ := H
  exact H.size
theorem shop_ok {W : World} {s : Nat} {P : Int} {rl : List R} {sl : List S} {F : Nat → Prop} (n cl : Int) (H : Sp W s P rl sl F) (wh : Whole P rl sl) (hn : 1 ≤ n) (c0 : 0 ≤ cl) (c7 : cl < 8) (i : Nat) (x : R) (f : fitAt rl n = some (i, x)) :
    Calls Try.prog 40 #[ptr s, .int .i64 n, .int .i64 cl] W (SpPost s P F W ⟨x.1, 0, takeL rl n i x, insL sl ⟨x.1, n, cl⟩⟩) := by
  obtain ⟨A, k, c, B, m, d, r, HA⟩ := H
  rcases HA.shape with sh | sh
  · exact shop_okN n cl HA (Lib.hid sh) wh hn c0 c7 i x f
  · exact shop_okS n cl HA sh wh hn c0 c7 i x f
/-- The document's Alloc. -/
theorem shop_alloc {W : World} {s : Nat} {P : Int} {rl : List R} {sl : List S} {F : Nat → Prop} (n cl : Int) (H : Sp W s P rl sl F) (wh : Whole P rl sl) :
    Calls Try.prog 29 #[ptr s, .int .i64 n, .int .i64 cl] W (SpPost s P F W (allocA rl sl n cl)) := by
  have bad : ¬ (0 ≤ cl ∧ cl < 8 ∧ 1 ≤ n) → SpPost s P F W (allocA rl sl n cl) (.returned (.tuple #[.int .i64 0, .int .i64 1])) W := fun h => by
    rw [allocA_bad h]
    exact ⟨rfl, H.mono (fun b hb => .inl hb), Kept.refl _ _⟩
  by_cases hn : n < 1
  · have Q := Lib.hid (bad (by omega))
    clear bad
    go_enter Try.func29, Try.ntmps29
    go_wp2
    go_ret2
    exact Q.out
  · by_cases c0 : cl < 0
    · have Q := Lib.hid (bad (by omega))
      clear bad
      go_enter Try.func29, Try.ntmps29
      go_wp2
      go_ret2
      exact Q.out
    · by_cases c7 : 8 ≤ cl
      · have Q := Lib.hid (bad (by omega))
        clear bad
        go_enter Try.func29, Try.ntmps29
        go_wp2
        go_ret2
        exact Q.out
      · have C : Calls Try.prog 40 #[ptr s, .int .i64 n, .int .i64 cl] W (SpPost s P F W (allocA rl sl n cl)) := by
          cases f : fitAt rl n with
          | none => rw [allocA_full ⟨by omega, by omega, by omega⟩ f]; exact shop_full n cl H wh (by omega) f
          | some q =>
            obtain ⟨i, x⟩ := q
            rw [allocA_ok ⟨by omega, by omega, by omega⟩ f]
            exact shop_ok n cl H wh (by omega) (by omega) (by omega) i x f
        have C := Lib.hid C
        clear bad
        generalize allocA rl sl n cl = o at *
        go_enter Try.func29, Try.ntmps29
        go_wp2_with fail
        refine C.out.mono ?_
        rintro e W1 ⟨rfl, Q⟩
        have Q := Lib.hid Q
        go_wp2
        go_ret2
        exact ⟨rfl, Q.out⟩
/-- A heap and a shop of the same pages, runs and spans. -/
def Both (w0 W : World) (h s : Nat) (P : Int) (rl : List R) (sl : List S) : Prop := ∃ F, Hp w0 W h P rl sl F ∧ Sp W s P rl sl F ∧ w0.heap.size ≤ s
theorem Both.old {w0 W W' : World} {h s : Nat} {P : Int} {rl : List R} {sl : List S} (B : Both w0 W h s P rl sl) (k : Kept Old W W') : Both w0 W' h s P rl sl := by
  obtain ⟨F, H, S, low⟩ := B
  exact ⟨F, H.old k, S.old k, low⟩
theorem Both.kept {w0 W : World} {h s : Nat} {P : Int} {rl : List R} {sl : List S} (B : Both w0 W h s P rl sl) : Kept Old w0 W := by
  obtain ⟨F, H, S, low⟩ := B
  exact H.kept
theorem Both.whole {w0 W : World} {h s : Nat} {P : Int} {rl : List R} {sl : List S} (B : Both w0 W h s P rl sl) : Whole P rl sl := by
  obtain ⟨F, H, S, low⟩ := B
  exact H.whole
theorem Both.heap {w0 W : World} {h s : Nat} {P : Int} {rl : List R} {sl : List S} (B : Both w0 W h s P rl sl) : ∃ F, Hp w0 W h P rl sl F := by
  obtain ⟨F, H, S, low⟩ := B
  exact ⟨F, H⟩
set_option maxHeartbeats 2000000 in
theorem oneH_any {w0 W : World} {h s : Nat} {P : Int} {rl : List R} {sl : List S} (n cl p : Int) (B : Both w0 W h s P rl sl) :
    Calls Try.prog 13 #[ptr h, ptr s, .int .i64 n, .int .i64 cl, .int .i64 p] W fun e W' => e = .returned (.bool true) ∧ ∃ rl' sl', Both w0 W' h s P rl' sl' := by
  obtain ⟨F, H, S, low⟩ := B
  have wh := H.whole
  have wh1 := wh.allocA n cl
  have C1 := Lib.hid (hp_alloc n cl H)
  have C2 := Lib.hid (fun W1 (S1 : Sp W1 s P rl sl F) => shop_alloc n cl S1 wh)
  generalize allocA rl sl n cl = o at *
  have C3 := Lib.hid (fun W1 G (H1 : Hp w0 W1 h P o.rl o.sl G) => hp_free p H1)
  have C4 := Lib.hid (fun W1 G (S1 : Sp W1 s P o.rl o.sl G) (hG : ∀ b, G b → b < W1.heap.size) => shop_free p S1 wh1 hG)
  generalize freeA o.rl o.sl p = u at *
  have S := Lib.hid S
  have low := Lib.hid low
  clear H wh wh1
  go_enter Try.func13, Try.ntmps13
  go_wp2_with fail
  refine C1.out.mono ?_
  rintro e W1 ⟨rfl, H1, k1⟩
  have S1 := Lib.hid (S.out.fr k1 (fun b hb e => e hb))
  have H1 := Lib.hid H1
  clear k1 S C1
  go_wp2_with fail
  refine (C2.out W1 S1.out).mono ?_
  rintro e W2 ⟨rfl, S2, k2⟩
  have H2 := Lib.hid (H1.out.moreD (G := Fw F W1 W2) k2 (fun b e => by have : b = s := e; subst this; exact ⟨S1.out.at_s, low.out⟩) (fun b hb => hb))
  have S2 := Lib.hid S2
  clear k2 S1 H1 C2
  go_wp2_with fail
  refine (C3.out W2 _ H2.out).mono ?_
  rintro e W3 ⟨rfl, H3, k3⟩
  have S3 := S2.out.fr k3 (fun b hb e => e hb)
  have k4 := (Kept.refl Old W3).alloc (.cells #[.int .i64 u.x.a, .int .i64 u.x.n, .int .i64 u.x.c] 44)
  have S4 := Lib.hid (S3.old k4)
  have H4 := Lib.hid (H3.old k4)
  have X4 := Lib.hid (BxS.new W3 u.x)
  have hx := Lib.hid (show W3.heap.size ≠ s from fun e => by have := S3.lt; omega)
  clear k3 k4 S2 H2 S3 H3 C3
  go_wp2_with fail
  refine (C4.out _ _ S4.out (fun b hb => H4.out.lt hb)).mono ?_
  rintro e W5 ⟨rfl, S5, k5⟩
  have H5 := H4.out.moreD (G := Fw (Fw F W1 W2) (W3.alloc (.cells #[.int .i64 u.x.a, .int .i64 u.x.n, .int .i64 u.x.c] 44)) W5) k5 (fun b e => by have : b = s := e; subst this; exact ⟨S4.out.at_s, low.out⟩) (fun b hb => hb)
  have X5 := X4.out.kept k5 (fun e => hx.out (show W3.heap.size = s from e))
  have k6 := (Kept.refl Old W5).alloc (.cells #[.int .i64 u.x.a, .int .i64 u.x.n, .int .i64 u.x.c] 44)
  have Q : ∃ rl' sl', Both w0 (W5.alloc (.cells #[.int .i64 u.x.a, .int .i64 u.x.n, .int .i64 u.x.c] 44)) h s P rl' sl' := ⟨u.rl, u.sl, _, H5.old k6, S5.old k6, low.out⟩
  have Q := Lib.hid Q
  have x0 := X5.c0
  have x1 := X5.c1
  have x2 := X5.c2
  have hlt := Blk.lt X5
  clear k5 k6 H5 S5 X5 X4 H4 S4 C4 hx
  go_wp2
  go_ret
  exact ⟨rfl, Q.out⟩
set_option maxHeartbeats 2000000 in
theorem sameH_any {w0 W : World} {h s : Nat} {P : Int} {rl : List R} {sl : List S} (B : Both w0 W h s P rl sl) :
    Calls Try.prog 14 #[ptr h, ptr s] W fun e W' => e = .returned (.bool true) ∧ Kept Old W W' := by
  have wl := B.whole.len
  have kd : Kept Old W W.drew := (Kept.refl Old W).drew
  obtain ⟨F, H, ⟨A, n, c, B', m, d, r, S⟩, low⟩ := B
  obtain rfl : rl.length = n := S.runs.len
  obtain rfl : sl.length = m := S.spans.len
  have H0 := Lib.hid (H.old kd)
  have S0 := Lib.hid (S.old kd)
  have a1 := S0.out.box.cell 1
  have a2 := S0.out.box.cell 2
  simp only [List.getElem?_cons_succ, List.getElem?_cons_zero] at a1 a2
  have kd := Lib.hid kd
  obtain ⟨wl1, wl2⟩ := wl
  clear H S low
  go_enter Try.func14, Try.ntmps14
  go_wp2_with fail
  go_region_with (first
    | (go_at_call 20; refine (hp_runs H0.out).mono ?_; rintro e W1 ⟨g, rfl, R1, k1, -, -⟩; have b1 := cellS_on k1 a1; have b2 := cellS_on k1 a2; have R1 := Lib.hid R1; have k1 := Lib.hid k1)
    | (go_at_call 25; refine (same_yes _ _ rl.length _ _ rl _ R1.out (S0.out.old k1.out).runs (by omega)).mono ?_; rintro e W2 ⟨rfl, k2⟩; have c2 := cellS_on (k1.out.trans k2) a2; have k2 := Lib.hid (k1.out.trans k2))
    | (go_at_call 21; refine (hp_spans (H0.out.old k2.out)).mono ?_; rintro e W3 ⟨A5, c5, rfl, R5, k5, -⟩; have d2 := cellS_on (k2.out.trans k5) a2; have R5 := Lib.hid R5; have k5 := Lib.hid (k2.out.trans k5))
    | (go_at_call 31; refine (sameS_yes _ _ sl.length _ _ sl _ R5.out (S0.out.old k5.out).spans (by omega)).mono ?_; rintro e W4 ⟨rfl, k6⟩; have k6 := Lib.hid (kd.out.trans (k5.out.trans k6))))
  all_goals
    go_wp2
    go_ret
    exact ⟨rfl, k6.out⟩
end Go.Proofs.Ytdolchlhphoggaa
