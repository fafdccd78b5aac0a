/-
  What the document's own HeapAlloc answers where a run is long enough and there is a list of spans. Own work; each is proved by a walk through the landed text.
-/
import Derived.Test.YtdolchlhphoggaaRows
import Derived.Test.YtdolchlhphoggaaShopAlloc
namespace Go.Proofs.Ytdolchlhphoggaa
open Go.ChangeShapes Go.WideShapes Go.ChangeAt Go.RowKit
set_option maxRecDepth 100000

set_option maxHeartbeats 8000000 in
theorem shop_okS {W : World} {s : Nat} {P : Int} {rl : List R} {sl : List S} {F : Nat → Prop} {A : Option Addr} {k c : Nat} {B : Option Addr} {m d : Nat} {r : List Value} (n cl : Int) (HA : SpAt W s P rl sl F A k c B m d r) (sh : ∃ g o, B = some ⟨g, o, none⟩) (wh : Whole P rl sl) (hn : 1 ≤ n) (c0 : 0 ≤ cl) (c7 : cl < 8) (i : Nat) (x : R) (f : fitAt rl n = some (i, x)) :
    Calls Try.prog 40 #[ptr s, .int .i64 n, .int .i64 cl] W (SpPost s P F W ⟨x.1, 0, takeL rl n i x, insL sl ⟨x.1, n, cl⟩⟩) := by
  have f := fit_at_some f
  obtain ⟨ok, hit, _⟩ := wh.alloc f hn c0 c7
  have hl0 := HA.size
  have a1 := HA.box.cell 1
  simp only [List.getElem?_cons_succ, List.getElem?_cons_zero] at a1
  have hlen := HA.spans.len
  have hm : m ≤ 256 := by have := wh.len; omega
  have hT := Lib.hid (rtake_ok A k c rl n i x W HA.runs wh.wide hn f (by have := wh.len; have := HA.runs.len; omega))
  have hle : placeL sl x.1 ≤ m := by have := place_le sl x.1; omega
  have hins : insL sl ⟨x.1, n, cl⟩ = sl.take (placeL sl x.1) ++ ⟨x.1, n, cl⟩ :: sl.drop (placeL sl x.1) := rfl
  obtain ⟨j, hj⟩ : ∃ j, placeL sl x.1 = j := ⟨_, rfl⟩
  have hlo := Lib.hid (fun i y => place_lo sl x.1 (i := i) (y := y))
  have hhi := Lib.hid (fun i y => miss_all wh.good hit (i := i) (y := y))
  have HG := Lib.hid wh.good
  simp only at hhi
  rw [hj] at hle hlo hhi hins
  rw [hins]
  have ok := ok_of ok
  obtain ⟨o1, o2, o3, o4, o5⟩ := ok
  simp only at o1 o2 o3 o4 o5
  have p2 := wh.pages.2
  have fx := Lib.hid (show Fit ⟨x.1, n, cl⟩ from ⟨⟨by show _ ≤ x.1; omega, by show x.1 ≤ _; omega⟩, ⟨by show _ ≤ n; omega, by show n ≤ _; omega⟩, ⟨by show _ ≤ cl; omega, by show cl ≤ _; omega⟩⟩)
  have HA := Lib.hid HA
  clear wh hit hlen hj hins f
  go_enter Try.func40, Try.ntmps40
  go_wp2_with fail
  refine hT.out.mono ?_
  rintro e W1 ⟨v, rfl, A1, n1, c1, rfl, R1, hc1, ⟨z1, new1⟩, k1⟩
  obtain ⟨H2, k2⟩ := HA.out.setRuns k1 R1 hc1 z1 new1
  have H2 := Lib.hid H2
  have k2 := Lib.hid k2
  have B1 := HA.out.box.kept k1 (fun x => x)
  have d1 := B1.cell 1
  simp only [List.getElem?_cons_succ, List.getElem?_cons_zero] at d1
  have df := B1.frozen
  have s1 := Lib.hid k1.size
  clear hT R1 hc1 z1 new1 k1 B1
  go_wp2_with fail
  have sz := Lib.hid (size_set W1 ⟨s, 1, none⟩ (.slice A1 n1 c1))
  generalize W1.setCell ⟨s, 1, none⟩ (.slice A1 n1 c1) = W2 at *
  have a2 := H2.out.box.cell 2
  simp only [List.getElem?_cons_succ, List.getElem?_cons_zero] at a2
  have hl2 := H2.out.size
  clear d1 df a1
  go_loopw [11, 12] (fun e q wr => ∃ k : Nat, k ≤ m ∧ e = .int .i64 ((if k ≤ j then k else j : Nat) : Int) ∧ q = .int .i64 (k : Int) ∧ wr = W2) (fun _ q _ => m - (intOf q).toNat)
  case atStart => exact ⟨0, by omega, by simp, rfl, rfl⟩
  case round =>
    obtain ⟨q, hq, rfl, rfl, rfl⟩ := hrel
    by_cases cq : q < m
    · obtain ⟨gg, o, y', rfl, hgl, hx, f1, b0, b1, b2⟩ := H2.out.spans.get (k := q) (by omega)
      have n1' := (HG.out.at hx).n1
      by_cases dq : q < j
      · have z := hlo.out q y' hx dq
        have t1 : y'.a < x.1 := by omega
        rw [if_pos (by omega)]
        clear hx f1
        go_wp2
        refine ⟨⟨q + 1, by omega, by rw [if_pos (by omega)]; go_num, by go_num, trivial⟩, ?_⟩
        simp [intOf]; omega
      · have z := hhi.out q y' hx (by omega)
        have t1 : ¬ y'.a < x.1 := by omega
        have e : (if q ≤ j then q else j) = j := by by_cases h : q ≤ j; rw [if_pos h]; omega; rw [if_neg h]
        rw [e]
        clear hx f1 e
        go_wp2
        refine ⟨⟨q + 1, by omega, by rw [if_neg (by omega)], by go_num, trivial⟩, ?_⟩
        simp [intOf]; omega
    · have e : (if q ≤ j then q else j) = j := by by_cases h : q ≤ j; rw [if_pos h]; omega; rw [if_neg h]
      rw [e]
      clear e
      go_wp2_with fail
      rename World => V
      have hjc : j ≤ d := by have := H2.out.scap; omega
      have hjm : (j : Int) ≤ (m : Int) := by omega
      have R1 := Lib.hid (H2.out.spans.take (i := j) (by omega))
      have E := Lib.hid (show ∀ A' c' w', Hid (OwS w' V.heap.size (.slice A' (j + 1 + (m - j)) c') (j + 1 + (m - j)) (sl.take j ++ [⟨x.1, n, cl⟩] ++ sl.drop j)) → Hid (Kept Old V w') → Sp (w'.setCell ⟨s, 2, none⟩ (.slice A' (j + 1 + (m - j)) c')) s P (takeL rl n i x) (sl.take j ++ ⟨x.1, n, cl⟩ :: sl.drop j) (Fw F W (w'.setCell ⟨s, 2, none⟩ (.slice A' (j + 1 + (m - j)) c'))) ∧ Kept (Only s) W (w'.setCell ⟨s, 2, none⟩ (.slice A' (j + 1 + (m - j)) c')) from fun A' c' w' O k => by
        have o := O.out
        rw [List.append_assoc, List.singleton_append] at o
        obtain ⟨H3, k3⟩ := H2.out.setSpans k.out o
        have z1 := k.out.size
        have z2 := s1.out
        have z3 := sz.out
        refine ⟨H3.grow (fun b hb => ?_), k2.out.trans k3⟩
        unfold Fw at hb ⊢
        rw [size_set]
        rcases hb with (hb | hb) | hb
        · exact .inl hb
        · exact .inr (by omega)
        · exact .inr (by omega))
      have fz := Lib.hid (fun w' (k : Kept Old V w') => (⟨cellS_on k a2, (H2.out.box.kept k (fun x => x)).frozen 2⟩ : w'.cell? ⟨s, 2, none⟩ = some (.slice B m d) ∧ w'.frozen? ⟨s, 2, none⟩ = false))
      have bY := Lib.hid (show BxS ((V.alloc (.cells #[] 44)).alloc (.cells #[.int .i64 x.1, .int .i64 n, .int .i64 cl] 44)) (V.heap.size + 1) ⟨x.1, n, cl⟩ from by simpa using BxS.new (V.alloc (.cells #[] 44)) ⟨x.1, n, cl⟩)
      have eY := Lib.hid (show Blk ((V.alloc (.cells #[.int .i64 x.1, .int .i64 n, .int .i64 cl] 44)).alloc (.cells #[] 44)) (V.heap.size + 1) 44 [] from by simpa using Blk.new (V.alloc (.cells #[.int .i64 x.1, .int .i64 n, .int .i64 cl] 44)) 44 [])
      obtain ⟨g, o, rfl⟩ := sh
      · obtain ⟨A', hA', R2⟩ : ∃ A' : Option Addr, (if d = j then some (⟨g, o, none⟩ : Addr) else some ⟨g, o + j * 3, none⟩) = A' ∧ Hid (RsS V A' (m - j) (sl.drop j)) := ⟨_, rfl, Lib.hid (H2.out.spans.tail _ fun g' o' e h => by injection e with e; injection e with e1 e2; subst e1; subst e2; exact if_neg (by have := H2.out.scap; omega))⟩
        have hA'' : A' ≠ none := by rw [← hA']; split <;> simp
        clear HA H2 k2 s1 sz
        go_region_law (first
          | (refine emp_step (W := V) rfl (.tmp 52) (.tmp 58) rfl rfl (some ⟨g, o, none⟩) j d (sl.take j) (by first | rfl | simp [Act.eval, Act.put]) R1.out (fun h => by cases h) (by omega) (by first | exact ((Kept.refl Old V).alloc _).drew | exact (((Kept.refl Old V).alloc _).alloc _).drew) (by first | exact ⟨V.heap.size, rfl, Blk.new V _ [], Nat.le_refl _⟩ | exact ⟨V.heap.size, rfl, Blk.alloc (Blk.new V _ []) _, Nat.le_refl _⟩ | exact ⟨V.heap.size + 1, rfl, eY.out, Nat.le_succ _⟩) ?_; intro v1 w1 O1 K1 pr; have z1 := (fz.out w1 K1.out).1; have q1 := Nat.lt_of_lt_of_le hl2 K1.out.size)
          | (refine one_step (W := V) rfl (.tmp 59) (.tmp 64) rfl rfl v1 j (sl.take j) (by first | rfl | simp [Act.eval, Act.put]) ⟨x.1, n, cl⟩ fx.out (by omega) (by first | exact O1.out | exact O1.out.alloc _) (by first | exact K1.out | exact K1.out.alloc _) (by first | exact ⟨w1.heap.size, rfl, BxS.new w1 ⟨x.1, n, cl⟩⟩ | exact ⟨V.heap.size + 1, rfl, pr.out _ _ bY.out⟩ | exact ⟨V.heap.size, rfl, pr.out _ _ (BxS.alloc (BxS.new V ⟨x.1, n, cl⟩) _)⟩) ?_; intro v2 w2 O2 K2; have z2 := (fz.out w2 K2.out).1; have q2 := Nat.lt_of_lt_of_le hl2 K2.out.size)
          | (refine cutE_step (W := V) rfl (.tmp 65) (.tmp 71) rfl rfl v2 (j + 1) ((sl.take j) ++ [⟨x.1, n, cl⟩]) (by first | rfl | simp [Act.eval, Act.put]) A' (m - j) (d - j) (sl.drop j) (by first | rfl | simp [Act.eval, Act.put]) R2.out (fun h => absurd h hA'') (by omega) (by omega) O2.out K2.out ?_; intro A3 c3 w3 O3 K3; have z3 := (fz.out w3 K3.out).1; have f3 := (fz.out w3 K3.out).2; have q3 := Nat.lt_of_lt_of_le hl2 K3.out.size))
        all_goals
          have E := Lib.hid (E.out A3 c3 w3 O3 K3)
          go_wp2
          go_ret2
          exact ⟨rfl, E.out⟩
end Go.Proofs.Ytdolchlhphoggaa
