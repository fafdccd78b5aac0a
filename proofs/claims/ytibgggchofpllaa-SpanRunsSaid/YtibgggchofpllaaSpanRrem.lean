/-
  What the document's own Remove answers where it removes. Own work; proved by a walk through the landed text.
-/
import Derived.Test.YtibgggchofpllaaRows
import Derived.Test.YtibgggchofpllaaSpanCalls
import Derived.Test.YtibgggchofpllaaSpanOf
import Derived.Test.YtibgggchofpllaaSpanRem
import Derived.Test.YtibgggchofpllaaSpanAdd
import Derived.Test.YtibgggchofpllaaSpanRef
import Derived.Test.YtibgggchofpllaaSpanApp
namespace Go.Proofs.Ytibgggchofpllaa
open Go.ChangeShapes Go.WideShapes Go.ChangeAt Go.RowKit
set_option maxRecDepth 100000

set_option maxHeartbeats 4000000 in
theorem rrem_yes (A : Option Addr) (n cc : Nat) (P : Int) (l : List S) (q : Int) (x : S) (w : World) (h : Rs w A n l) (hA : Shape A cc) (hc : n ≤ cc) (g : Good P l) (hP : 0 ≤ P ∧ P ≤ 256) (hx : begL l q = some x) :
    Calls Try.prog 18 #[.slice A n cc, .int .i64 q] w fun e w' => ∃ v, e = .returned (.tuple #[v, spn x, .int .i64 0]) ∧ Made (delL l q) w v w' := by
  obtain ⟨ho, hq⟩ := beg_some hx
  subst hq
  obtain ⟨hy, h1, h2⟩ := of_some ho
  have hlen := h.len
  have hn : n ≤ 256 := by have := g.len hP.1; omega
  have hlt : placeL l x.a < n := by have := (List.getElem?_eq_some_iff.1 hy).1; omega
  have HR := Lib.hid h
  have HG := Lib.hid g
  have HY := Lib.hid hy
  have k0 := Lib.hid ((Kept.refl Old w).alloc (.cells #[.int .i64 0, .int .i64 0, .int .i64 0] 30))
  have B0 := Lib.hid (Bx.new w noS)
  have hdel : delL l x.a = l.take (placeL l x.a) ++ l.drop (placeL l x.a + 1) := rfl
  obtain ⟨j, hj⟩ : ∃ j, placeL l x.a = j := ⟨_, rfl⟩
  have hlo := Lib.hid (fun i y => place_lo l x.a (i := i) (y := y))
  rw [hj] at hlt HY hlo hdel
  rw [hdel]
  clear h g hx hy hlen hj hdel ho
  go_enter Try.func18, Try.ntmps18
  go_wp2_with fail
  generalize hs : w.heap.size = s at *
  go_loopw [7] (fun i wr => ∃ k : Nat, k ≤ j ∧ i = .int .i64 (k : Int) ∧ Hid (Bx wr s noS) ∧ Hid (Kept Old w wr)) (fun i _ => j + 1 - (intOf i).toNat)
  case atStart => exact ⟨0, by omega, rfl, B0, k0⟩
  case round =>
    obtain ⟨k, hk, rfl, BW, K⟩ := hrel
    rename World => W
    clear B0 k0
    obtain ⟨gg, o, y, rfl, hgl, hx, f1, a0, a1, a2⟩ := (HR.out.old K.out).get (k := k) (by omega)
    by_cases c : k < j
    · have z := hlo.out k y hx c
      have nb := (HG.out.at hx).n1
      have t1 : (y.a == x.a) = false := beq_eq_false_iff_ne.2 (by omega)
      clear hx f1
      go_wp2
      refine ⟨⟨k + 1, by omega, by go_num, BW, K⟩, ?_⟩
      simp [intOf]; omega
    · obtain rfl : k = j := by omega
      obtain rfl : y = x := by have := HY.out; rw [hx] at this; exact Option.some.inj this
      have t1 : (y.a == y.a) = true := by simp
      have hsz := Lib.hid (show w.heap.size ≤ W.heap.size from K.out.size)
      have RW := Lib.hid (HR.out.old K.out)
      have R1 := Lib.hid (RW.out.take (i := k) (by omega))
      have hl0 : s < W.heap.size := Blk.lt BW.out
      have hjc : k ≤ cc := by omega
      have hjn : (k : Int) ≤ (n : Int) := by omega
      have wr1 : IntKind.i64.wrap ((k : Int) + 1) = (k : Int) + 1 := IntWalk.i64_in _ (by omega)
      have e0 : (0 : Int) ≤ (k : Int) + 1 := by omega
      have e1 : ((k : Int) + 1).toNat = k + 1 := by omega
      have e2 : (k : Int) + 1 ≤ (n : Int) := by omega
      have e3 : k + 1 ≤ n := by omega
      obtain ⟨A', hA', R2⟩ : ∃ A' : Option Addr, (if cc = k + 1 then some (⟨gg, o, none⟩ : Addr) else some ⟨gg, o + (k + 1) * 3, none⟩) = A' ∧ Hid (Rs W A' (n - (k + 1)) (l.drop (k + 1))) := ⟨_, rfl, Lib.hid (RW.out.tail _ fun g' o' e h => by injection e with e; injection e with e1 e2; subst e1; subst e2; exact if_neg (by omega))⟩
      have hA'' : A' ≠ none := by rw [← hA']; split <;> simp
      have s0 := BW.out.c0
      have s1 := BW.out.c1
      have s2 := BW.out.c2
      have sf := Blk.frozen BW.out
      clear hx f1 hA
      go_wp2_with fail
      go_region_law (first
          | (refine em_step (W := W) rfl (.tmp 21) (.tmp 24) rfl rfl (some ⟨gg, o, none⟩) k cc (l.take k) (by first | rfl | simp [Act.eval, Act.put]) R1.out (fun h => by cases h) (by omega) s noS BW.out (by first | exact ((Kept.refl Old W).alloc _).drew) (by first | exact ⟨W.heap.size, rfl, Blk.new W _ [], Nat.le_refl _⟩) ?_; intro v1 w1 O1 K1 pr z0 z1 z2; have y0 := cell_on K1.out a0; have y1 := cell_on K1.out a1; have y2 := cell_on K1.out a2)
          | (refine cut_step (W := W) rfl (.tmp 25) (.tmp 29) rfl rfl v1 k (l.take k) (by first | rfl | simp [Act.eval, Act.put]) A' (n - (k + 1)) (cc - (k + 1)) (l.drop (k + 1)) (by first | rfl | simp [Act.eval, Act.put]) R2.out (fun h => absurd h hA'') (by omega) (by omega) O1.out K1.out ?_; intro v3 w3 O3 K3; have y0' := cell_on K3.out a0; have y1' := cell_on K3.out a1; have y2' := cell_on K3.out a2; have B3 := BW.out.old K3.out; have d0 := B3.c0; have d1 := B3.c1; have d2 := B3.c2; have df := Blk.frozen B3; have B3 := Lib.hid B3))
      all_goals
        obtain ⟨V, hV, g0, g1, g2, KV, _, kb⟩ := B3.out.end3 (K.out.trans K3.out) (by omega) y
        have E : Made (l.take k ++ l.drop (k + 1)) w v3 V := (O3.out.kept kb (fun g hg e => by have e : g = s := e; have := (O3.out.own g hg.symm).1; omega)).madeAt KV K.out.size
        have E := Lib.hid E
        clear KV kb
        go_wp2
        exact bodyPost_ret (v := .tuple #[v3, spn y, .int .i64 0]) (by simp [results, Try.results18, go_sem, g0, g1, g2]) rfl ⟨v3, rfl, E.out⟩
end Go.Proofs.Ytibgggchofpllaa
