/-
  What a store's giveSmall and giveLarge answer and leave. Own work; each is proved by a walk through the landed text.
-/
import Derived.Test.YtjfkmgicbakmgaaGreatRows
import Derived.WalkKit
import Derived.ProofKit
import Derived.OpenShut
import Derived.Outline
import Derived.Deep.Light
import Derived.Deep.QuietTactic
import Derived.BigQuiet
import Derived.IntWalk
import Derived.StillTailTactics
import Derived.RegionTactic
import Derived.Deep.RegionLaw
import Derived.Deep.RegionHeld3
import Derived.Test.YtjfkmgicbakmgaaGreatJStoreTake
namespace Go.Proofs.YtjfkmgicbakmgaaGreat.Sto
open Go.ChangeShapes Go.WideShapes Go.ChangeAt Go.RowKit
set_option maxRecDepth 100000
section calls
variable {w0 W : World} {s P : Nat} {k : K} {live : List Lm.S} {F : Nat → Prop} {pl : Pl} {O : Int → Int → Prop}
theorem StM.c11 {pl' : Pl} (m : StM w0 W s P k live F pl') : W.cell? ⟨s, 11, none⟩ = some (.bool k.on) := m.c 11
theorem StM.c12 {pl' : Pl} (m : StM w0 W s P k live F pl') : W.cell? ⟨s, 12, none⟩ = some (.slice pl'.A2 pl'.n2 pl'.c2) := m.c 12
theorem Inv.back_may (v : Inv P k O) : Lq.MayL k.back := fun q hq => by
  obtain ⟨c, _, hs, _⟩ := v.back q hq
  have ok := v.ok hs
  have pp := v.pages
  have := ok.a0
  have := ok.up
  simp only at *
  omega
theorem Inv.back_len (v : Inv P k O) : k.back.length ≤ 249 := Lq.nodup_len 249 _ v.bnod fun a ha => by have := v.back_may a ha; omega
theorem slice_nil {A : Option Addr} {n c : Nat} (h : n ≤ c) (z : A = none → c = 0) : A = none → n = 0 ∧ c = 0 := fun e => by have := z e; omega
theorem pool_put_at {X : World} {c : Nat} (hc : c < 4) {a : Int} (m : StM w0 W s P k live F pl) (v : Inv P k O) (o : O a (c : Int)) (q : Kept Old W X) :
    Calls Tryz.prog 98 #[ptr (pl.pq c), ptr pl.a, .int .i64 a] X fun e W' => e = .returned (.tuple #[.int .i64 (Prt.putP c (k.p c) a), .bool (Prt.putG c (k.p c) a), .int .i64 0]) ∧ Left w0 W W' s P (k.pool c (Prt.putL c (k.p c) a)) live F pl := by
  refine (pool_put hc (m.old q) v o).mono ?_
  rintro e W' ⟨rfl, L⟩
  exact ⟨rfl, Left.trans (pl1 := pl.re W.heap.size 97) ⟨rfl, rfl, rfl⟩ q.any L⟩
def GavePost (w0 W : World) (s P : Nat) (live : List Lm.S) (F : Nat → Prop) (pl : Pl) (k' : K) (e : Ending) (W' : World) : Prop := e = .returned (.int .i64 0) ∧ Left w0 W W' s P k' live F pl
set_option maxHeartbeats 4000000 in
theorem give_small {c : Nat} (hc : c < 4) {a : Int} (m : StM w0 W s P k live F pl) (v : Inv P k O) (o : O a (c : Int)) : Calls Tryz.prog 57 #[ptr s, .int .i64 (c : Int), .int .i64 a] W (GavePost w0 W s P live F pl (giveSR k a c)) := by
  have PT := Lib.hid (fun X (q : Kept Old W X) => pool_put_at hc m v o q)
  have c0 := m.ca (Same.refl pl)
  have cp := m.cp (Same.refl pl) hc
  have c11 := m.c11
  have ic : (c : Int) < 8 := by omega
  have EP := Lib.hid (show ∀ W', Left w0 W W' s P (giveSR k a c) live F pl → GavePost w0 W s P live F pl (giveSR k a c) (.returned (.int .i64 0)) W' from fun W' L => ⟨rfl, L⟩)
  have MB := Lib.hid v.back_may
  have LB := v.back_len
  cases v.giveS hc o with
  | stay pg h1 h4 =>
    have ER := Lib.hid (show giveSR k a c = k.pool c (Prt.putL c (k.p c) a) from by unfold giveSR Prt.putG; rw [h1, if_neg (by simp)])
    have h1a : Prt.putP c (k.p c) a = pg := by unfold Prt.putP; rw [h1]
    have h1b : Prt.putG c (k.p c) a = false := by unfold Prt.putG; rw [h1]
    rw [h1a, h1b] at PT
    clear h1 h4 h1a h1b v m o
    go_enter Tryz.func57, Tryz.ntmps57
    go_wp2_with fail
    go_region_with (first
      | (go_at_call 98; refine (PT.out _ (by first | exact Kept.refl Old W | exact (Kept.refl Old W).drew)).mono ?_; rintro e w' ⟨rfl, L⟩; have L := Lib.hid L))
    all_goals
      go_wp2_with fail
      go_ret
      exact EP.out _ (by rw [ER.out]; exact L.out)
  | back pg h1 h2 h3 h5 h4 =>
    have h1a : Prt.putP c (k.p c) a = pg := by unfold Prt.putP; rw [h1]
    have h1b : Prt.putG c (k.p c) a = true := by unfold Prt.putG; rw [h1]
    have ER := Lib.hid (show giveSR k a c = { k.pool c (Prt.putL c (k.p c) a) with on := true, back := Lq.putL true k.back pg } from by
      unfold giveSR
      rw [h1a, if_pos h1b, if_pos h2]
      show K.mk _ _ _ _ k.on _ = K.mk _ _ _ _ true _
      rw [h2])
    have hpg : inI pg := by
      have := h4.back_may pg (by simp)
      exact ⟨by omega, by omega⟩
    have hpb : Lq.putB true k.back pg = true := by
      rcases Lq.put_ways true k.back pg with ⟨e, _⟩ | ⟨_, _, e, _⟩ | ⟨_, _, _, e, _⟩ | ⟨_, _, _, _, _, e⟩
      · cases e
      · omega
      · omega
      · exact e
    have H3 := Lib.hid h3
    have HON := Lib.hid h2
    rw [h1a, h1b] at PT
    rw [h2] at c11
    have HPB := Lib.hid hpb
    have HPG := Lib.hid hpg
    have hs := m.st.box.lt
    clear h1 h2 h3 h5 h4 h1a h1b hpb hpg v m o
    go_enter Tryz.func57, Tryz.ntmps57
    go_wp2_with fail
    go_region_with (first
      | (go_at_call 98; refine (PT.out _ (by first | exact Kept.refl Old W | exact (Kept.refl Old W).drew)).mono ?_; rintro e W1 ⟨rfl, L⟩; have L := Lib.hid L; obtain ⟨pl1, m1, e1⟩ := L.out.1; have M1 := Lib.hid m1; have E1 := Lib.hid e1; have d11 := m1.c11; have d12 := m1.c12; rw [show (k.pool c (Prt.putL c (k.p c) a)).on = true from HON.out] at d11; have hs1 := m1.st.box.lt; clear m1 e1))
    all_goals
      go_wp2_with fail
      refine (Lq.lput_any true pl1.A2 pl1.n2 pl1.c2 k.back pg _ M1.out.kq.rs MB.out HPG.out (by have := M1.out.kq.rs.len; show pl1.n2 ≤ 9000; have e : (k.pool c (Prt.putL c (k.p c) a)).back.length = pl1.n2 := this; have : k.back.length = pl1.n2 := e; omega) (slice_nil M1.out.kq.cap M1.out.kq.nil)).mono ?_
      rintro e W2 ⟨v2, rfl, A, n, cc, rfl, R, hcc, hA, K⟩
      rw [HPB.out, H3.out]
      have K2 := K.alloc (.cells #[.bool true, .slice A n cc] 84)
      obtain ⟨⟨pl', m', x1, x2, x3⟩, f⟩ := M1.out.late (on := true) (R.old ((Kept.refl Old W2).alloc (.cells #[.bool true, .slice A n cc] 84))) hcc hA.1 hA.2 K2
      have L2 := Lib.hid (show Left w0 W _ s P { k.pool c (Prt.putL c (k.p c) a) with on := true, back := Lq.putL true k.back pg } live F pl from Left.trans E1.out L.out.2 ⟨⟨pl', m', ⟨x1, x2, x3⟩⟩, f⟩)
      have m2 := M1.out.old K2
      have f11 := m2.f 11
      have f12 := m2.f 12
      have g11 := m2.c11
      have g12 := m2.c12
      have b0 := (Lq.Bq.new W2 true (.slice A n cc)).c0
      have b1 := (Lq.Bq.new W2 true (.slice A n cc)).c1
      rw [show (k.pool c (Prt.putL c (k.p c) a)).on = true from HON.out] at g11
      have ns : W2.heap.size ≠ s := by have := K.size; omega
      clear m' x1 x2 x3 f R hA K K2 m2
      go_wp2_with fail
      go_ret
      exact EP.out _ (by rw [ER.out]; exact L2.out)
  | gone pg h1 h2 h3 h4 =>
    have h1a : Prt.putP c (k.p c) a = pg := by unfold Prt.putP; rw [h1]
    have h1b : Prt.putG c (k.p c) a = true := by unfold Prt.putG; rw [h1]
    have ER := Lib.hid (show giveSR k a c = { k.pool c (Prt.putL c (k.p c) a) with rl := (freeA k.rl k.sl pg).rl, sl := (freeA k.rl k.sl pg).sl } from by unfold giveSR; rw [h1a, if_pos h1b, if_neg (by rw [h2]; simp)])
    have H3 := Lib.hid h3
    have HON := Lib.hid h2
    rw [h1a, h1b] at PT
    rw [h2] at c11
    clear h1 h2 h3 h4 h1a h1b v m o
    go_enter Tryz.func57, Tryz.ntmps57
    go_wp2_with fail
    go_region_with (first
      | (go_at_call 98; refine (PT.out _ (by first | exact Kept.refl Old W | exact (Kept.refl Old W).drew)).mono ?_; rintro e W1 ⟨rfl, L⟩; have L := Lib.hid L; obtain ⟨pl1, m1, e1⟩ := L.out.1; have M1 := Lib.hid m1; have E1 := Lib.hid e1; have d11 := m1.c11; rw [show (k.pool c (Prt.putL c (k.p c) a)).on = false from HON.out] at d11; clear m1 e1))
    all_goals
      go_wp2_with fail
      refine (empty_any pg M1.out).mono ?_
      rintro e W2 ⟨rfl, L2⟩
      rw [show (freeA (k.pool c (Prt.putL c (k.p c) a)).rl (k.pool c (Prt.putL c (k.p c) a)).sl pg).e = 0 from H3.out]
      have L2 := Lib.hid L2
      go_wp2_with fail
      go_ret
      exact EP.out _ (by rw [ER.out]; exact Left.trans E1.out L.out.2 L2.out)
set_option maxHeartbeats 4000000 in
theorem give_large {a c : Int} (c4 : 4 ≤ c) (m : StM w0 W s P k live F pl) (v : Inv P k O) (o : O a c) : Calls Tryz.prog 56 #[ptr s, .int .i64 c, .int .i64 a] W (GavePost w0 W s P live F pl (giveLR k a c)) := by
  have bl := big_len v.right
  have ly := v.lies o
  have pp := v.pages
  have a0 := ly.a0
  have afit := ly.fit
  have aw := ly.w0
  have ac0 := ly.c0
  have ac7 := ly.c7
  obtain ⟨n, rfl⟩ : ∃ n : Nat, a = (n : Int) := ⟨a.toNat, by omega⟩
  have c10 := m.c10
  have c11 := m.c11
  have EP := Lib.hid (show ∀ W', Left w0 W W' s P (giveLR k (n : Int) c) live F pl → GavePost w0 W s P live F pl (giveLR k (n : Int) c) (.returned (.int .i64 0)) W' from fun W' L => ⟨rfl, L⟩)
  have HM := Lib.hid m
  have hs := m.st.box.lt
  cases v.giveB o c4 with
  | back h2 h3 h4 =>
    have ER := Lib.hid (show giveLR k (n : Int) c = { k with big := Bg.putL k.big ((n : Int), c) } from by unfold giveLR; rw [if_pos h2])
    have PT := Lib.hid (Bg.put_any pl.A1 pl.n1 pl.c1 k.big ((n : Int), c) W m.kb.rs v.right ⟨⟨by show (-9223372036854775808 : Int) ≤ (n : Int); omega, by show (n : Int) ≤ 9223372036854775807; omega⟩, ⟨by show (-9223372036854775808 : Int) ≤ c; omega, by show c ≤ 9223372036854775807; omega⟩⟩ (by have := m.kb.rs.len; omega) m.kb.cap m.kb.nil)
    rw [h3] at PT
    rw [h2] at c11
    clear h2 h3 h4 v m o ly aw
    go_enter Tryz.func56, Tryz.ntmps56
    go_wp2_with fail
    refine PT.out.mono ?_
    rintro e W1 ⟨v1, rfl, A, n', cc, rfl, R, hc, hA, K⟩
    obtain ⟨⟨pl', m', e1, e2, e3⟩, f⟩ := HM.out.big R hc hA.1 hA.2 K
    have L := Lib.hid (show Left w0 W _ s P { k with big := Bg.putL k.big ((n : Int), c) } live F pl from ⟨⟨pl', m', ⟨e1, e2, e3⟩⟩, f⟩)
    have ff := (HM.out.old K).f 10
    have cc10 := (HM.out.old K).c10
    clear m' e1 e2 e3 f R hA
    go_wp2_with fail
    go_ret
    exact EP.out _ (by rw [ER.out]; exact L.out)
  | gone h2 h3 h4 =>
    have ER := Lib.hid (show giveLR k (n : Int) c = { k with rl := (freeA k.rl k.sl ((n : Int) / 64)).rl, sl := (freeA k.rl k.sl ((n : Int) / 64)).sl } from by unfold giveLR; rw [if_neg (by rw [h2]; simp)])
    have PA := Lib.hid (page_at n (by omega))
    have EM := Lib.hid (empty_any ((n : Int) / 64) m)
    rw [h3] at EM
    rw [h2] at c11
    clear h2 h3 h4 v m o ly aw
    go_enter Tryz.func56, Tryz.ntmps56
    go_wp2_with fail
    refine (PA.out _).mono ?_
    rintro e w' ⟨rfl, rfl⟩
    go_wp2_with fail
    refine EM.out.mono ?_
    rintro e W1 ⟨rfl, L⟩
    have L := Lib.hid L
    go_wp2_with fail
    go_ret
    exact EP.out _ (by rw [ER.out]; exact L.out)
end calls
end Go.Proofs.YtjfkmgicbakmgaaGreat.Sto
