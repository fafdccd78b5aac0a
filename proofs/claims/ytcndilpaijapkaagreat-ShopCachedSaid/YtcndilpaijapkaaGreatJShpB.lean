/-
  Joined texts of ShpB; own work.
-/
import Derived.Test.YtcndilpaijapkaaGreatRows
import Derived.WalkKit
import Derived.ProofKit
import Derived.OpenShut
import Derived.Outline
import Derived.Deep.Light
import Derived.Deep.QuietTactic
import Derived.BigQuiet
import Derived.IntWalk
import Derived.StillTailTactics
import Derived.RegionTactic
import Derived.Deep.RegionLaw
import Derived.Deep.RegionHeld3
import Derived.Deep.LoopGhost
import Derived.Test.YtcndilpaijapkaaGreatJLive
import Derived.Test.YtcndilpaijapkaaGreatJShpA
/- What a store's takeSmall, takeLarge, giveSmall, giveLarge answer and leave. Own work; each is proved by a walk through the landed text. -/
namespace Go.Proofs.YtcndilpaijapkaaGreat.Shp
open Sto
open Go.ChangeShapes Go.WideShapes Go.ChangeAt Go.RowKit
set_option maxRecDepth 100000
section calls
variable {w0 W : World} {s P : Nat} {k : K} {ca : Ca} {live : List Lm.S} {F : Nat → Prop} {pl : Pl} {O : Int → Int → Prop}
theorem StM.car {pl' : Pl} (m : StM w0 W s P k ca live F pl') (e : Same pl pl') : W.cell? ⟨s, 0, none⟩ = some (ptr pl.a) := (m.c 0).trans (by rw [← e.a]; rfl)
theorem StM.chp {pl' : Pl} (m : StM w0 W s P k ca live F pl') (e : Same pl pl') : W.cell? ⟨s, 1, none⟩ = some (ptr pl.h) := (m.c 1).trans (by rw [← e.h]; rfl)
theorem StM.cp {pl' : Pl} (m : StM w0 W s P k ca live F pl') (e : Same pl pl') {c : Nat} (hc : c < 4) : W.cell? ⟨s, 2 + c, none⟩ = some (ptr (pl.pq c)) := by
  refine (m.c (2 + c)).trans ?_
  rw [← e.pq]
  rcases (show c = 0 ∨ c = 1 ∨ c = 2 ∨ c = 3 by omega) with rfl | rfl | rfl | rfl <;> rfl
/-- The same calls at any later place. -/
theorem pool_take_at {c : Nat} (hc : c < 4) {pl' : Pl} (m : StM w0 W s P k ca live F pl') (e : Same pl pl') (g : ∀ d, d < 4 → Prt.GoodP P d (k.p d)) (hP : P ≤ 256) :
    Calls Tryz.prog 131 #[ptr (pl.pq c), ptr pl.a] W fun e W' => e = .returned (.tuple #[.int .i64 (Prt.takeA (k.p c)), .int .i64 (Prt.takeC (k.p c))]) ∧ Left w0 W W' s P (k.pool c (Prt.takeL (k.p c))) ca live F pl' := by
  rw [← e.a, ← e.pq]
  exact pool_take hc m g hP
theorem pool_add_at {c : Nat} (hc : c < 4) {pg : Nat} {pl' : Pl} (m : StM w0 W s P k ca live F pl') (e : Same pl pl') (g : ∀ d, d < 4 → Prt.GoodP P d (k.p d)) (hP : P ≤ 256) (hpg : pg + 8 ≤ P) (h5 : Prt.addC P (k.p c) (pg : Int) = 0) (far : ∀ d, d < 4 → ∀ x ∈ k.p d, x.page + 8 ≤ pg ∨ pg + 8 ≤ x.page) (far2 : ∀ w c, ∀ a ∈ ca w c, ¬ Prt.InSp pg a) :
    Calls Tryz.prog 155 #[ptr (pl.pq c), ptr pl.a, .int .i64 (pg : Int)] W fun e W' => e = .returned (.int .i64 0) ∧ Left w0 W W' s P (k.pool c (Prt.addL P c (k.p c) (pg : Int))) ca live F pl' := by
  rw [← e.a, ← e.pq]
  exact pool_add hc m g hP hpg h5 far far2
def TookPost (w0 W : World) (s P : Nat) (ca : Ca) (live : List Lm.S) (F : Nat → Prop) (pl : Pl) (r : K × Int × Int) (e : Ending) (W' : World) : Prop := e = .returned (.tuple #[.int .i64 r.2.1, .int .i64 r.2.2]) ∧ Left w0 W W' s P r.1 ca live F pl
set_option maxHeartbeats 4000000 in
theorem take_small {c : Nat} (hc : c < 4) (m : StM w0 W s P k ca live F pl) (v : Inv P k O) (cO : CaO ca O) : Calls Tryz.prog 130 #[ptr s, .int .i64 (c : Int)] W (TookPost w0 W s P ca live F pl (takeSR P k c)) := by
  have pp := v.pages
  have T1 := Lib.hid (pool_take_at hc m (Same.refl pl) v.good pp.2)
  have c0 := m.car (Same.refl pl)
  have cp := m.cp (Same.refl pl) hc
  have ic : (c : Int) < 8 := by omega
  have EP := Lib.hid (show ∀ a C W', (takeSR P k c).2.1 = a → (takeSR P k c).2.2 = C → Left w0 W W' s P (takeSR P k c).1 ca live F pl → TookPost w0 W s P ca live F pl (takeSR P k c) (.returned (.tuple #[.int .i64 a, .int .i64 C])) W' from fun a C W' h1 h2 L => ⟨by rw [h1, h2], L⟩)
  have HM := Lib.hid m
  have HG := Lib.hid v.good
  cases v.takeS hc with
  | has a h1 h2 h3 h4 =>
    rw [h1, h2] at T1
    have ER := Lib.hid (show takeSR P k c = (k.pool c (Prt.takeL (k.p c)), (a : Int), 0) from by unfold takeSR; rw [if_pos h1, h2])
    clear h1 h2 h3 h4 v m
    go_enter Tryz.func130, Tryz.ntmps130
    go_wp2_with fail
    refine T1.out.mono ?_
    rintro e W1 ⟨rfl, L⟩
    have L := Lib.hid L
    go_wp2_with fail
    go_ret2
    exact EP.out _ _ _ (by rw [ER.out]) (by rw [ER.out]) (by rw [ER.out]; exact L.out)
  | none h1 h2 h3 h4 =>
    rw [h1, h2, h3, pool_same] at T1
    have p8 := Lib.hid (pages_small (c := (c : Int)) (by omega) (by omega))
    have ER := Lib.hid (show takeSR P k c = (k, 0, 3) from by unfold takeSR; rw [if_neg (by omega), h4, if_neg (show ¬ (3 : Int) = 0 by decide)])
    have H4 := Lib.hid h4
    clear h1 h2 h3 h4 v m
    go_enter Tryz.func130, Tryz.ntmps130
    go_wp2_with fail
    refine T1.out.mono ?_
    rintro e W1 ⟨rfl, L⟩
    obtain ⟨⟨pl1, m1, e1⟩, f1⟩ := L
    have R1 := Lib.hid (room_any (c : Int) m1)
    rw [p8.out, H4.out] at R1
    unfold RoomPost at R1
    dsimp only at R1
    have E1 := Lib.hid e1
    have F1 := Lib.hid f1
    clear m1 f1 e1 T1
    go_wp2_with fail
    refine R1.out.mono ?_
    rintro e W2 ⟨rfl, L⟩
    have L := Lib.hid L
    go_wp2_with fail
    go_ret2
    exact EP.out _ _ _ (by rw [ER.out]) (by rw [ER.out]) (by rw [ER.out]; exact Left.trans E1.out F1.out L.out)
  | new pg rl sl h1 h2 h3 h4 h5 h6 h7 h8 h9 h10 h11 =>
    rw [h1, h2, h3, pool_same] at T1
    have p8 := Lib.hid (pages_small (c := (c : Int)) (by omega) (by omega))
    have ER := Lib.hid (show takeSR P k c = (({ k with rl := rl, sl := sl } : K).pool c (Prt.takeL (Prt.addL P c (k.p c) (pg : Int))), ((pg * 64 : Nat) : Int), 0) from by
      unfold takeSR
      rw [if_neg (by omega), h4, if_pos rfl]
      simp only [h7])
    have H4 := Lib.hid h4
    have H5 := Lib.hid h5
    have H67 := Lib.hid (And.intro h6 h7)
    have H11 := Lib.hid h11
    have F11 := Lib.hid (cO.far v h11)
    clear h1 h2 h3 h4 h5 h6 h7 h8 h9 h11 v m
    go_enter Tryz.func130, Tryz.ntmps130
    go_wp2_with fail
    refine T1.out.mono ?_
    rintro e W1 ⟨rfl, L⟩
    obtain ⟨⟨pl1, m1, e1⟩, f1⟩ := L
    have R1 := Lib.hid (room_any (c : Int) m1)
    rw [p8.out, H4.out] at R1
    unfold RoomPost at R1
    dsimp only at R1
    have E1 := Lib.hid e1
    have F1 := Lib.hid f1
    clear m1 f1 e1 T1
    go_wp2_with fail
    refine R1.out.mono ?_
    rintro e W2 ⟨rfl, L⟩
    obtain ⟨⟨pl2, m2, e2⟩, f2⟩ := L
    have E2 := Lib.hid (Same.trans E1.out e2)
    have F2 := Lib.hid (F1.out.trans f2)
    have A2 := Lib.hid (pool_add_at (pg := pg) hc m2 E2.out HG.out pp.2 h10 H5.out H11.out F11.out)
    have c0 := m2.car E2.out
    clear m2 f2 e2 R1
    go_wp2_with fail
    refine A2.out.mono ?_
    rintro e W3 ⟨rfl, L⟩
    obtain ⟨⟨pl3, m3, e3⟩, f3⟩ := L
    have E3 := Lib.hid (Same.trans E2.out e3)
    have F3 := Lib.hid (F2.out.trans f3)
    have T3 := Lib.hid (pool_take_at hc m3 E3.out (pool_good (k := { k with rl := rl, sl := sl }) HG.out ((HG.out c hc).add (pg : Int))) pp.2)
    rw [pool_pool, K.pool_at, H67.out.1, H67.out.2] at T3
    have c0 := m3.car E3.out
    clear m3 f3 e3 A2
    go_wp2_with fail
    refine T3.out.mono ?_
    rintro e W4 ⟨rfl, L⟩
    have L := Lib.hid L
    go_wp2_with fail
    go_ret2
    exact EP.out _ _ _ (by rw [ER.out]; show ((pg * 64 : Nat) : Int) = (pg : Int) * 64; omega) (by rw [ER.out]) (by rw [ER.out]; exact Left.trans E3.out F3.out L.out)
/-! ### Large ones -/
theorem StM.c11 {pl' : Pl} (m : StM w0 W s P k ca live F pl') : W.cell? ⟨s, 11, none⟩ = some (.slice pl'.A1 pl'.n1 pl'.c1) := m.c 11
set_option maxHeartbeats 4000000 in
theorem take_large {c : Int} (c4 : 4 ≤ c) (c7 : c ≤ 7) (m : StM w0 W s P k ca live F pl) (v : Inv P k O) : Calls Tryz.prog 92 #[ptr s, .int .i64 c] W (TookPost w0 W s P ca live F pl (takeLR k c)) := by
  have bl := big_len v.right
  have T1 := Lib.hid (Bg.take_any pl.A1 pl.n1 pl.c1 k.big c W m.kb.rs (by have := m.kb.rs.len; omega) m.kb.cap)
  have c11 := m.c11
  have EP := Lib.hid (show ∀ a C W', (takeLR k c).2.1 = a → (takeLR k c).2.2 = C → Left w0 W W' s P (takeLR k c).1 ca live F pl → TookPost w0 W s P ca live F pl (takeLR k c) (.returned (.tuple #[.int .i64 a, .int .i64 C])) W' from fun a C W' h1 h2 L => ⟨by rw [h1, h2], L⟩)
  have HM := Lib.hid m
  have hs := m.st.box.lt
  cases v.takeB c4 c7 with
  | has h1 h3 h4 =>
    rw [h1] at T1
    have ER := Lib.hid (show takeLR k c = ({ k with big := Bg.takeL k.big c }, Bg.takeA k.big c, 0) from by unfold takeLR; rw [if_pos h1])
    clear h1 h3 h4 v m
    go_enter Tryz.func92, Tryz.ntmps92
    go_wp2_with fail
    refine T1.out.mono ?_
    rintro e W1 ⟨v1, rfl, A, n, cc, rfl, R, hc, hA, K⟩
    obtain ⟨⟨pl', m', e1⟩, f⟩ := HM.out.big R hc hA.1 hA.2 K
    have L := Lib.hid (show Left w0 W _ s P { k with big := Bg.takeL k.big c } ca live F pl from ⟨⟨pl', m', e1⟩, f⟩)
    have ff := (HM.out.old K).f 11
    have cc10 := (HM.out.old K).c11
    clear m' e1 f R hA
    go_wp2_with fail
    go_ret2
    exact EP.out _ _ _ (by rw [ER.out]) (by rw [ER.out]) (by rw [ER.out]; exact L.out)
  | none h1 h4 =>
    rw [h1] at T1
    have ER := Lib.hid (show takeLR k c = (k, 0, 3) from by unfold takeLR; rw [if_neg (by omega), h4, if_neg (show ¬ (3 : Int) = 0 by decide)])
    have H4 := Lib.hid h4
    clear h1 h4 v m
    go_enter Tryz.func92, Tryz.ntmps92
    go_wp2_with fail
    refine T1.out.mono ?_
    rintro e W1 ⟨v1, rfl, A, n, cc, rfl, R, hc, hA, K⟩
    have R1 := Lib.hid (room_any c (HM.out.old K))
    rw [H4.out] at R1
    unfold RoomPost at R1
    dsimp only at R1
    have KK := Lib.hid K
    clear K R hA
    go_wp2_with fail
    refine R1.out.mono ?_
    rintro e W2 ⟨rfl, L⟩
    have L := Lib.hid (show Left w0 W W2 s P k ca live F pl from Left.trans (pl1 := pl.re W.heap.size 97) ⟨rfl, rfl, rfl, rfl, rfl⟩ KK.out.any L)
    go_wp2_with fail
    go_ret2
    exact EP.out _ _ _ (by rw [ER.out]) (by rw [ER.out]) (by rw [ER.out]; exact L.out)
  | new pg rl sl h1 h4 h8 h9 h10 =>
    rw [h1] at T1
    have pp := v.pages
    have ER := Lib.hid (show takeLR k c = ({ k with rl := rl, sl := sl }, (pg : Int) * 64, 0) from by unfold takeLR; rw [if_neg (by omega), h4, if_pos rfl])
    have H4 := Lib.hid h4
    have wr : IntKind.i64.wrap ((pg : Int) * 64) = (pg : Int) * 64 := IntWalk.i64_in _ (by omega)
    clear h1 h4 h8 h9 v m
    go_enter Tryz.func92, Tryz.ntmps92
    go_wp2_with fail
    refine T1.out.mono ?_
    rintro e W1 ⟨v1, rfl, A, n, cc, rfl, R, hc, hA, K⟩
    have R1 := Lib.hid (room_any c (HM.out.old K))
    rw [H4.out] at R1
    unfold RoomPost at R1
    dsimp only at R1
    have KK := Lib.hid K
    clear K R hA
    go_wp2_with fail
    refine R1.out.mono ?_
    rintro e W2 ⟨rfl, L⟩
    have L := Lib.hid (show Left w0 W W2 s P { k with rl := rl, sl := sl } ca live F pl from Left.trans (pl1 := pl.re W.heap.size 97) ⟨rfl, rfl, rfl, rfl, rfl⟩ KK.out.any L)
    go_wp2_with fail
    go_ret2
    exact EP.out _ _ _ (by rw [ER.out]) (by rw [ER.out]) (by rw [ER.out]; exact L.out)
end calls
end Go.Proofs.YtcndilpaijapkaaGreat.Shp
/- What a store's giveSmall and giveLarge answer and leave. Own work; each is proved by a walk through the landed text. -/
namespace Go.Proofs.YtcndilpaijapkaaGreat.Shp
open Sto
open Go.ChangeShapes Go.WideShapes Go.ChangeAt Go.RowKit
set_option maxRecDepth 100000
section calls
variable {w0 W : World} {s P : Nat} {k : K} {ca : Ca} {live : List Lm.S} {F : Nat → Prop} {pl : Pl} {O : Int → Int → Prop}
theorem StM.c12 {pl' : Pl} (m : StM w0 W s P k ca live F pl') : W.cell? ⟨s, 12, none⟩ = some (.bool k.on) := m.c 12
theorem StM.c13 {pl' : Pl} (m : StM w0 W s P k ca live F pl') : W.cell? ⟨s, 13, none⟩ = some (.slice pl'.A2 pl'.n2 pl'.c2) := m.c 13
theorem pool_put_at {X : World} {c : Nat} (hc : c < 4) {a : Int} (m : StM w0 W s P k ca live F pl) (v : Inv P k O) (o : O a (c : Int)) (nc : ∀ w c, a.toNat ∉ ca w c) (q : Kept Old W X) :
    Calls Tryz.prog 137 #[ptr (pl.pq c), ptr pl.a, .int .i64 a] X fun e W' => e = .returned (.tuple #[.int .i64 (Prt.putP c (k.p c) a), .bool (Prt.putG c (k.p c) a), .int .i64 0]) ∧ Left w0 W W' s P (k.pool c (Prt.putL c (k.p c) a)) ca live F pl := by
  refine (pool_put hc (m.old q) v o nc).mono ?_
  rintro e W' ⟨rfl, L⟩
  exact ⟨rfl, Left.trans (pl1 := pl.re W.heap.size 97) ⟨rfl, rfl, rfl, rfl, rfl⟩ q.any L⟩
def GavePost (w0 W : World) (s P : Nat) (ca : Ca) (live : List Lm.S) (F : Nat → Prop) (pl : Pl) (k' : K) (e : Ending) (W' : World) : Prop := e = .returned (.int .i64 0) ∧ Left w0 W W' s P k' ca live F pl
set_option maxHeartbeats 4000000 in
theorem give_small {c : Nat} (hc : c < 4) {a : Int} (m : StM w0 W s P k ca live F pl) (v : Inv P k O) (o : O a (c : Int)) (nc : ∀ w c, a.toNat ∉ ca w c) : Calls Tryz.prog 111 #[ptr s, .int .i64 (c : Int), .int .i64 a] W (GavePost w0 W s P ca live F pl (giveSR k a c)) := by
  have PT := Lib.hid (fun X (q : Kept Old W X) => pool_put_at hc m v o nc q)
  have c0 := m.car (Same.refl pl)
  have cp := m.cp (Same.refl pl) hc
  have c12 := m.c12
  have ic : (c : Int) < 8 := by omega
  have EP := Lib.hid (show ∀ W', Left w0 W W' s P (giveSR k a c) ca live F pl → GavePost w0 W s P ca live F pl (giveSR k a c) (.returned (.int .i64 0)) W' from fun W' L => ⟨rfl, L⟩)
  have MB := Lib.hid v.back_may
  have LB := v.back_len
  cases v.giveS hc o with
  | stay pg h1 h4 =>
    have ER := Lib.hid (show giveSR k a c = k.pool c (Prt.putL c (k.p c) a) from by unfold giveSR Prt.putG; rw [h1, if_neg (by simp)])
    have h1a : Prt.putP c (k.p c) a = pg := by unfold Prt.putP; rw [h1]
    have h1b : Prt.putG c (k.p c) a = false := by unfold Prt.putG; rw [h1]
    rw [h1a, h1b] at PT
    clear h1 h4 h1a h1b v m o
    go_enter Tryz.func111, Tryz.ntmps111
    go_wp2_with fail
    go_region_with (first
      | (go_at_call 137; refine (PT.out _ (by first | exact Kept.refl Old W | exact (Kept.refl Old W).drew)).mono ?_; rintro e w' ⟨rfl, L⟩; have L := Lib.hid L))
    all_goals
      go_wp2_with fail
      go_ret
      exact EP.out _ (by rw [ER.out]; exact L.out)
  | back pg h1 h2 h3 h5 h4 =>
    have h1a : Prt.putP c (k.p c) a = pg := by unfold Prt.putP; rw [h1]
    have h1b : Prt.putG c (k.p c) a = true := by unfold Prt.putG; rw [h1]
    have ER := Lib.hid (show giveSR k a c = { k.pool c (Prt.putL c (k.p c) a) with on := true, back := Lq.putL true k.back pg } from by
      unfold giveSR
      rw [h1a, if_pos h1b, if_pos h2]
      show K.mk _ _ _ _ k.on _ = K.mk _ _ _ _ true _
      rw [h2])
    have hpg : inI pg := by
      have := h4.back_may pg (by simp)
      exact ⟨by omega, by omega⟩
    have hpb : Lq.putB true k.back pg = true := by
      rcases Lq.put_ways true k.back pg with ⟨e, _⟩ | ⟨_, _, e, _⟩ | ⟨_, _, _, e, _⟩ | ⟨_, _, _, _, _, e⟩
      · cases e
      · omega
      · omega
      · exact e
    have H3 := Lib.hid h3
    have HON := Lib.hid h2
    rw [h1a, h1b] at PT
    rw [h2] at c12
    have HPB := Lib.hid hpb
    have HPG := Lib.hid hpg
    have hs := m.st.box.lt
    clear h1 h2 h3 h5 h4 h1a h1b hpb hpg v m o
    go_enter Tryz.func111, Tryz.ntmps111
    go_wp2_with fail
    go_region_with (first
      | (go_at_call 137; refine (PT.out _ (by first | exact Kept.refl Old W | exact (Kept.refl Old W).drew)).mono ?_; rintro e W1 ⟨rfl, L⟩; have L := Lib.hid L; obtain ⟨pl1, m1, e1⟩ := L.out.1; have M1 := Lib.hid m1; have E1 := Lib.hid e1; have d12 := m1.c12; have d13 := m1.c13; rw [show (k.pool c (Prt.putL c (k.p c) a)).on = true from HON.out] at d12; have hs1 := m1.st.box.lt; clear m1 e1))
    all_goals
      go_wp2_with fail
      refine (Lq.lput_any true pl1.A2 pl1.n2 pl1.c2 k.back pg _ M1.out.kq.rs MB.out HPG.out (by have := M1.out.kq.rs.len; show pl1.n2 ≤ 9000; have e : (k.pool c (Prt.putL c (k.p c) a)).back.length = pl1.n2 := this; have : k.back.length = pl1.n2 := e; omega) (slice_nil M1.out.kq.cap M1.out.kq.nil)).mono ?_
      rintro e W2 ⟨v2, rfl, A, n, cc, rfl, R, hcc, hA, K⟩
      rw [HPB.out, H3.out]
      have K2 := K.alloc (.cells #[.bool true, .slice A n cc] 86)
      obtain ⟨⟨pl', m', x1⟩, f⟩ := M1.out.late (on := true) (R.old ((Kept.refl Old W2).alloc (.cells #[.bool true, .slice A n cc] 86))) hcc hA.1 hA.2 K2
      have L2 := Lib.hid (show Left w0 W _ s P { k.pool c (Prt.putL c (k.p c) a) with on := true, back := Lq.putL true k.back pg } ca live F pl from Left.trans E1.out L.out.2 ⟨⟨pl', m', x1⟩, f⟩)
      have m2 := M1.out.old K2
      have f12 := m2.f 12
      have f13 := m2.f 13
      have g12 := m2.c12
      have g13 := m2.c13
      have b0 := (Lq.Bq.new W2 true (.slice A n cc)).c0
      have b1 := (Lq.Bq.new W2 true (.slice A n cc)).c1
      rw [show (k.pool c (Prt.putL c (k.p c) a)).on = true from HON.out] at g12
      have ns : W2.heap.size ≠ s := by have := K.size; omega
      clear m' x1 f R hA K K2 m2
      go_wp2_with fail
      go_ret
      exact EP.out _ (by rw [ER.out]; exact L2.out)
  | gone pg h1 h2 h3 h4 =>
    have h1a : Prt.putP c (k.p c) a = pg := by unfold Prt.putP; rw [h1]
    have h1b : Prt.putG c (k.p c) a = true := by unfold Prt.putG; rw [h1]
    have ER := Lib.hid (show giveSR k a c = { k.pool c (Prt.putL c (k.p c) a) with rl := (freeA k.rl k.sl pg).rl, sl := (freeA k.rl k.sl pg).sl } from by unfold giveSR; rw [h1a, if_pos h1b, if_neg (by rw [h2]; simp)])
    have H3 := Lib.hid h3
    have HON := Lib.hid h2
    rw [h1a, h1b] at PT
    rw [h2] at c12
    clear h1 h2 h3 h4 h1a h1b v m o
    go_enter Tryz.func111, Tryz.ntmps111
    go_wp2_with fail
    go_region_with (first
      | (go_at_call 137; refine (PT.out _ (by first | exact Kept.refl Old W | exact (Kept.refl Old W).drew)).mono ?_; rintro e W1 ⟨rfl, L⟩; have L := Lib.hid L; obtain ⟨pl1, m1, e1⟩ := L.out.1; have M1 := Lib.hid m1; have E1 := Lib.hid e1; have d12 := m1.c12; rw [show (k.pool c (Prt.putL c (k.p c) a)).on = false from HON.out] at d12; clear m1 e1))
    all_goals
      go_wp2_with fail
      refine (empty_any pg M1.out).mono ?_
      rintro e W2 ⟨rfl, L2⟩
      rw [show (freeA (k.pool c (Prt.putL c (k.p c) a)).rl (k.pool c (Prt.putL c (k.p c) a)).sl pg).e = 0 from H3.out]
      have L2 := Lib.hid L2
      go_wp2_with fail
      go_ret
      exact EP.out _ (by rw [ER.out]; exact Left.trans E1.out L.out.2 L2.out)
set_option maxHeartbeats 4000000 in
theorem give_large {a c : Int} (c4 : 4 ≤ c) (m : StM w0 W s P k ca live F pl) (v : Inv P k O) (o : O a c) : Calls Tryz.prog 107 #[ptr s, .int .i64 c, .int .i64 a] W (GavePost w0 W s P ca live F pl (giveLR k a c)) := by
  have bl := big_len v.right
  have ly := v.lies o
  have pp := v.pages
  have a0 := ly.a0
  have afit := ly.fit
  have aw := ly.w0
  have ac0 := ly.c0
  have ac7 := ly.c7
  obtain ⟨n, rfl⟩ : ∃ n : Nat, a = (n : Int) := ⟨a.toNat, by omega⟩
  have c11 := m.c11
  have c12 := m.c12
  have EP := Lib.hid (show ∀ W', Left w0 W W' s P (giveLR k (n : Int) c) ca live F pl → GavePost w0 W s P ca live F pl (giveLR k (n : Int) c) (.returned (.int .i64 0)) W' from fun W' L => ⟨rfl, L⟩)
  have HM := Lib.hid m
  have hs := m.st.box.lt
  cases v.giveB o c4 with
  | back h2 h3 h4 =>
    have ER := Lib.hid (show giveLR k (n : Int) c = { k with big := Bg.putL k.big ((n : Int), c) } from by unfold giveLR; rw [if_pos h2])
    have PT := Lib.hid (Bg.put_any pl.A1 pl.n1 pl.c1 k.big ((n : Int), c) W m.kb.rs v.right ⟨⟨by show (-9223372036854775808 : Int) ≤ (n : Int); omega, by show (n : Int) ≤ 9223372036854775807; omega⟩, ⟨by show (-9223372036854775808 : Int) ≤ c; omega, by show c ≤ 9223372036854775807; omega⟩⟩ (by have := m.kb.rs.len; omega) m.kb.cap m.kb.nil)
    rw [h3] at PT
    rw [h2] at c12
    clear h2 h3 h4 v m o ly aw
    go_enter Tryz.func107, Tryz.ntmps107
    go_wp2_with fail
    refine PT.out.mono ?_
    rintro e W1 ⟨v1, rfl, A, n', cc, rfl, R, hc, hA, K⟩
    obtain ⟨⟨pl', m', e1⟩, f⟩ := HM.out.big R hc hA.1 hA.2 K
    have L := Lib.hid (show Left w0 W _ s P { k with big := Bg.putL k.big ((n : Int), c) } ca live F pl from ⟨⟨pl', m', e1⟩, f⟩)
    have ff := (HM.out.old K).f 11
    have cc10 := (HM.out.old K).c11
    clear m' e1 f R hA
    go_wp2_with fail
    go_ret
    exact EP.out _ (by rw [ER.out]; exact L.out)
  | gone h2 h3 h4 =>
    have ER := Lib.hid (show giveLR k (n : Int) c = { k with rl := (freeA k.rl k.sl ((n : Int) / 64)).rl, sl := (freeA k.rl k.sl ((n : Int) / 64)).sl } from by unfold giveLR; rw [if_neg (by rw [h2]; simp)])
    have PA := Lib.hid (page_at n (by omega))
    have EM := Lib.hid (empty_any ((n : Int) / 64) m)
    rw [h3] at EM
    rw [h2] at c12
    clear h2 h3 h4 v m o ly aw
    go_enter Tryz.func107, Tryz.ntmps107
    go_wp2_with fail
    refine (PA.out _).mono ?_
    rintro e w' ⟨rfl, rfl⟩
    go_wp2_with fail
    refine EM.out.mono ?_
    rintro e W1 ⟨rfl, L⟩
    have L := Lib.hid L
    go_wp2_with fail
    go_ret
    exact EP.out _ (by rw [ER.out]; exact L.out)
end calls
end Go.Proofs.YtcndilpaijapkaaGreat.Shp
/- A shop's fetch and take: what they answer and leave. Own work; each is proved by a walk through the landed text. -/
namespace Go.Proofs.YtcndilpaijapkaaGreat.Shp
open Sto
open Go.ChangeShapes Go.WideShapes Go.ChangeAt Go.RowKit
set_option maxRecDepth 100000

section calls
variable {w0 W : World} {s P : Nat} {k : K} {ca : Ca} {live : List Lm.S} {F : Nat → Prop} {pl : Pl} {O : Int → Int → Prop}
/-- Behind some rounds of a fetch. -/
structure Fe (w0 W wr : World) (s P : Nat) (ca : Ca) (live : List Lm.S) (F : Nat → Prop) (pl : Pl) (w c : Nat) (L : Os) (i : Nat) (K' : K) (k : K) (l : List Nat) (pl' : Pl) (R : List Nat) : Prop where
  st : StM w0 wr s P k (up ca w c l) live F pl'
  same : Same pl pl'
  kept : Kept (Fr F) W wr
  iq : Iq P k (pr c l ++ L)
  todo : fillR c i k l = (K', R)
  len : l.length + i ≤ 3
/-- What is known of those that are out, where one cache is known and the others are among the rest. -/
theorem nc_up {ca : Ca} {w c : Nat} {l : List Nat} {L : Os} {a : Nat} (h : Iq P k ((((a : Nat) : Int), (c : Int)) :: (pr c l ++ L))) (hc : ∀ w' c', ¬ (w' = w ∧ c' = c) → ∀ b ∈ ca w' c', ((b : Int), (c' : Int)) ∈ L ∧ c' < 4) : ∀ w' c', a ∉ up ca w c l w' c' := fun w' c' m => by
  have nd := (List.nodup_cons.1 h.nd).1
  by_cases e : w' = w ∧ c' = c
  · rw [e.1, e.2, up_at] at m
    exact nd (List.mem_append.2 (.inl (pr_mem.2 ⟨a, m, rfl, rfl⟩)))
  · rw [up_ne _ _ e] at m
    obtain ⟨m, _⟩ := hc w' c' e a m
    have m' : ((a : Int), (c' : Int)) ∈ pr c l ++ L := List.mem_append.2 (.inr m)
    have := h.inv.same (a := (a : Int)) (c := (c : Int)) (d := (c' : Int)) List.mem_cons_self (List.mem_cons_of_mem _ m')
    exact nd (by rw [this]; exact m')
theorem Iq.lt {L : Os} {a : Nat} {c : Int} (h : Iq P k L) (m : ((a : Int), c) ∈ L) : a < P * 64 := by
  have ly := h.inv.lies m
  have := ly.fit
  have := ly.w0
  omega
def RestO (ca : Ca) (w c : Nat) (L : Os) : Prop := ∀ w' c', ¬ (w' = w ∧ c' = c) → ∀ b ∈ ca w' c', ((b : Int), (c' : Int)) ∈ L ∧ c' < 4
set_option maxHeartbeats 4000000 in
theorem fetch_any {w c : Nat} (hw : w < pl.nw) (hc : c < 4) (m : StM w0 W s P k ca live F pl) {L : Os} (q : Iq P k L) (e0 : ca w c = []) (ro : RestO ca w c L) (cO : CaO ca (fun a c => (a, c) ∈ L)) :
    Calls Tryz.prog 93 #[ptr s, .int .i64 (w : Int), .int .i64 (c : Int)] W fun e W' => e = .returned (.tuple #[.int .i64 (takeWR P k ca w (c : Int)).2.2.1, .int .i64 (takeWR P k ca w (c : Int)).2.2.2]) ∧ Left w0 W W' s P (takeWR P k ca w (c : Int)).1 (takeWR P k ca w (c : Int)).2.1 live F pl := by
  have TS := Lib.hid (take_small hc m q.inv cO)
  have sm := smallB_in (c : Int) (by omega) (by omega)
  have BA := Lib.hid (fun X => batch_any (c : Int) X)
  rw [bat_i hc] at BA
  have ET : takeWR P k ca w (c : Int) = if (takeSR P k c).2.2 = 0 then ((fillR c (batN c - 1) (takeSR P k c).1 []).1, up ca w c (fillR c (batN c - 1) (takeSR P k c).1 []).2, (takeSR P k c).2.1, 0) else (k, ca, 0, 3) := by
    unfold takeWR
    rw [if_pos sm, Int.toNat_natCast, e0]
  rw [ET]
  have bb : batN c ≤ 4 ∧ 1 ≤ batN c := by unfold batN; omega
  have CO := Lib.hid cO
  have RO := Lib.hid ro
  have GP := q.inv.pages
  unfold TookPost at TS
  cases q.tookS hc with
  | no h0 h1 h2 =>
    rw [if_neg (by omega)]
    rw [h0, h1, h2] at TS
    clear h0 h1 h2 q m cO ro ET
    go_enter Tryz.func93, Tryz.ntmps93
    go_wp2_with fail
    refine TS.out.mono ?_
    rintro e W1 ⟨rfl, L1⟩
    have L1 := Lib.hid L1
    go_wp2_with fail
    go_ret2
    exact ⟨rfl, L1.out⟩
  | yes h0 h1 =>
    rw [if_pos h0]
    rw [h0] at TS
    generalize (takeSR P k c).2.1 = first at *
    generalize (takeSR P k c).1 = k1 at *
    obtain ⟨K', R, hR⟩ : ∃ K' R, fillR c (batN c - 1) k1 [] = (K', R) := ⟨_, _, rfl⟩
    rw [hR]
    have RO1 := Lib.hid (show RestO ca w c ((first, (c : Int)) :: L) from fun w' c' e b hb => ⟨List.mem_cons_of_mem _ (ro w' c' e b hb).1, (ro w' c' e b hb).2⟩)
    have Q1 := Lib.hid (show Iq P k1 (pr c [] ++ ((first, (c : Int)) :: L)) from h1)
    have HR := Lib.hid hR
    have wb : IntKind.i64.wrap ((batN c : Int) - 1) = (batN c : Int) - 1 := IntWalk.i64_in _ (by omega)
    have UE := Lib.hid (show up ca w c [] = ca from by rw [← e0, up_self])
    clear h0 h1 q m cO ro ET hR
    go_enter Tryz.func93, Tryz.ntmps93
    go_wp2_with fail
    refine TS.out.mono ?_
    rintro e W1 ⟨rfl, L1⟩
    obtain ⟨⟨pl1, m1, e1⟩, f1⟩ := L1
    have F0 := Lib.hid (show Fe w0 W W1 s P ca live F pl w c ((first, (c : Int)) :: L) (batN c - 1) K' k1 [] pl1 R from ⟨by rw [UE.out]; exact m1, e1, f1, Q1.out, HR.out, by simp; omega⟩)
    clear m1 e1 f1 TS
    go_wp2_with fail
    refine (BA.out _).mono ?_
    rintro e W2 ⟨rfl, rfl⟩
    have PO := Lib.hid (show ∀ W' pl' (k' : K) (l' : List Nat), StM w0 W' s P k' (up ca w c l') live F pl' → Same pl pl' → Kept (Fr F) W W' → (k', l') = (K', R) → Left w0 W W' s P K' (up ca w c R) live F pl from fun W' pl' k' l' m e f z => by injection z with z1 z2; subst z1; subst z2; exact ⟨⟨pl', m, e⟩, f⟩)
    go_wp2_with fail
    go_loopw [25] (fun s25 wr => ∃ (i : Nat) (k : K) (l : List Nat) (pl' : Pl), i + 1 ≤ batN c ∧ s25 = .int .i64 (i : Int) ∧ Hid (Fe w0 W wr s P ca live F pl w c ((first, (c : Int)) :: L) (batN c - 1 - i) K' k l pl' R)) (fun s25 _ => 8 - (intOf s25).toNat)
    case atStart => exact ⟨0, k1, [], pl1, by omega, rfl, F0⟩
    case round =>
      clear F0
      obtain ⟨i, k2, l, pl2, hi, rfl, FE⟩ := hrel
      rename World => V
      have wi : IntKind.i64.wrap ((i : Int) + 1) = (i : Int) + 1 := IntWalk.i64_in _ (by omega)
      by_cases ci : (i : Int) < (batN c : Int) - 1
      · have hs := FE.out.st.st.box.lt
        have c0 := FE.out.st.car (Same.refl pl2)
        have cp := FE.out.st.cp (Same.refl pl2) hc
        have ic : (c : Int) < 8 := by omega
        have PT := Lib.hid (fun X (q : Kept Old V X) => pool_take_at hc (FE.out.st.old q) (show Same pl2 (pl2.re V.heap.size 97) from ⟨rfl, rfl, rfl, rfl, rfl⟩) FE.out.iq.inv.good GP.2)
        have TD := FE.out.todo
        rw [show batN c - 1 - i = (batN c - 1 - (i + 1)) + 1 by omega] at TD
        unfold fillR at TD
        rcases FE.out.iq.take hc with ⟨t0, a, ta, iq'⟩ | ⟨t2, tl⟩
        · rw [if_pos t0, ta, Int.toNat_natCast] at TD
          rw [t0, ta] at PT
          have TD := Lib.hid TD
          have IQ := Lib.hid iq'
          clear t0 ta iq'
          go_wp2_with fail
          go_region_with (first
            | (go_at_call 131; refine (PT.out _ (by first | exact Kept.refl Old V | exact (Kept.refl Old V).drew)).mono ?_; rintro e V1 ⟨rfl, L1⟩; have L1 := Lib.hid L1))
          all_goals
            obtain ⟨⟨pl3, m3, e3⟩, f3⟩ := L1.out
            have M3 := Lib.hid m3
            have E3 := Lib.hid (show Same pl pl3 from (FE.out.same.trans (show Same pl2 (pl2.re V.heap.size 97) from ⟨rfl, rfl, rfl, rfl, rfl⟩)).trans e3)
            have F3 := Lib.hid (show Kept (Fr F) W V1 from FE.out.kept.trans (Kept.trans (by first | exact Kept.refl _ V | exact (Kept.refl _ V).drew) f3))
            have hw3 : w < pl3.nw := by rw [E3.out.nw]; exact hw
            have PU := Lib.hid (push_any (w := w) (c := c) (a := a) M3.out hw3 hc (by rw [M3.out.ar.len]; exact Iq.lt IQ.out List.mem_cons_self) (CaO.nofree IQ.out.inv hc List.mem_cons_self) (nc_up IQ.out RO1.out) (by rw [up_at]; have := FE.out.len; omega))
            rw [up_at, up_up] at PU
            unfold LeftPost at PU
            clear m3 e3 f3
            go_wp2_with fail
            refine PU.out.mono ?_
            rintro e V2 ⟨rfl, L2⟩
            obtain ⟨⟨pl4, m4, e4⟩, f4⟩ := L2
            have F4 := Lib.hid (show Fe w0 W V2 s P ca live F pl w c ((first, (c : Int)) :: L) (batN c - 1 - (i + 1)) K' (k2.pool c (Prt.takeL (k2.p c))) (a :: l) pl4 R from ⟨m4, E3.out.trans e4, F3.out.trans f4, IQ.out, TD.out, by have := FE.out.len; simp only [List.length_cons]; omega⟩)
            clear m4 e4 f4
            go_wp2_with fail
            exact ⟨⟨i + 1, _, _, _, by omega, by go_num, F4⟩, by simp [intOf]; omega⟩
        · rw [if_neg (by omega)] at TD
          rw [t2, tl, pool_same] at PT
          have TD := Lib.hid TD
          clear t2 tl
          go_wp2_with fail
          go_region_with (first
            | (go_at_call 131; refine (PT.out _ (by first | exact Kept.refl Old V | exact (Kept.refl Old V).drew)).mono ?_; rintro e V1 ⟨rfl, L1⟩; have L1 := Lib.hid L1))
          all_goals
            have EE := Lib.hid (show Left w0 W V1 s P K' (up ca w c R) live F pl from by
              obtain ⟨⟨pl3, m3, e3⟩, f3⟩ := L1.out
              exact PO.out _ _ _ _ m3 ((FE.out.same.trans (show Same pl2 (pl2.re V.heap.size 97) from ⟨rfl, rfl, rfl, rfl, rfl⟩)).trans e3) (FE.out.kept.trans (Kept.trans (by first | exact Kept.refl _ V | exact (Kept.refl _ V).drew) f3)) TD.out)
            go_wp2_with fail
            go_ret2
            exact ⟨rfl, EE.out⟩
      · have EE := Lib.hid (show Left w0 W V s P K' (up ca w c R) live F pl from by
          have TD := FE.out.todo
          rw [show batN c - 1 - i = 0 by omega] at TD
          exact PO.out _ _ _ _ FE.out.st FE.out.same FE.out.kept TD)
        go_wp2_with fail
        go_ret2
        exact ⟨rfl, EE.out⟩
def TakeWPost (w0 W : World) (s P : Nat) (live : List Lm.S) (F : Nat → Prop) (pl : Pl) (r : K × Ca × Int × Int) (e : Ending) (W' : World) : Prop := e = .returned (.tuple #[.int .i64 r.2.2.1, .int .i64 r.2.2.2]) ∧ Left w0 W W' s P r.1 r.2.1 live F pl
theorem Sq.rest (h : Sq P pl.nw k ca live) {w c : Nat} : RestO ca w c (outs pl.nw ca live) := fun _ _ _ _ hb => ⟨List.mem_append.2 (.inl (h.mem hb).2.2), (h.mem hb).2.1⟩
set_option maxHeartbeats 4000000 in
theorem take_w {w : Nat} (hw : w < pl.nw) {n : Int} (hn : classB n = true) (m : StM w0 W s P k ca live F pl) {lv : List Lm.S} (q : Sq P pl.nw k ca lv) :
    Calls Tryz.prog 56 #[ptr s, .int .i64 (w : Int), .int .i64 (classI n)] W (TakeWPost w0 W s P live F pl (takeWR P k ca w (classI n))) := by
  have SM := Lib.hid (fun X => small_any (classI n) X)
  rcases class_ways hn with ⟨sm, c, ec, hc⟩ | ⟨sm, c4, c7⟩
  · rw [sm, ec] at SM
    rw [ec]
    have sm' : smallB (c : Int) = true := by rw [← ec]; exact sm
    have c10 := m.cc (Same.refl pl)
    have n0 := m.nm hw (show c < 8 by omega)
    have hs := m.st.box.lt
    have few := m.cs.few
    have hb := m.cs.box.lt
    have wi : (w : Int) < (pl.nw : Int) := by omega
    have ci : (c : Int) < 8 := by omega
    cases e0 : ca w c with
    | nil =>
      rw [e0] at n0
      have FE := Lib.hid (fetch_any hw hc m q.iq e0 (Sq.rest q) q.cao)
      generalize takeWR P k ca w (c : Int) = r at *
      clear m q sm sm'
      go_enter Tryz.func56, Tryz.ntmps56
      go_wp2_with fail
      refine (SM.out _).mono ?_
      rintro e w' ⟨rfl, rfl⟩
      go_wp2_with fail
      refine FE.out.mono ?_
      rintro e W1 ⟨rfl, L⟩
      have L := Lib.hid L
      go_wp2_with fail
      go_ret2
      exact ⟨rfl, L.out⟩
    | cons a t =>
      rw [e0] at n0
      rw [show (((a :: t).length : Nat) : Int) = (t.length : Int) + 1 by simp] at n0
      have lt : t.length ≤ 1000 := by
        have := q.cap w c hc
        rw [e0] at this
        simp only [List.length_cons] at this
        unfold batN at this
        omega
      have PO := Lib.hid (pop_any m hw hc e0 lt)
      have ER : takeWR P k ca w (c : Int) = (k, up ca w c t, (a : Int), 0) := by
        unfold takeWR
        rw [if_pos sm', Int.toNat_natCast, e0]
      rw [ER]
      have nz : ¬ ((t.length : Int) + 1 = 0) := by omega
      unfold LeftPost at PO
      clear m q sm sm' ER
      go_enter Tryz.func56, Tryz.ntmps56
      go_wp2_with fail
      refine (SM.out _).mono ?_
      rintro e w' ⟨rfl, rfl⟩
      go_wp2_with fail
      refine PO.out.mono ?_
      rintro e W1 ⟨rfl, L⟩
      have L := Lib.hid L
      go_wp2_with fail
      go_ret2
      exact ⟨rfl, L.out⟩
  · rw [sm] at SM
    have TL := Lib.hid (take_large c4 c7 m q.iq.inv)
    have ER : takeWR P k ca w (classI n) = ((takeLR k (classI n)).1, ca, (takeLR k (classI n)).2.1, (takeLR k (classI n)).2.2) := by
      unfold takeWR
      rw [if_neg (by rw [sm]; simp)]
    rw [ER]
    unfold TookPost at TL
    generalize takeLR k (classI n) = r at *
    generalize classI n = cl at *
    clear m q sm ER
    go_enter Tryz.func56, Tryz.ntmps56
    go_wp2_with fail
    refine (SM.out _).mono ?_
    rintro e w' ⟨rfl, rfl⟩
    go_wp2_with fail
    refine TL.out.mono ?_
    rintro e W1 ⟨rfl, L⟩
    have L := Lib.hid L
    go_wp2_with fail
    go_ret2
    exact ⟨rfl, L.out⟩
end calls
end Go.Proofs.YtcndilpaijapkaaGreat.Shp
/- A shop's Alloc, and its live stacks' list that takes one more or one less. Own work; each is proved by a walk through the landed text. -/
namespace Go.Proofs.YtcndilpaijapkaaGreat.Shp
open Sto
open Go.ChangeShapes Go.WideShapes Go.ChangeAt Go.RowKit
set_option maxRecDepth 100000
section calls
variable {w0 W : World} {s P : Nat} {k : K} {ca : Ca} {live : List Lm.S} {F : Nat → Prop} {pl : Pl}
theorem StM.c14 {pl' : Pl} (m : StM w0 W s P k ca live F pl') : W.cell? ⟨s, 14, none⟩ = some pl'.lv := m.c 14
theorem StM.s_own (m : StM w0 W s P k ca live F pl) : ¬ (some s = pl.lv.ownBlock) := fun e => by
  have := m.lv.lab s e.symm
  rw [m.st.lab] at this
  cases this
/-- Insert among the live stacks, behind the block of the new one. -/
theorem live_ins (m : StM w0 W s P k ca live F pl) (x : Lm.S) (hx : Lm.Fit x) (hn : live.length ≤ 600) :
    Calls Tryz.prog 58 #[pl.lv, .int .i64 (Lm.placeL live x.a : Int), .slice (some ⟨W.heap.size, 0, none⟩) 1 1] (W.alloc (.cells #[.int .i64 x.a, .int .i64 x.n, .int .i64 x.c] 52)) fun e X' => ∃ A n c, e = .returned (.slice A n c) ∧ X'.frozen? ⟨s, 14, none⟩ = false ∧ X'.cell? ⟨s, 14, none⟩ = some pl.lv ∧ Hid (Left w0 W (X'.setCell ⟨s, 14, none⟩ (.slice A n c)) s P k ca (Lm.insL live x) F pl) := by
  have KA := (Kept.refl Old W).alloc (.cells #[.int .i64 x.a, .int .i64 x.n, .int .i64 x.c] 52)
  have hi := Lm.place_le live x.a
  refine (Lm.ins_any w0.heap.size pl.lv live.length (Lm.placeL live x.a) live x hx W.heap.size 1 _ (m.lv.ow.alloc _) (Lm.BxS.new W x) (fun e => by have := (m.lv.ow.own _ e.symm).2; omega) hi (by omega) (Nat.le_trans m.ff.kept.size KA.size)).mono ?_
  rintro e X' ⟨v', rfl, O, K, ob⟩
  obtain ⟨A, c, rfl, _, _, _⟩ := O.rs
  have K2 : Kept (fun b => some b = pl.lv.ownBlock) W X' := KA.any.trans K
  have bx := m.st.box.kept K2 m.s_own
  obtain ⟨⟨pl', m', e1⟩, f⟩ := m.lives O K2 (ob.imp id fun e => ⟨_, e, by simp⟩)
  exact ⟨A, _, c, rfl, bx.frozen 14, bx.cell 14, Lib.hid ⟨⟨pl', m', e1⟩, f⟩⟩
/-- Delete from the live stacks. -/
theorem live_del (m : StM w0 W s P k ca live F pl) (i : Nat) (hi : i < live.length) (hn : live.length ≤ 600) :
    Calls Tryz.prog 66 #[pl.lv, .int .i64 (i : Int), .int .i64 ((i : Int) + 1)] W fun e X' => ∃ A n c, e = .returned (.slice A n c) ∧ X'.frozen? ⟨s, 14, none⟩ = false ∧ X'.cell? ⟨s, 14, none⟩ = some pl.lv ∧ Hid (Left w0 W (X'.setCell ⟨s, 14, none⟩ (.slice A n c)) s P k ca (live.take i ++ live.drop (i + 1)) F pl) := by
  refine (Lm.del_any w0.heap.size pl.lv live.length i live W m.lv.ow hi (by omega)).mono ?_
  rintro e X' ⟨v', rfl, O, K, ob⟩
  obtain ⟨A, c, rfl, _, _, _⟩ := O.rs
  have bx := m.st.box.kept K m.s_own
  obtain ⟨⟨pl', m', e1⟩, f⟩ := m.lives O K (ob.imp id fun e => ⟨_, e, Nat.le_refl _⟩)
  exact ⟨A, _, c, rfl, bx.frozen 14, bx.cell 14, Lib.hid ⟨⟨pl', m', e1⟩, f⟩⟩
def AllocPost (w0 W : World) (s P : Nat) (F : Nat → Prop) (pl : Pl) (r : K × Ca × List Lm.S × Int × Int) (e : Ending) (W' : World) : Prop := e = .returned (.tuple #[.int .i64 r.2.2.2.1, .int .i64 r.2.2.2.2]) ∧ Left w0 W W' s P r.1 r.2.1 r.2.2.1 F pl
theorem emp_yes {nw w : Nat} (h : w < nw) : empB nw (w : Int) = true := decide_eq_true ⟨by omega, by omega⟩
theorem emp_no {nw : Nat} {w : Int} (h : empB nw w = false) : w < 0 ∨ (nw : Int) ≤ w := by
  have := of_decide_eq_false h
  omega
set_option maxHeartbeats 2000000 in
/-- Asked for what has no class, or by a worker that is not there. -/
theorem salloc_arg (w n : Int) (m : StM w0 W s P k ca live F pl) (h : classB n = false ∨ empB pl.nw w = false) : Calls Tryz.prog 19 #[ptr s, .int .i64 w, .int .i64 n] W fun e W' => e = .returned (.tuple #[.int .i64 0, .int .i64 1]) ∧ W = W' := by
  have CL := Lib.hid (fun X => class_any n X)
  have EM := Lib.hid (employs_any w m)
  clear m
  cases hn : classB n with
  | false =>
    rw [hn] at CL
    clear h hn
    go_enter Tryz.func19, Tryz.ntmps19
    go_wp2_with (go_at_call 54; refine (CL.out _).mono ?_; rintro e w' ⟨rfl, rfl⟩)
    go_ret2
    exact ⟨rfl, rfl⟩
  | true =>
    rw [hn] at CL h
    have h := h.resolve_left (by simp)
    rw [h] at EM
    clear h hn
    go_enter Tryz.func19, Tryz.ntmps19
    go_wp2_with fail
    refine (CL.out _).mono ?_
    rintro e w' ⟨rfl, rfl⟩
    go_wp2_with fail
    refine EM.out.mono ?_
    rintro e w' ⟨rfl, rfl⟩
    go_wp2_with fail
    go_ret2
    exact ⟨rfl, rfl⟩
set_option maxHeartbeats 4000000 in
theorem salloc_any {w : Nat} (hw : w < pl.nw) (n : Int) (m : StM w0 W s P k ca live F pl) (v : Sq P pl.nw k ca live) : Calls Tryz.prog 19 #[ptr s, .int .i64 (w : Int), .int .i64 n] W (AllocPost w0 W s P F pl (allocW P k ca live w n)) := by
  cases hn : classB n with
  | false =>
    have ER : allocW P k ca live w n = (k, ca, live, 0, 1) := by unfold allocW; rw [if_neg (by rw [hn]; simp)]
    rw [ER]
    refine (salloc_arg _ n m (.inl hn)).mono ?_
    rintro e W' ⟨rfl, rfl⟩
    exact ⟨rfl, Left.refl m⟩
  | true =>
    have CL := Lib.hid (fun X => class_any n X)
    have EM := Lib.hid (employs_any (w : Int) m)
    rw [emp_yes hw] at EM
    rw [hn] at CL
    have b := of_decide_eq_true hn
    have u := class_up n b.1 b.2
    have HV := Lib.hid v
    have TW := Lib.hid (take_w hw hn m v)
    have AL := Lib.hid (fun h0 => v.alloc hw hn h0)
    have ln := v.val.len
    have EP := Lib.hid (show ∀ K' C' L' a C W', allocW P k ca live w n = (K', C', L', a, C) → Left w0 W W' s P K' C' L' F pl → AllocPost w0 W s P F pl (allocW P k ca live w n) (.returned (.tuple #[.int .i64 a, .int .i64 C])) W' from fun K' C' L' a C W' h L => ⟨by rw [h], by rw [h]; exact L⟩)
    unfold TakeWPost at TW
    cases v.tookW hw hn with
    | yes h0 h1 h2 h3 =>
      have ER := Lib.hid (show allocW P k ca live w n = ((takeWR P k ca w (classI n)).1, (takeWR P k ca w (classI n)).2.1, Lm.insL live (Lm.newS n (takeWR P k ca w (classI n)).2.2.1), (takeWR P k ca w (classI n)).2.2.1, 0) from by unfold allocW; rw [if_pos hn, if_pos h0])
      have ly := h1.inv.lies (a := (takeWR P k ca w (classI n)).2.2.1) (c := classI n) List.mem_cons_self
      have pp := v.iq.inv.pages
      have fx : Lm.Fit ⟨(takeWR P k ca w (classI n)).2.2.1, classI n, -1⟩ := by
        have := ly.a0
        have := ly.fit
        have := ly.w0
        exact ⟨⟨by show (-9223372036854775808 : Int) ≤ (takeWR P k ca w (classI n)).2.2.1; omega, by show (takeWR P k ca w (classI n)).2.2.1 ≤ 9223372036854775807; omega⟩, ⟨by show (-9223372036854775808 : Int) ≤ classI n; omega, by show classI n ≤ 9223372036854775807; omega⟩, ⟨by show (-9223372036854775808 : Int) ≤ -1; decide, by show (-1 : Int) ≤ 9223372036854775807; decide⟩⟩
      rw [h0] at TW
      have ns : Lm.newS n (takeWR P k ca w (classI n)).2.2.1 = ⟨(takeWR P k ca w (classI n)).2.2.1, classI n, -1⟩ := rfl
      rw [ns] at ER
      generalize (takeWR P k ca w (classI n)).2.2.1 = at_ at *
      generalize (takeWR P k ca w (classI n)).2.1 = ca1 at *
      generalize (takeWR P k ca w (classI n)).1 = k1 at *
      have FX := Lib.hid fx
      generalize classI n = cl at *
      clear hn b u AL h0 h1 h2 h3 ly fx ns m v
      go_enter Tryz.func19, Tryz.ntmps19
      go_wp2_with fail
      refine (CL.out _).mono ?_
      rintro e w' ⟨rfl, rfl⟩
      go_wp2_with fail
      refine EM.out.mono ?_
      rintro e w' ⟨rfl, rfl⟩
      go_wp2_with fail
      refine TW.out.mono ?_
      rintro e W1 ⟨rfl, L⟩
      obtain ⟨⟨pl1, m1, e1⟩, f1⟩ := L
      have FD := Lib.hid (find_any at_ m1 HV.out.val)
      have M1 := Lib.hid m1
      have E1 := Lib.hid e1
      have F1 := Lib.hid f1
      clear m1 e1 f1
      go_wp2_with fail
      refine FD.out.mono ?_
      rintro e W2 ⟨rfl, k2⟩
      have M2 := Lib.hid (M1.out.old k2)
      have L2 := Lib.hid (Same.trans E1.out ⟨rfl, rfl, rfl, rfl, rfl⟩ : Same pl (pl1.re W1.heap.size 97))
      have F2 := Lib.hid (F1.out.trans k2.any)
      have IN := Lib.hid (live_ins M2.out ⟨at_, cl, -1⟩ FX.out (by omega))
      have c14 := M2.out.c14
      have hs := M2.out.st.box.lt
      obtain ⟨Av, cv, ev, _, _, _⟩ := M2.out.lv.ow.rs
      rw [ev] at IN c14
      clear k2 ev
      go_wp2_with fail
      refine IN.out.mono ?_
      rintro e X ⟨A, nn, cc, rfl, x0, x1, L3⟩
      go_wp2_with fail
      go_ret2
      exact EP.out _ _ _ _ _ _ ER.out (Left.trans L2.out F2.out L3.out)
    | no h0 h1 h2 h3 =>
      have ER := Lib.hid (show allocW P k ca live w n = (k, ca, live, 0, 3) from by unfold allocW; rw [if_pos hn, if_neg (by omega)])
      rw [h0, h1, h2, h3] at TW
      generalize classI n = cl at *
      clear hn b u AL h0 h1 h2 h3 m v
      go_enter Tryz.func19, Tryz.ntmps19
      go_wp2_with fail
      refine (CL.out _).mono ?_
      rintro e w' ⟨rfl, rfl⟩
      go_wp2_with fail
      refine EM.out.mono ?_
      rintro e w' ⟨rfl, rfl⟩
      go_wp2_with fail
      refine TW.out.mono ?_
      rintro e W1 ⟨rfl, L⟩
      have L := Lib.hid L
      go_wp2_with fail
      go_ret2
      exact EP.out _ _ _ _ _ _ ER.out L.out
end calls
end Go.Proofs.YtcndilpaijapkaaGreat.Shp
/- A shop's shrink, give, Free and Flush: what they answer and leave. Own work; each is proved by a walk through the landed text. -/
namespace Go.Proofs.YtcndilpaijapkaaGreat.Shp
open Sto
open Go.ChangeShapes Go.WideShapes Go.ChangeAt Go.RowKit
set_option maxRecDepth 100000

section calls
variable {w0 W : World} {s P : Nat} {k : K} {ca : Ca} {live : List Lm.S} {F : Nat → Prop} {pl : Pl} {O : Int → Int → Prop}
def numAt (w : World) (b i : Nat) : Nat := match w.cell? ⟨b, i, none⟩ with | some (.int _ n) => n.toNat | _ => 0
/-- Behind some rounds of a shrink. -/
structure Sh (w0 W wr : World) (s P : Nat) (ca : Ca) (live : List Lm.S) (F : Nat → Prop) (pl : Pl) (w c most : Nat) (L : Os) (K' : K) (k : K) (l : List Nat) (pl' : Pl) (R : List Nat) : Prop where
  st : StM w0 wr s P k (up ca w c l) live F pl'
  same : Same pl pl'
  kept : Kept (Fr F) W wr
  iq : Iq P k (pr c l ++ L)
  todo : shrinkR c most k l = (K', R)
  len : l.length ≤ 100
theorem Sh.num {wr : World} {w c most : Nat} {L : Os} {K' : K} {l : List Nat} {pl' : Pl} {R : List Nat} (h : Sh w0 W wr s P ca live F pl w c most L K' k l pl' R) (hw : w < pl.nw) (hc : c < 8) : numAt wr pl.cb (w * 16 + c * 2 + 1) = l.length := by
  have := h.st.nm (w := w) (c := c) (by rw [h.same.nw]; exact hw) hc
  rw [h.same.cb, up_at] at this
  unfold numAt
  rw [this]
  simp
set_option maxHeartbeats 4000000 in
theorem shrink_any {w c most : Nat} (hw : w < pl.nw) (hc : c < 4) (m : StM w0 W s P k ca live F pl) {L : Os} (q : Iq P k (pr c (ca w c) ++ L)) (ro : RestO ca w c L) (hm : most ≤ 100) (hn : (ca w c).length ≤ 100) :
    Calls Tryz.prog 67 #[ptr s, .int .i64 (w : Int), .int .i64 (c : Int), .int .i64 (most : Int)] W (LeftPost w0 W s P (shrinkR c most k (ca w c)).1 (up ca w c (shrinkR c most k (ca w c)).2) live F pl (.int .i64 0)) := by
  obtain ⟨K', R, hR⟩ : ∃ K' R, shrinkR c most k (ca w c) = (K', R) := ⟨_, _, rfl⟩
  rw [hR]
  have F0 := Lib.hid (show Sh w0 W W s P ca live F pl w c most L K' k (ca w c) pl R from ⟨by rw [up_self]; exact m, Same.refl pl, Kept.refl _ _, q, hR, hn⟩)
  have RO := Lib.hid ro
  have PO := Lib.hid (show ∀ W' pl' (k' : K) (l' : List Nat), StM w0 W' s P k' (up ca w c l') live F pl' → Same pl pl' → Kept (Fr F) W W' → (k', l') = (K', R) → LeftPost w0 W s P K' (up ca w c R) live F pl (.int .i64 0) (.returned (.int .i64 0)) W' from fun W' pl' k' l' m e f z => by injection z with z1 z2; subst z1; subst z2; exact ⟨rfl, ⟨pl', m, e⟩, f⟩)
  have few := m.cs.few
  clear m q ro hR hn
  go_enter Tryz.func67, Tryz.ntmps67
  go_wp2_with fail
  go_loopw [] (fun wr => ∃ (k : K) (l : List Nat) (pl' : Pl), Hid (Sh w0 W wr s P ca live F pl w c most L K' k l pl' R)) (fun wr => numAt wr pl.cb (w * 16 + c * 2 + 1))
  case atStart => exact ⟨k, _, pl, F0⟩
  case round =>
    clear F0
    obtain ⟨k2, l, pl2, FE⟩ := hrel
    rename World => V
    have hs := FE.out.st.st.box.lt
    have nw2 := FE.out.same.nw
    have cb2 := FE.out.same.cb
    have hw2 : w < pl2.nw := by rw [nw2]; exact hw
    have c10 := FE.out.st.cc FE.out.same
    have n0 := FE.out.st.nm hw2 (show c < 8 by omega)
    have hb := FE.out.st.cs.box.lt
    rw [cb2] at n0 hb
    have ln := FE.out.len
    have me := FE.out.num hw (show c < 8 by omega)
    have wi : (w : Int) < (pl.nw : Int) := by omega
    have ci : (c : Int) < 8 := by omega
    clear nw2 cb2
    rw [up_at] at n0
    cases l with
    | nil =>
      have EE := Lib.hid (PO.out V pl2 k2 [] FE.out.st FE.out.same FE.out.kept (by have := FE.out.todo; exact this))
      rw [show (([] : List Nat).length : Int) = 0 from rfl] at n0
      have cm : ¬ ((0 : Int) > (most : Int)) := by omega
      go_wp2_with fail
      go_ret
      exact EE.out
    | cons a t =>
      rw [show (((a :: t).length : Nat) : Int) = (t.length : Int) + 1 by simp] at n0
      have TD := FE.out.todo
      unfold shrinkR at TD
      have lt : t.length + 1 ≤ 100 := by simpa using ln
      by_cases cm : (most : Int) < (t.length : Int) + 1
      · rw [if_neg (by omega)] at TD
        have TD := Lib.hid TD
        have PP := Lib.hid (pop_any (w := w) (c := c) (a := a) (t := t) FE.out.st hw2 hc (up_at _ _ _ _) (by omega))
        rw [up_up] at PP
        unfold LeftPost at PP
        go_wp2_with fail
        refine PP.out.mono ?_
        rintro e V1 ⟨rfl, L1⟩
        obtain ⟨⟨pl3, m3, e3⟩, f3⟩ := L1
        have M3 := Lib.hid m3
        have E3 := Lib.hid (FE.out.same.trans e3)
        have F3 := Lib.hid (FE.out.kept.trans f3)
        have GV := Lib.hid (give_small (c := c) (a := (a : Int)) hc M3.out FE.out.iq.inv List.mem_cons_self (by rw [Int.toNat_natCast]; exact nc_up FE.out.iq RO.out))
        unfold GavePost at GV
        have IQ := Lib.hid (Iq.gaveS (L := pr c t ++ L) FE.out.iq hc)
        clear m3 e3 f3
        go_wp2_with fail
        refine GV.out.mono ?_
        rintro e V2 ⟨rfl, L2⟩
        obtain ⟨⟨pl4, m4, e4⟩, f4⟩ := L2
        have F4 := Lib.hid (show Sh w0 W V2 s P ca live F pl w c most L K' (giveSR k2 (a : Int) c) t pl4 R from ⟨m4, E3.out.trans e4, F3.out.trans f4, IQ.out, TD.out, by omega⟩)
        have me4 := F4.out.num hw (show c < 8 by omega)
        have dec : numAt V2 pl.cb (w * 16 + c * 2 + 1) < numAt V pl.cb (w * 16 + c * 2 + 1) := by rw [me, me4]; simp
        clear m4 e4 f4
        go_wp2_with fail
        exact ⟨⟨_, _, _, F4⟩, dec⟩
      · rw [if_pos (by omega)] at TD
        have EE := Lib.hid (PO.out V pl2 k2 (a :: t) FE.out.st FE.out.same FE.out.kept TD)
        go_wp2_with fail
        go_ret
        exact EE.out
def GivePost (w0 W : World) (s P : Nat) (live : List Lm.S) (F : Nat → Prop) (pl : Pl) (r : K × Ca) (e : Ending) (W' : World) : Prop := e = .returned (.int .i64 0) ∧ Left w0 W W' s P r.1 r.2 live F pl
/-- What is so behind the push of a give. -/
theorem giveC_few {l : List Nat} {a c : Nat} (k : K) (h : l.length + 1 ≤ 2 * batN c) : giveCR k l a c = (k, a :: l) := if_pos h
theorem giveC_more {l : List Nat} {a c : Nat} (k : K) (h : ¬ l.length + 1 ≤ 2 * batN c) : giveCR k l a c = shrinkR c (batN c) k (a :: l) := if_neg h
set_option maxHeartbeats 4000000 in
theorem give_w {w : Nat} (hw : w < pl.nw) {a cl : Int} (m : StM w0 W s P k ca live F pl) {lv : List Lm.S} (q : Iq P k ((a, cl) :: outs pl.nw ca lv)) (v : ∀ w c, pl.nw ≤ w ∨ 4 ≤ c → ca w c = []) (cp : ∀ w c, c < 4 → (ca w c).length ≤ 2 * batN c) :
    Calls Tryz.prog 65 #[ptr s, .int .i64 (w : Int), .int .i64 cl, .int .i64 a] W (GivePost w0 W s P live F pl (giveWR k ca w a cl)) := by
  have SM := Lib.hid (fun X => small_any cl X)
  have ly := q.inv.lies List.mem_cons_self
  have a0 := ly.a0
  have c0 := ly.c0
  have c7 := ly.c7
  by_cases c4 : cl < 4
  · have sm := smallB_in cl c0 c4
    rw [sm] at SM
    obtain ⟨c, rfl⟩ : ∃ c : Nat, cl = (c : Int) := ⟨cl.toNat, by omega⟩
    obtain ⟨n, rfl⟩ : ∃ n : Nat, a = (n : Int) := ⟨a.toNat, by omega⟩
    have hc : c < 4 := by omega
    have RO : RestO ca w c (rest pl.nw ca w c lv) := fun w' c' e b hb => by
      have hm : w' < pl.nw ∧ c' < 4 := by
        apply Classical.byContradiction
        intro z
        rw [v w' c' (by omega)] at hb
        cases hb
      refine ⟨List.mem_append.2 (.inl (cache_mem.2 ⟨w', c', b, hm.1, hm.2, ?_, rfl, rfl⟩)), hm.2⟩
      rw [up_ne _ _ e]
      exact hb
    have Q1 : Iq P k (((n : Int), (c : Int)) :: (pr c (ca w c) ++ rest pl.nw ca w c lv)) := q.perm ((outs_own ca lv hw hc).symm.cons _)
    have nc : ∀ w' c', n ∉ ca w' c' := by
      have := nc_up Q1 RO
      rwa [up_self] at this
    have cw := cp w c hc
    have bb : batN c ≤ 4 ∧ 1 ≤ batN c := by unfold batN; omega
    have PU := Lib.hid (push_any (w := w) (c := c) (a := n) m hw hc (by rw [m.ar.len]; exact Iq.lt Q1 List.mem_cons_self) (CaO.nofree Q1.inv hc List.mem_cons_self) nc (by omega))
    unfold LeftPost at PU
    have ER : giveWR k ca w (n : Int) (c : Int) = ((giveCR k (ca w c) n c).1, up ca w c (giveCR k (ca w c) n c).2) := by
      unfold giveWR
      rw [if_pos sm, Int.toNat_natCast, Int.toNat_natCast]
    rw [ER]
    have CA := Lib.hid (fun X => cap_any (c : Int) X)
    have BA := Lib.hid (fun X => batch_any (c : Int) X)
    rw [cap_i hc] at CA
    rw [bat_i hc] at BA
    have wi : (w : Int) < (pl.nw : Int) := by omega
    have ci : (c : Int) < 8 := by omega
    by_cases fw : (ca w c).length + 1 ≤ 2 * batN c
    · rw [giveC_few k fw]
      have fi : ((ca w c).length : Int) + 1 ≤ ((2 * batN c : Nat) : Int) := by omega
      clear q v cp Q1 RO nc ly m ER sm
      go_enter Tryz.func65, Tryz.ntmps65
      go_wp2_with fail
      refine (SM.out _).mono ?_
      rintro e w' ⟨rfl, rfl⟩
      go_wp2_with fail
      refine PU.out.mono ?_
      rintro e W1 ⟨rfl, L1⟩
      have LL := Lib.hid L1
      obtain ⟨⟨pl1, m1, e1⟩, f1⟩ := L1
      have d10 := m1.cc e1
      have hw1 : w < pl1.nw := by rw [e1.nw]; exact hw
      have n1 := m1.nm hw1 (show c < 8 by omega)
      rw [e1.cb, up_at, show (((n :: ca w c).length : Nat) : Int) = ((ca w c).length : Int) + 1 by simp] at n1
      have hs1 := m1.st.box.lt
      have hb1 : pl.cb < W1.heap.size := by rw [← e1.cb]; exact m1.cs.box.lt
      have EE := Lib.hid (show ∀ X, Kept Old W1 X → Left w0 W X s P k (up ca w c (n :: ca w c)) live F pl from fun X qq => by
        obtain ⟨⟨pl2, m2, e2⟩, f2⟩ := LL.out
        exact ⟨⟨_, m2.old qq, e2.trans ⟨rfl, rfl, rfl, rfl, rfl⟩⟩, f2.trans qq.any⟩)
      clear m1 e1 f1
      go_wp2_with fail
      go_region_with (first
        | (go_at_call 109; refine (CA.out _).mono ?_; rintro e w' ⟨rfl, rfl⟩))
      all_goals
        go_wp2_with fail
        go_ret
        exact ⟨rfl, EE.out _ (by first | exact Kept.refl Old W1 | exact (Kept.refl Old W1).drew)⟩
    · rw [giveC_more k fw]
      have fi : ¬ ((ca w c).length : Int) + 1 ≤ ((2 * batN c : Nat) : Int) := by omega
      have Q2 := Lib.hid (show Iq P k (pr c (n :: ca w c) ++ rest pl.nw ca w c lv) from Q1)
      have RO2 := Lib.hid (show RestO (up ca w c (n :: ca w c)) w c (rest pl.nw ca w c lv) from fun w' c' e b hb => RO w' c' e b (by rw [up_ne _ _ e] at hb; exact hb))
      clear q v cp Q1 RO nc ly m ER sm
      go_enter Tryz.func65, Tryz.ntmps65
      go_wp2_with fail
      refine (SM.out _).mono ?_
      rintro e w' ⟨rfl, rfl⟩
      go_wp2_with fail
      refine PU.out.mono ?_
      rintro e W1 ⟨rfl, L1⟩
      have LL := Lib.hid L1
      obtain ⟨⟨pl1, m1, e1⟩, f1⟩ := L1
      have d10 := m1.cc e1
      have hw1 : w < pl1.nw := by rw [e1.nw]; exact hw
      have n1 := m1.nm hw1 (show c < 8 by omega)
      rw [e1.cb, up_at, show (((n :: ca w c).length : Nat) : Int) = ((ca w c).length : Int) + 1 by simp] at n1
      have hs1 := m1.st.box.lt
      have hb1 : pl.cb < W1.heap.size := by rw [← e1.cb]; exact m1.cs.box.lt
      have SK := Lib.hid (show ∀ X, Kept Old W1 X → Calls Tryz.prog 67 #[ptr s, .int .i64 (w : Int), .int .i64 (c : Int), .int .i64 (batN c : Int)] X (GivePost w0 W s P live F pl ((shrinkR c (batN c) k (n :: ca w c)).1, up ca w c (shrinkR c (batN c) k (n :: ca w c)).2)) from fun X qq => by
        have z := shrink_any (w := w) (c := c) (most := batN c) (by show w < pl1.nw; exact hw1) hc (m1.old qq) (L := rest pl.nw ca w c lv) (by rw [up_at]; exact Q2.out) RO2.out (by omega) (by rw [up_at]; simp only [List.length_cons]; omega)
        rw [up_at, up_up] at z
        refine z.mono ?_
        rintro e W2 ⟨rfl, L2⟩
        exact ⟨rfl, Left.trans (pl1 := pl1.re W1.heap.size 97) (e1.trans ⟨rfl, rfl, rfl, rfl, rfl⟩) (f1.trans qq.any) L2⟩)
      unfold GivePost at SK
      clear m1 e1 f1 LL
      go_wp2_with fail
      go_region_with (first
        | (go_at_call 109; refine (CA.out _).mono ?_; rintro e w' ⟨rfl, rfl⟩))
      all_goals
        go_wp2_with fail
        refine (BA.out _).mono ?_
        rintro e w' ⟨rfl, rfl⟩
        go_wp2_with fail
        refine (SK.out _ (by first | exact Kept.refl Old W1 | exact (Kept.refl Old W1).drew)).mono ?_
        rintro e W2 ⟨rfl, L2⟩
        have L2 := Lib.hid L2
        go_wp2_with fail
        go_ret
        exact ⟨rfl, L2.out⟩
  · have sm := smallB_out cl (Or.inr (by omega))
    rw [sm] at SM
    have GL := Lib.hid (give_large (show 4 ≤ cl by omega) m q.inv List.mem_cons_self)
    unfold GavePost at GL
    have ER : giveWR k ca w a cl = (giveLR k a cl, ca) := by unfold giveWR; rw [if_neg (by rw [sm]; simp)]
    rw [ER]
    clear q v cp ly m ER sm
    go_enter Tryz.func65, Tryz.ntmps65
    go_wp2_with fail
    refine (SM.out _).mono ?_
    rintro e w' ⟨rfl, rfl⟩
    go_wp2_with fail
    refine GL.out.mono ?_
    rintro e W1 ⟨rfl, L1⟩
    have L1 := Lib.hid L1
    go_wp2_with fail
    go_ret
    exact ⟨rfl, L1.out⟩
end calls
end Go.Proofs.YtcndilpaijapkaaGreat.Shp
/- A shop's Free and Flush: what they answer and leave. Own work; each is proved by a walk through the landed text. -/
namespace Go.Proofs.YtcndilpaijapkaaGreat.Shp
open Sto
open Go.ChangeShapes Go.WideShapes Go.ChangeAt Go.RowKit
set_option maxRecDepth 100000

section calls
variable {w0 W : World} {s P : Nat} {k : K} {ca : Ca} {live : List Lm.S} {F : Nat → Prop} {pl : Pl}
def FreePost (w0 W : World) (s P : Nat) (F : Nat → Prop) (pl : Pl) (r : K × Ca × List Lm.S × Int) (e : Ending) (W' : World) : Prop := e = .returned (.int .i64 r.2.2.2) ∧ Left w0 W W' s P r.1 r.2.1 r.2.2.1 F pl
theorem sfree_arg (w a : Int) (m : StM w0 W s P k ca live F pl) (h : empB pl.nw w = false) : Calls Tryz.prog 21 #[ptr s, .int .i64 w, .int .i64 a] W fun e W' => e = .returned (.int .i64 1) ∧ W = W' := by
  have EM := Lib.hid (employs_any w m)
  rw [h] at EM
  clear m h
  go_enter Tryz.func21, Tryz.ntmps21
  go_wp2_with fail
  refine EM.out.mono ?_
  rintro e w' ⟨rfl, rfl⟩
  go_wp2_with fail
  go_ret
  exact ⟨rfl, rfl⟩
set_option maxHeartbeats 4000000 in
theorem sfree_any {w : Nat} (hw : w < pl.nw) (a : Int) (m : StM w0 W s P k ca live F pl) (v : Sq P pl.nw k ca live) : Calls Tryz.prog 21 #[ptr s, .int .i64 (w : Int), .int .i64 a] W (FreePost w0 W s P F pl (freeW k ca live w a)) := by
  have EM := Lib.hid (employs_any (w : Int) m)
  rw [emp_yes hw] at EM
  have FD := Lib.hid (find_any a m v.val)
  have HM := Lib.hid m
  have HV := Lib.hid v
  have EP := Lib.hid (show ∀ K' C' L' C W', freeW k ca live w a = (K', C', L', C) → Left w0 W W' s P K' C' L' F pl → FreePost w0 W s P F pl (freeW k ca live w a) (.returned (.int .i64 C)) W' from fun K' C' L' C W' h L => ⟨by rw [h], by rw [h]; exact L⟩)
  cases ha : Lm.hasB live a with
  | false =>
    rw [ha] at FD
    have ER := Lib.hid (show freeW k ca live w a = (k, ca, live, 2) from by unfold freeW; rw [if_neg (by rw [ha]; simp)])
    clear ha m v
    go_enter Tryz.func21, Tryz.ntmps21
    go_wp2_with fail
    refine EM.out.mono ?_
    rintro e w' ⟨rfl, rfl⟩
    go_wp2_with fail
    refine FD.out.mono ?_
    rintro e W1 ⟨rfl, k1⟩
    have K1 := Lib.hid k1
    clear k1
    go_wp2_with fail
    go_ret
    exact EP.out _ _ _ _ _ ER.out (Left.old HM.out K1.out)
  | true =>
    rw [ha] at FD
    have ER := Lib.hid (show freeW k ca live w a = ((giveWR k ca w a (classAt live a)).1, (giveWR k ca w a (classAt live a)).2, Lm.delL live a, 0) from by unfold freeW; rw [if_pos ha])
    obtain ⟨x, hx, e, en, hl, o, _⟩ := v.at_ ha
    have ln := v.val.len
    have OD := Lib.hid (v.iq.perm (outs_del pl.nw ca ha).symm)
    have DL := Lib.hid (show live.take (Lm.placeL live a) ++ live.drop (Lm.placeL live a + 1) = Lm.delL live a from rfl)
    obtain ⟨A, cc, ev, R, _, _⟩ := m.lv.ow.rs
    obtain ⟨g, o', y, rfl, hg, hy, _, y0, y1, y2⟩ := R.get hl
    obtain rfl : y = x := by rw [hx] at hy; exact (Option.some.inj hy).symm
    rw [en] at y1
    generalize Lm.placeL live a = i at *
    generalize classAt live a = cl at *
    have pi := HM.out.c14
    rw [ev] at pi
    have hs := m.st.box.lt
    have il : (i : Int) < (live.length : Int) := by omega
    have wi : IntKind.i64.wrap ((i : Int) + 1) = (i : Int) + 1 := IntWalk.i64_in _ (by omega)
    have GI := Lib.hid (fun X (q : Kept Old W X) => give_w (pl := pl.re W.heap.size 97) (w := w) (a := a) (cl := cl) hw (HM.out.old q) OD.out HV.out.non HV.out.cap)
    clear ha hx hy e en o ev R y0 y2 m v
    go_enter Tryz.func21, Tryz.ntmps21
    go_wp2_with fail
    refine EM.out.mono ?_
    rintro e w' ⟨rfl, rfl⟩
    go_wp2_with fail
    refine FD.out.mono ?_
    rintro e W1 ⟨rfl, k1⟩
    have y1 := Lm.cell_on k1 y1
    have pi := Lm.cell_on k1 pi
    have GI := Lib.hid (GI.out W1 k1)
    unfold GivePost at GI
    have E1 := Lib.hid (show Same pl (pl.re W.heap.size 97) from ⟨rfl, rfl, rfl, rfl, rfl⟩)
    have F1 := Lib.hid (show Kept (Fr F) W W1 from k1.any)
    clear k1
    go_wp2_with fail
    refine GI.out.mono ?_
    rintro e W2 ⟨rfl, L⟩
    obtain ⟨⟨pl2, m2, e2⟩, f2⟩ := L
    have M2 := Lib.hid m2
    have E2 := Lib.hid (Same.trans E1.out e2)
    have F2 := Lib.hid (F1.out.trans f2)
    have DE := Lib.hid (live_del M2.out i hl (by omega))
    have c14 := M2.out.c14
    have hs := M2.out.st.box.lt
    obtain ⟨Av, cv, ev, _, _, _⟩ := M2.out.lv.ow.rs
    rw [ev] at DE c14
    clear m2 e2 f2 ev pi y1
    go_wp2_with fail
    refine DE.out.mono ?_
    rintro e X ⟨A', nn, cc', rfl, x0, x1, L3⟩
    go_wp2_with fail
    go_ret
    refine EP.out _ _ _ _ _ ER.out ?_
    have z := L3.out
    rw [DL.out] at z
    exact Left.trans E2.out F2.out z
/-! ### Flush -/
theorem sflush_arg (w : Int) (m : StM w0 W s P k ca live F pl) (h : empB pl.nw w = false) : Calls Tryz.prog 22 #[ptr s, .int .i64 w] W fun e W' => e = .returned (.int .i64 1) ∧ W = W' := by
  have EM := Lib.hid (employs_any w m)
  rw [h] at EM
  clear m h
  go_enter Tryz.func22, Tryz.ntmps22
  go_wp2_with fail
  refine EM.out.mono ?_
  rintro e w' ⟨rfl, rfl⟩
  go_wp2_with fail
  go_ret
  exact ⟨rfl, rfl⟩
set_option maxHeartbeats 2000000 in
/-- A shrink of what is empty. -/
theorem shrink_none {w c : Nat} (hw : w < pl.nw) (hc : c < 8) (m : StM w0 W s P k ca live F pl) (h : ca w c = []) :
    Calls Tryz.prog 67 #[ptr s, .int .i64 (w : Int), .int .i64 (c : Int), .int .i64 0] W fun e W' => e = .returned (.int .i64 0) ∧ W = W' := by
  have hs := m.st.box.lt
  have c10 := m.cc (Same.refl pl)
  have n0 := m.nm hw hc
  rw [h, show (([] : List Nat).length : Int) = 0 from rfl] at n0
  have hb := m.cs.box.lt
  have few := m.cs.few
  have wi : (w : Int) < (pl.nw : Int) := by omega
  have ci : (c : Int) < 8 := by omega
  clear m h
  go_enter Tryz.func67, Tryz.ntmps67
  go_wp2_with fail
  go_loopw [] (fun wr => wr = W) (fun _ => 0)
  case atStart => rfl
  case round =>
    subst hrel
    go_wp2_with fail
    go_ret
    exact ⟨rfl, rfl⟩
def FlushPost (w0 W : World) (s P : Nat) (live : List Lm.S) (F : Nat → Prop) (pl : Pl) (r : K × Ca) (e : Ending) (W' : World) : Prop := e = .returned (.int .i64 0) ∧ Left w0 W W' s P r.1 r.2 live F pl
/-- Behind some classes of a flush. -/
structure Fl (w0 W wr : World) (s P : Nat) (ca : Ca) (live : List Lm.S) (F : Nat → Prop) (pl : Pl) (w n : Nat) (k0 k : K) (ca' : Ca) (pl' : Pl) : Prop where
  st : StM w0 wr s P k ca' live F pl'
  same : Same pl pl'
  kept : Kept (Fr F) W wr
  sq : Sq P pl.nw k ca' live
  at_ : (k, ca') = flushR w (min n 4) k0 ca
set_option maxHeartbeats 4000000 in
theorem sflush_any {w : Nat} (hw : w < pl.nw) (m : StM w0 W s P k ca live F pl) (v : Sq P pl.nw k ca live) : Calls Tryz.prog 22 #[ptr s, .int .i64 (w : Int)] W (FlushPost w0 W s P live F pl (flushW k ca w)) := by
  have EM := Lib.hid (employs_any (w : Int) m)
  rw [emp_yes hw] at EM
  have F0 := Lib.hid (show Fl w0 W W s P ca live F pl w 0 k k ca pl from ⟨m, Same.refl pl, Kept.refl _ _, v, rfl⟩)
  clear m v
  go_enter Tryz.func22, Tryz.ntmps22
  go_wp2_with fail
  refine EM.out.mono ?_
  rintro e w' ⟨rfl, rfl⟩
  go_wp2_with fail
  go_loopw [13] (fun s13 wr => ∃ (n : Nat) (k' : K) (ca' : Ca) (pl' : Pl), n ≤ 8 ∧ s13 = .int .i64 (n : Int) ∧ Hid (Fl w0 W wr s P ca live F pl w n k k' ca' pl')) (fun s13 _ => 8 - (intOf s13).toNat)
  case atStart => exact ⟨0, k, ca, pl, by omega, rfl, F0⟩
  case round =>
    clear F0
    obtain ⟨n, k', ca', pl', hn, rfl, FL⟩ := hrel
    rename World => V
    by_cases n8 : n < 8
    · have wn : IntKind.i64.wrap ((n : Int) + 1) = (n : Int) + 1 := IntWalk.i64_in _ (by omega)
      have n8' : (n : Int) < 8 := by omega
      have hw' : w < pl'.nw := by rw [FL.out.same.nw]; exact hw
      by_cases n4 : n < 4
      · have OW := Iq.perm FL.out.sq.iq (outs_own ca' live hw n4).symm
        have RO : RestO ca' w n (rest pl.nw ca' w n live) := fun w' c' e b hb => by
          have hm := FL.out.sq.mem hb
          refine ⟨List.mem_append.2 (.inl (cache_mem.2 ⟨w', c', b, hm.1, hm.2.1, ?_, rfl, rfl⟩)), hm.2.1⟩
          rw [up_ne _ _ e]
          exact hb
        have SK := Lib.hid (shrink_any (w := w) (c := n) (most := 0) hw' n4 FL.out.st OW RO (by omega) (by have := FL.out.sq.cap w n n4; unfold batN at this; omega))
        unfold LeftPost at SK
        have SQ := Lib.hid (FL.out.sq.shrinkC (most := 0) hw n4 (Nat.zero_le _))
        have AT := Lib.hid (show ((shrinkR n 0 k' (ca' w n)).1, up ca' w n (shrinkR n 0 k' (ca' w n)).2) = flushR w (min (n + 1) 4) k ca from by
          have e := FL.out.at_
          rw [show min n 4 = n by omega] at e
          rw [show min (n + 1) 4 = n + 1 by omega]
          unfold flushR
          rw [← e])
        clear OW RO
        go_wp2_with fail
        refine SK.out.mono ?_
        rintro e V1 ⟨rfl, L1⟩
        obtain ⟨⟨pl1, m1, e1⟩, f1⟩ := L1
        have F1 := Lib.hid (show Fl w0 W V1 s P ca live F pl w (n + 1) k _ _ pl1 from ⟨m1, FL.out.same.trans e1, FL.out.kept.trans f1, SQ.out, AT.out⟩)
        clear m1 e1 f1
        go_wp2_with fail
        exact ⟨⟨n + 1, _, _, _, by omega, by go_num, F1⟩, by simp [intOf]; omega⟩
      · have SK := Lib.hid (shrink_none (w := w) (c := n) hw' n8 FL.out.st (FL.out.sq.non w n (.inr (by omega))))
        have F1 := Lib.hid (show Fl w0 W V s P ca live F pl w (n + 1) k k' ca' pl' from ⟨FL.out.st, FL.out.same, FL.out.kept, FL.out.sq, by rw [show min (n + 1) 4 = min n 4 by omega]; exact FL.out.at_⟩)
        go_wp2_with fail
        refine SK.out.mono ?_
        rintro e V1 ⟨rfl, rfl⟩
        go_wp2_with fail
        exact ⟨⟨n + 1, _, _, _, by omega, by go_num, F1⟩, by simp [intOf]; omega⟩
    · have n8' : ¬ (n : Int) < 8 := by omega
      have EE := Lib.hid (show FlushPost w0 W s P live F pl (flushW k ca w) (.returned (.int .i64 0)) V from by
        have e := FL.out.at_
        rw [show min n 4 = 4 by omega] at e
        unfold flushW
        rw [← e]
        exact ⟨rfl, ⟨pl', FL.out.st, FL.out.same⟩, FL.out.kept⟩)
      go_wp2_with fail
      go_ret
      exact EE.out
end calls
end Go.Proofs.YtcndilpaijapkaaGreat.Shp
