/-
  What a store's takeSmall, takeLarge, giveSmall, giveLarge answer and leave. Own work; each is proved by a walk through the landed text.
-/
import Derived.Test.YtjfkmgicbakmgaaGreatRows
import Derived.WalkKit
import Derived.ProofKit
import Derived.OpenShut
import Derived.Outline
import Derived.Deep.Light
import Derived.Deep.QuietTactic
import Derived.BigQuiet
import Derived.IntWalk
import Derived.StillTailTactics
import Derived.RegionTactic
import Derived.Deep.RegionLaw
import Derived.Deep.RegionHeld3
import Derived.Test.YtjfkmgicbakmgaaGreatJStoreWalk
namespace Go.Proofs.YtjfkmgicbakmgaaGreat.Sto
open Go.ChangeShapes Go.WideShapes Go.ChangeAt Go.RowKit
set_option maxRecDepth 100000
section calls
variable {w0 W : World} {s P : Nat} {k : K} {live : List Lm.S} {F : Nat → Prop} {pl : Pl} {O : Int → Int → Prop}
theorem StM.ca {pl' : Pl} (m : StM w0 W s P k live F pl') (e : Same pl pl') : W.cell? ⟨s, 0, none⟩ = some (ptr pl.a) := (m.c 0).trans (by rw [← e.a]; rfl)
theorem StM.chp {pl' : Pl} (m : StM w0 W s P k live F pl') (e : Same pl pl') : W.cell? ⟨s, 1, none⟩ = some (ptr pl.h) := (m.c 1).trans (by rw [← e.h]; rfl)
theorem StM.cp {pl' : Pl} (m : StM w0 W s P k live F pl') (e : Same pl pl') {c : Nat} (hc : c < 4) : W.cell? ⟨s, 2 + c, none⟩ = some (ptr (pl.pq c)) := by
  refine (m.c (2 + c)).trans ?_
  rw [← e.pq]
  rcases (show c = 0 ∨ c = 1 ∨ c = 2 ∨ c = 3 by omega) with rfl | rfl | rfl | rfl <;> rfl
/-- The same calls at any later place. -/
theorem pool_take_at {c : Nat} (hc : c < 4) {pl' : Pl} (m : StM w0 W s P k live F pl') (e : Same pl pl') (g : ∀ d, d < 4 → Prt.GoodP P d (k.p d)) (hP : P ≤ 256) :
    Calls Tryz.prog 84 #[ptr (pl.pq c), ptr pl.a] W fun e W' => e = .returned (.tuple #[.int .i64 (Prt.takeA (k.p c)), .int .i64 (Prt.takeC (k.p c))]) ∧ Left w0 W W' s P (k.pool c (Prt.takeL (k.p c))) live F pl' := by
  rw [← e.a, ← e.pq]
  exact pool_take hc m g hP
theorem pool_add_at {c : Nat} (hc : c < 4) {pg : Nat} {pl' : Pl} (m : StM w0 W s P k live F pl') (e : Same pl pl') (g : ∀ d, d < 4 → Prt.GoodP P d (k.p d)) (hP : P ≤ 256) (hpg : pg + 8 ≤ P) (h5 : Prt.addC P (k.p c) (pg : Int) = 0) (far : ∀ d, d < 4 → ∀ x ∈ k.p d, x.page + 8 ≤ pg ∨ pg + 8 ≤ x.page) :
    Calls Tryz.prog 85 #[ptr (pl.pq c), ptr pl.a, .int .i64 (pg : Int)] W fun e W' => e = .returned (.int .i64 0) ∧ Left w0 W W' s P (k.pool c (Prt.addL P c (k.p c) (pg : Int))) live F pl' := by
  rw [← e.a, ← e.pq]
  exact pool_add hc m g hP hpg h5 far
def TookPost (w0 W : World) (s P : Nat) (live : List Lm.S) (F : Nat → Prop) (pl : Pl) (r : K × Int × Int) (e : Ending) (W' : World) : Prop := e = .returned (.tuple #[.int .i64 r.2.1, .int .i64 r.2.2]) ∧ Left w0 W W' s P r.1 live F pl
theorem pool_pool (k : K) (c : Nat) (l m : List Prt.Q) : (k.pool c l).pool c m = k.pool c m := by
  unfold K.pool
  congr 1
  funext d
  show (if d = c then m else if d = c then l else k.p d) = if d = c then m else k.p d
  by_cases e : d = c
  · rw [if_pos e, if_pos e]
  · rw [if_neg e, if_neg e, if_neg e]
theorem pool_good {k : K} {c : Nat} {L : List Prt.Q} (h : ∀ d, d < 4 → Prt.GoodP P d (k.p d)) (hL : Prt.GoodP P c L) : ∀ d, d < 4 → Prt.GoodP P d ((k.pool c L).p d) := by
  intro d hd
  by_cases e : d = c
  · subst e
    rw [K.pool_at]
    exact hL
  · rw [K.pool_ne _ _ e]
    exact h d hd
theorem pool_same (k : K) (c : Nat) : k.pool c (k.p c) = k := by
  obtain ⟨a, b, p, d, e, f⟩ := k
  unfold K.pool
  congr 1
  funext d
  by_cases e : d = c
  · rw [if_pos e, e]
  · rw [if_neg e]
set_option maxHeartbeats 4000000 in
theorem take_small {c : Nat} (hc : c < 4) (m : StM w0 W s P k live F pl) (v : Inv P k O) : Calls Tryz.prog 49 #[ptr s, .int .i64 (c : Int)] W (TookPost w0 W s P live F pl (takeSR P k c)) := by
  have pp := v.pages
  have T1 := Lib.hid (pool_take_at hc m (Same.refl pl) v.good pp.2)
  have c0 := m.ca (Same.refl pl)
  have cp := m.cp (Same.refl pl) hc
  have ic : (c : Int) < 8 := by omega
  have EP := Lib.hid (show ∀ a C W', (takeSR P k c).2.1 = a → (takeSR P k c).2.2 = C → Left w0 W W' s P (takeSR P k c).1 live F pl → TookPost w0 W s P live F pl (takeSR P k c) (.returned (.tuple #[.int .i64 a, .int .i64 C])) W' from fun a C W' h1 h2 L => ⟨by rw [h1, h2], L⟩)
  have HM := Lib.hid m
  have HG := Lib.hid v.good
  cases v.takeS hc with
  | has a h1 h2 h3 h4 =>
    rw [h1, h2] at T1
    have ER := Lib.hid (show takeSR P k c = (k.pool c (Prt.takeL (k.p c)), (a : Int), 0) from by unfold takeSR; rw [if_pos h1, h2])
    clear h1 h2 h3 h4 v m
    go_enter Tryz.func49, Tryz.ntmps49
    go_wp2_with fail
    refine T1.out.mono ?_
    rintro e W1 ⟨rfl, L⟩
    have L := Lib.hid L
    go_wp2_with fail
    go_ret2
    exact EP.out _ _ _ (by rw [ER.out]) (by rw [ER.out]) (by rw [ER.out]; exact L.out)
  | none h1 h2 h3 h4 =>
    rw [h1, h2, h3, pool_same] at T1
    have p8 := Lib.hid (pages_small (c := (c : Int)) (by omega) (by omega))
    have ER := Lib.hid (show takeSR P k c = (k, 0, 3) from by unfold takeSR; rw [if_neg (by omega), h4, if_neg (show ¬ (3 : Int) = 0 by decide)])
    have H4 := Lib.hid h4
    clear h1 h2 h3 h4 v m
    go_enter Tryz.func49, Tryz.ntmps49
    go_wp2_with fail
    refine T1.out.mono ?_
    rintro e W1 ⟨rfl, L⟩
    obtain ⟨⟨pl1, m1, e1⟩, f1⟩ := L
    have R1 := Lib.hid (room_any (c : Int) m1)
    rw [p8.out, H4.out] at R1
    have E1 := Lib.hid e1
    have F1 := Lib.hid f1
    clear m1 f1 e1 T1
    go_wp2_with fail
    refine R1.out.mono ?_
    rintro e W2 ⟨rfl, L⟩
    have L := Lib.hid L
    rw [show (if (3 : Int) = 0 then (0 : Int) else 0) = 0 from rfl, show (if (3 : Int) = 0 then (0 : Int) else 3) = 3 from rfl]
    go_wp2_with fail
    go_ret2
    exact EP.out _ _ _ (by rw [ER.out]) (by rw [ER.out]) (by rw [ER.out]; exact Left.trans E1.out F1.out L.out)
  | new pg rl sl h1 h2 h3 h4 h5 h6 h7 h8 h9 h10 h11 =>
    rw [h1, h2, h3, pool_same] at T1
    have p8 := Lib.hid (pages_small (c := (c : Int)) (by omega) (by omega))
    have ER := Lib.hid (show takeSR P k c = (({ k with rl := rl, sl := sl } : K).pool c (Prt.takeL (Prt.addL P c (k.p c) (pg : Int))), ((pg * 64 : Nat) : Int), 0) from by
      unfold takeSR
      rw [if_neg (by omega), h4, if_pos rfl]
      simp only [h7])
    have H4 := Lib.hid h4
    have H5 := Lib.hid h5
    have H67 := Lib.hid (And.intro h6 h7)
    have H11 := Lib.hid h11
    clear h1 h2 h3 h4 h5 h6 h7 h8 h9 h11 v m
    go_enter Tryz.func49, Tryz.ntmps49
    go_wp2_with fail
    refine T1.out.mono ?_
    rintro e W1 ⟨rfl, L⟩
    obtain ⟨⟨pl1, m1, e1⟩, f1⟩ := L
    have R1 := Lib.hid (room_any (c : Int) m1)
    rw [p8.out, H4.out] at R1
    have E1 := Lib.hid e1
    have F1 := Lib.hid f1
    clear m1 f1 e1 T1
    go_wp2_with fail
    refine R1.out.mono ?_
    rintro e W2 ⟨rfl, L⟩
    obtain ⟨⟨pl2, m2, e2⟩, f2⟩ := L
    rw [if_pos rfl, if_pos rfl]
    have E2 := Lib.hid (Same.trans E1.out e2)
    have F2 := Lib.hid (F1.out.trans f2)
    have A2 := Lib.hid (pool_add_at (pg := pg) hc m2 E2.out HG.out pp.2 h10 H5.out H11.out)
    have c0 := m2.ca E2.out
    clear m2 f2 e2 R1
    go_wp2_with fail
    refine A2.out.mono ?_
    rintro e W3 ⟨rfl, L⟩
    obtain ⟨⟨pl3, m3, e3⟩, f3⟩ := L
    have E3 := Lib.hid (Same.trans E2.out e3)
    have F3 := Lib.hid (F2.out.trans f3)
    have T3 := Lib.hid (pool_take_at hc m3 E3.out (pool_good (k := { k with rl := rl, sl := sl }) HG.out ((HG.out c hc).add (pg : Int))) pp.2)
    rw [pool_pool, K.pool_at, H67.out.1, H67.out.2] at T3
    have c0 := m3.ca E3.out
    clear m3 f3 e3 A2
    go_wp2_with fail
    refine T3.out.mono ?_
    rintro e W4 ⟨rfl, L⟩
    have L := Lib.hid L
    go_wp2_with fail
    go_ret2
    exact EP.out _ _ _ (by rw [ER.out]; show ((pg * 64 : Nat) : Int) = (pg : Int) * 64; omega) (by rw [ER.out]) (by rw [ER.out]; exact Left.trans E3.out F3.out L.out)
/-! ### Large ones -/
theorem StM.c10 {pl' : Pl} (m : StM w0 W s P k live F pl') : W.cell? ⟨s, 10, none⟩ = some (.slice pl'.A1 pl'.n1 pl'.c1) := m.c 10
theorem big_len {l : List Bg.R} (h : Bg.RightL l) : l.length ≤ 32 := by
  obtain ⟨may, pw⟩ := Bg.right_pw.1 h
  have nd : (l.map fun b => b.1 / 512).Nodup := by
    rw [List.nodup_iff_pairwise_ne] at *
    refine List.pairwise_map.2 (pw.imp_of_mem fun {a b} ha hb q e => ?_)
    have ma := Bg.may_of (may a ha)
    have mb := Bg.may_of (may b hb)
    have hn := of_decide_eq_false q.2
    have := ma.w0
    have := mb.w0
    omega
  have lim := Lq.nodup_len 32 _ nd (fun x hx => by
    obtain ⟨b, hb, rfl⟩ := List.mem_map.1 hx
    have mb := Bg.may_of (may b hb)
    have := of_decide_eq_true (may b hb)
    have := mb.w0
    omega)
  simpa using lim
set_option maxHeartbeats 4000000 in
theorem take_large {c : Int} (c4 : 4 ≤ c) (c7 : c ≤ 7) (m : StM w0 W s P k live F pl) (v : Inv P k O) : Calls Tryz.prog 47 #[ptr s, .int .i64 c] W (TookPost w0 W s P live F pl (takeLR k c)) := by
  have bl := big_len v.right
  have T1 := Lib.hid (Bg.take_any pl.A1 pl.n1 pl.c1 k.big c W m.kb.rs (by have := m.kb.rs.len; omega) m.kb.cap)
  have c10 := m.c10
  have EP := Lib.hid (show ∀ a C W', (takeLR k c).2.1 = a → (takeLR k c).2.2 = C → Left w0 W W' s P (takeLR k c).1 live F pl → TookPost w0 W s P live F pl (takeLR k c) (.returned (.tuple #[.int .i64 a, .int .i64 C])) W' from fun a C W' h1 h2 L => ⟨by rw [h1, h2], L⟩)
  have HM := Lib.hid m
  have hs := m.st.box.lt
  cases v.takeB c4 c7 with
  | has h1 h3 h4 =>
    rw [h1] at T1
    have ER := Lib.hid (show takeLR k c = ({ k with big := Bg.takeL k.big c }, Bg.takeA k.big c, 0) from by unfold takeLR; rw [if_pos h1])
    clear h1 h3 h4 v m
    go_enter Tryz.func47, Tryz.ntmps47
    go_wp2_with fail
    refine T1.out.mono ?_
    rintro e W1 ⟨v1, rfl, A, n, cc, rfl, R, hc, hA, K⟩
    obtain ⟨⟨pl', m', e1, e2, e3⟩, f⟩ := HM.out.big R hc hA.1 hA.2 K
    have L := Lib.hid (show Left w0 W _ s P { k with big := Bg.takeL k.big c } live F pl from ⟨⟨pl', m', ⟨e1, e2, e3⟩⟩, f⟩)
    have ff := (HM.out.old K).f 10
    have cc10 := (HM.out.old K).c10
    clear m' e1 e2 e3 f R hA
    go_wp2_with fail
    go_ret2
    exact EP.out _ _ _ (by rw [ER.out]) (by rw [ER.out]) (by rw [ER.out]; exact L.out)
  | none h1 h4 =>
    rw [h1] at T1
    have ER := Lib.hid (show takeLR k c = (k, 0, 3) from by unfold takeLR; rw [if_neg (by omega), h4, if_neg (show ¬ (3 : Int) = 0 by decide)])
    have H4 := Lib.hid h4
    clear h1 h4 v m
    go_enter Tryz.func47, Tryz.ntmps47
    go_wp2_with fail
    refine T1.out.mono ?_
    rintro e W1 ⟨v1, rfl, A, n, cc, rfl, R, hc, hA, K⟩
    have R1 := Lib.hid (room_any c (HM.out.old K))
    rw [H4.out] at R1
    have KK := Lib.hid K
    clear K R hA
    go_wp2_with fail
    refine R1.out.mono ?_
    rintro e W2 ⟨rfl, L⟩
    have L := Lib.hid (show Left w0 W W2 s P k live F pl from Left.trans (pl1 := pl.re W.heap.size 97) ⟨rfl, rfl, rfl⟩ KK.out.any L)
    rw [show (if (3 : Int) = 0 then (0 : Int) else 0) = 0 from rfl, show (if (3 : Int) = 0 then (0 : Int) else 3) = 3 from rfl]
    go_wp2_with fail
    go_ret2
    exact EP.out _ _ _ (by rw [ER.out]) (by rw [ER.out]) (by rw [ER.out]; exact L.out)
  | new pg rl sl h1 h4 h8 h9 h10 =>
    rw [h1] at T1
    have pp := v.pages
    have ER := Lib.hid (show takeLR k c = ({ k with rl := rl, sl := sl }, (pg : Int) * 64, 0) from by unfold takeLR; rw [if_neg (by omega), h4, if_pos rfl])
    have H4 := Lib.hid h4
    have wr : IntKind.i64.wrap ((pg : Int) * 64) = (pg : Int) * 64 := IntWalk.i64_in _ (by omega)
    clear h1 h4 h8 h9 v m
    go_enter Tryz.func47, Tryz.ntmps47
    go_wp2_with fail
    refine T1.out.mono ?_
    rintro e W1 ⟨v1, rfl, A, n, cc, rfl, R, hc, hA, K⟩
    have R1 := Lib.hid (room_any c (HM.out.old K))
    rw [H4.out] at R1
    have KK := Lib.hid K
    clear K R hA
    go_wp2_with fail
    refine R1.out.mono ?_
    rintro e W2 ⟨rfl, L⟩
    have L := Lib.hid (show Left w0 W W2 s P { k with rl := rl, sl := sl } live F pl from Left.trans (pl1 := pl.re W.heap.size 97) ⟨rfl, rfl, rfl⟩ KK.out.any L)
    rw [if_pos rfl, if_pos rfl]
    go_wp2_with fail
    go_ret2
    exact EP.out _ _ _ (by rw [ER.out]) (by rw [ER.out]) (by rw [ER.out]; exact L.out)
end calls
end Go.Proofs.YtjfkmgicbakmgaaGreat.Sto
