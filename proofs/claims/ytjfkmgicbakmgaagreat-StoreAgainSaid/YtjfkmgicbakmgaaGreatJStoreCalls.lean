/-
  What the steps of a store answer and leave: the pools' calls, the heap's, the search among live stacks. Own work; each is proved by a walk through the landed text.
-/
import Derived.Test.YtjfkmgicbakmgaaGreatRows
import Derived.WalkKit
import Derived.ProofKit
import Derived.OpenShut
import Derived.Outline
import Derived.Deep.Light
import Derived.Deep.QuietTactic
import Derived.BigQuiet
import Derived.IntWalk
import Derived.StillTailTactics
import Derived.RegionTactic
import Derived.Deep.RegionLaw
import Derived.Deep.RegionHeld3
import Derived.Test.YtjfkmgicbakmgaaGreatJSize
import Derived.Test.YtjfkmgicbakmgaaGreatJStoreMem
import Derived.Test.YtjfkmgicbakmgaaGreatJStoreSearch
namespace Go.Proofs.YtjfkmgicbakmgaaGreat.Sto
open Go.ChangeShapes Go.WideShapes Go.ChangeAt Go.RowKit
set_option maxRecDepth 100000

section calls
variable {w0 W : World} {s P : Nat} {k : K} {live : List Lm.S} {F : Nat → Prop} {pl : Pl} {O : Int → Int → Prop}
/-- Another place of the same parts: what the struct holds of pointers stays. -/
structure Same (pl pl' : Pl) : Prop where
  a : pl'.a = pl.a
  h : pl'.h = pl.h
  pq : pl'.pq = pl.pq
theorem Same.refl (pl : Pl) : Same pl pl := ⟨rfl, rfl, rfl⟩
theorem Same.trans {x y z : Pl} (h : Same x y) (k : Same y z) : Same x z := ⟨k.a.trans h.a, k.h.trans h.h, k.pq.trans h.pq⟩
/-- A store somewhere, with the same pointers, and the frame. -/
def Left (w0 W W' : World) (s P : Nat) (k : K) (live : List Lm.S) (F : Nat → Prop) (pl : Pl) : Prop := (∃ pl', StM w0 W' s P k live F pl' ∧ Same pl pl') ∧ Kept (Fr F) W W'
theorem Left.at_ {W' : World} (h : Left w0 W W' s P k live F pl) : ∃ pl', StM w0 W' s P k live F pl' ∧ Same pl pl' := h.1
theorem Left.trans {W1 W2 : World} {pl1 : Pl} {k1 : K} {l1 : List Lm.S} (e : Same pl pl1) (f : Kept (Fr F) W W1) (h : Left w0 W1 W2 s P k1 l1 F pl1) : Left w0 W W2 s P k1 l1 F pl := by
  obtain ⟨⟨pl2, m, e2⟩, f2⟩ := h
  exact ⟨⟨pl2, m, e.trans e2⟩, f.trans f2⟩
theorem Left.refl (m : StM w0 W s P k live F pl) : Left w0 W W s P k live F pl := ⟨⟨pl, m, Same.refl pl⟩, Kept.refl _ _⟩
theorem Left.old {W' : World} (m : StM w0 W s P k live F pl) (K : Kept Old W W') : Left w0 W W' s P k live F pl := ⟨⟨_, m.old K, ⟨rfl, rfl, rfl⟩⟩, K.any⟩
/-! ### Pools -/
theorem pool_take {c : Nat} (hc : c < 4) (m : StM w0 W s P k live F pl) (g : ∀ d, d < 4 → Prt.GoodP P d (k.p d)) (hP : P ≤ 256) :
    Calls Tryz.prog 84 #[ptr (pl.pq c), ptr pl.a] W fun e W' => e = .returned (.tuple #[.int .i64 (Prt.takeA (k.p c)), .int .i64 (Prt.takeC (k.p c))]) ∧ Left w0 W W' s P (k.pool c (Prt.takeL (k.p c))) live F pl := by
  have pt := (m.pt c hc).pt
  refine (Prt.take_any W pt m.ar.ar (g c hc) hP (m.ch c hc)).mono ?_
  rintro e W' ⟨rfl, T', A', C', K⟩
  obtain ⟨⟨pl', m', e1, e2, e3⟩, f⟩ := m.pool (L := Prt.takeL (k.p c)) (lo := 256) hc ⟨_, _, T', A', C', rfl, K.mono fun i e => .inr (.inr e), .inl rfl, fun _ _ x _ => x⟩ (fun d hd _ x hx a ha => by have := (g d hd).lt hx ha; omega)
  exact ⟨rfl, ⟨pl', m', ⟨e1, e2, e3⟩⟩, f⟩
theorem pool_add {c : Nat} (hc : c < 4) {pg : Nat} (m : StM w0 W s P k live F pl) (g : ∀ d, d < 4 → Prt.GoodP P d (k.p d)) (hP : P ≤ 256) (hpg : pg + 8 ≤ P) (h5 : Prt.addC P (k.p c) (pg : Int) = 0) (far : ∀ d, d < 4 → ∀ x ∈ k.p d, x.page + 8 ≤ pg ∨ pg + 8 ≤ x.page) :
    Calls Tryz.prog 85 #[ptr (pl.pq c), ptr pl.a, .int .i64 (pg : Int)] W fun e W' => e = .returned (.int .i64 0) ∧ Left w0 W W' s P (k.pool c (Prt.addL P c (k.p c) (pg : Int))) live F pl := by
  have pt := (m.pt c hc).pt
  unfold Prt.addC at h5
  unfold Prt.addL
  rw [if_neg (by omega), Int.toNat_natCast] at h5
  rw [if_neg (by omega), Int.toNat_natCast]
  cases q : Prt.placeQ pg (k.p c) with
  | none => rw [q] at h5; cases h5
  | some i =>
    refine (Prt.add_ok pg i W pt m.ar.ar (g c hc) (m.ch c hc) m.ar.len hP hpg q m.ff.kept.size).mono ?_
    rintro e W' ⟨rfl, H⟩
    obtain ⟨⟨pl', m', e1, e2, e3⟩, f⟩ := m.pool hc H (fun d hd _ x hx a ha => by
      have := far d hd x hx
      have := Prt.at_range ((g d hd).stks x hx a ha)
      omega)
    exact ⟨rfl, ⟨pl', m', ⟨e1, e2, e3⟩⟩, f⟩
theorem pool_put {c : Nat} (hc : c < 4) {a : Int} (m : StM w0 W s P k live F pl) (v : Inv P k O) (o : O a (c : Int)) :
    Calls Tryz.prog 98 #[ptr (pl.pq c), ptr pl.a, .int .i64 a] W fun e W' => e = .returned (.tuple #[.int .i64 (Prt.putP c (k.p c) a), .bool (Prt.putG c (k.p c) a), .int .i64 0]) ∧ Left w0 W W' s P (k.pool c (Prt.putL c (k.p c) a)) live F pl := by
  have pt := (m.pt c hc).pt
  have pp := v.pages
  obtain ⟨i, x, n, rfl, hx, ha, hn, hb⟩ := v.found hc o
  have hr := Prt.putR_at hb hx ha
  rw [Int.toNat_natCast, if_neg hn] at hr
  refine (Prt.put_ok W pt m.ar.ar (v.good c hc) m.ar.len pp.2 (m.ch c hc) hx ha hn).mono ?_
  rintro e W' ⟨rfl, H⟩
  obtain ⟨⟨pl', m', e1, e2, e3⟩, f⟩ := m.pool hc H (fun d hd ne y hy b hb => by
    have := v.pool_far hc hd (fun e => ne e.symm) (List.mem_of_getElem? hx) hy
    have := Prt.at_range ((v.good d hd).stks y hy b hb)
    omega)
  unfold Prt.putP Prt.putG Prt.putL
  by_cases d : x.free.length + 1 = Prt.perN c
  · rw [if_pos d] at hr m'
    rw [hr]
    exact ⟨by rw [decide_eq_true d], ⟨pl', m', ⟨e1, e2, e3⟩⟩, f⟩
  · rw [if_neg d] at hr m'
    rw [hr]
    exact ⟨by rw [decide_eq_false d], ⟨pl', m', ⟨e1, e2, e3⟩⟩, f⟩
/-! ### The heap -/
theorem heap_alloc (n cl : Int) (m : StM w0 W s P k live F pl) : Calls Tryz.prog 119 #[ptr pl.h, .int .i64 n, .int .i64 cl] W fun e W' => e = .returned (.tuple #[.int .i64 (allocA k.rl k.sl n cl).x, .int .i64 (allocA k.rl k.sl n cl).e]) ∧ Left w0 W W' s P { k with rl := (allocA k.rl k.sl n cl).rl, sl := (allocA k.rl k.sl n cl).sl } live F pl := by
  refine (hp_alloc n cl m.hp.hp).mono ?_
  rintro e W' ⟨rfl, H, K⟩
  obtain ⟨m', f⟩ := m.heap H K
  exact ⟨rfl, ⟨_, m', ⟨rfl, rfl, rfl⟩⟩, f⟩
theorem heap_free (q : Int) (m : StM w0 W s P k live F pl) : Calls Tryz.prog 73 #[ptr pl.h, .int .i64 q] W fun e W' => e = .returned (.tuple #[spn (freeA k.rl k.sl q).x, .int .i64 (freeA k.rl k.sl q).e]) ∧ Left w0 W W' s P { k with rl := (freeA k.rl k.sl q).rl, sl := (freeA k.rl k.sl q).sl } live F pl := by
  refine (hp_free q m.hp.hp).mono ?_
  rintro e W' ⟨rfl, H, K⟩
  obtain ⟨m', f⟩ := m.heap H K
  exact ⟨rfl, ⟨_, m', ⟨rfl, rfl, rfl⟩⟩, f⟩
end calls
end Go.Proofs.YtjfkmgicbakmgaaGreat.Sto
