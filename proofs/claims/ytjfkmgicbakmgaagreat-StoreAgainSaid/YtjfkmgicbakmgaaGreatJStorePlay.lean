/-
  The laws' own Size, address and do: calls on a store by numbers, as plain functions. Own work; each is proved by a walk through the landed text.
-/
import Derived.Test.YtjfkmgicbakmgaaGreatRows
import Derived.WalkKit
import Derived.ProofKit
import Derived.OpenShut
import Derived.Outline
import Derived.Deep.Light
import Derived.Deep.QuietTactic
import Derived.BigQuiet
import Derived.IntWalk
import Derived.StillTailTactics
import Derived.RegionTactic
import Derived.Deep.RegionLaw
import Derived.Deep.RegionHeld3
import Derived.Test.YtjfkmgicbakmgaaGreatJStoreGc
import Derived.Test.YtjfkmgicbakmgaaGreatJStoreList
namespace Go.Proofs.YtjfkmgicbakmgaaGreat.Sto
open Go.ChangeShapes Go.WideShapes Go.ChangeAt Go.RowKit
set_option maxRecDepth 100000
section play
variable {w0 W : World} {s P : Nat} {k : K} {live : List Lm.S} {F : Nat → Prop} {pl : Pl} {O : Int → Int → Prop}
def sizeB (b : Nat) : Int := if b < 250 then 32 * 2 ^ (b % 8) - (b : Int) / 8 % 3 else if b = 250 then 0 else if b = 251 then -1 else if b = 252 then 4097 else if b = 253 then 1 else if b = 254 then 5000 else 4096
theorem size_bounds (b : Nat) : -1 ≤ sizeB b ∧ sizeB b ≤ 5000 := by
  have : b % 8 = 0 ∨ b % 8 = 1 ∨ b % 8 = 2 ∨ b % 8 = 3 ∨ b % 8 = 4 ∨ b % 8 = 5 ∨ b % 8 = 6 ∨ b % 8 = 7 := by omega
  unfold sizeB
  split
  · rcases this with e | e | e | e | e | e | e | e <;> rw [e] <;> simp only [show (2 : Int) ^ 0 = 1 from rfl, show (2 : Int) ^ 1 = 2 from rfl, show (2 : Int) ^ 2 = 4 from rfl, show (2 : Int) ^ 3 = 8 from rfl, show (2 : Int) ^ 4 = 16 from rfl, show (2 : Int) ^ 5 = 32 from rfl, show (2 : Int) ^ 6 = 64 from rfl, show (2 : Int) ^ 7 = 128 from rfl] <;> omega
  · split
    · omega
    · split
      · omega
      · split
        · omega
        · split
          · omega
          · split <;> omega
theorem size_low (b : Nat) (h : b < 250) (w : World) : Calls Tryz.prog 42 #[.int .u8 (b : Int)] w fun e w' => e = .returned (.int .i64 (sizeB b)) ∧ Kept Old w w' := by
  have E := Lib.hid (show wrap64 (wrap64 (32 * 2 ^ (b % 8)) - (b : Int) / 8 % 3) = sizeB b from by
    have bb := size_bounds b
    have e : sizeB b = 32 * 2 ^ (b % 8) - (b : Int) / 8 % 3 := if_pos h
    rw [e] at bb
    rw [e, IntWalk.wrap64_in (32 * 2 ^ (b % 8)) (by omega), IntWalk.wrap64_in _ (by omega)])
  have h1 : ¬ (250 : Int) ≤ (b : Int) := by omega
  clear h
  go_enter Tryz.func42, Tryz.ntmps42
  go_wp2_with fail
  go_ret
  exact ⟨congrArg (fun z => Ending.returned (.int .i64 z)) E.out, Kept.refl _ _⟩
theorem size_high (b : Nat) (h : ¬ b < 250) (h2 : b ≤ 255) (w : World) : Calls Tryz.prog 42 #[.int .u8 (b : Int)] w fun e w' => e = .returned (.int .i64 (sizeB b)) ∧ Kept Old w w' := by
  have : b = 250 ∨ b = 251 ∨ b = 252 ∨ b = 253 ∨ b = 254 ∨ b = 255 := by omega
  rcases this with rfl | rfl | rfl | rfl | rfl | rfl
  all_goals
    clear h h2
    go_enter Tryz.func42, Tryz.ntmps42
    go_wp2_with fail
    go_ret
    exact ⟨rfl, (Kept.refl Old w).alloc _⟩
theorem size_any (b : Nat) (h : b ≤ 255) (w : World) : Calls Tryz.prog 42 #[.int .u8 (b : Int)] w fun e w' => e = .returned (.int .i64 (sizeB b)) ∧ Kept Old w w' := by
  by_cases c : b < 250
  · exact size_low b c w
  · exact size_high b c h w
def addrB (l : List Lm.S) (a b : Nat) : Int := if 0 < l.length ∧ a % 16 < 14 then (l.getD (b % l.length) ⟨0, 0, 0⟩).a else (b : Int) * 32 - (a : Int) % 2
theorem address_any (A : Option Addr) (n c : Nat) (l : List Lm.S) (a b : Nat) (ha : a ≤ 255) (hb : b ≤ 255) (hn : n ≤ 600) (w : World) (h : Lm.RsS w A n l) :
    Calls Tryz.prog 43 #[.slice A n c, .int .u8 (a : Int), .int .u8 (b : Int)] w fun e w' => e = .returned (.int .i64 (addrB l a b)) ∧ w = w' := by
  have hl := h.len
  by_cases c1 : 0 < n
  · by_cases c2 : a % 16 < 14
    · obtain ⟨q, hq, hqn⟩ : ∃ q : Nat, b % n = q ∧ q < n := ⟨_, rfl, Nat.mod_lt _ c1⟩
      have E := Lib.hid (show addrB l a b = (l.getD q ⟨0, 0, 0⟩).a from by unfold addrB; rw [if_pos ⟨by omega, c2⟩, hl, hq])
      obtain ⟨g, o, rfl, hg, cc⟩ := h.lies c1
      obtain ⟨x, hx⟩ : ∃ x, l[q]? = some x := ⟨_, List.getElem?_eq_getElem (by omega)⟩
      have hx0 := (cc q x hx).1
      have E2 := Lib.hid (show addrB l a b = x.a from by rw [E.out, List.getD_eq_getElem?_getD, hx]; rfl)
      have hq2 : (b : Int) % (n : Int) = (q : Int) := by omega
      have h3 : (a : Int) % 16 < 14 := by omega
      have h4 : (0 : Int) < (n : Int) := by omega
      have hqn2 : (q : Int) < (n : Int) := by omega
      clear E hx hq cc
      go_enter Tryz.func43, Tryz.ntmps43
      go_wp2_with fail
      go_ret
      exact ⟨by rw [E2.out]; rfl, rfl⟩
    · have E := Lib.hid (show addrB l a b = (b : Int) * 32 - (a : Int) % 2 from if_neg (by omega))
      have h3 : ¬ (a : Int) % 16 < 14 := by omega
      have h4 : (0 : Int) < (n : Int) := by omega
      clear c2
      go_enter Tryz.func43, Tryz.ntmps43
      go_wp2_with fail
      go_ret
      exact ⟨by rw [E.out]; rfl, rfl⟩
  · obtain rfl : n = 0 := by omega
    have E := Lib.hid (show addrB l a b = (b : Int) * 32 - (a : Int) % 2 from if_neg (by omega))
    clear c1
    go_enter Tryz.func43, Tryz.ntmps43
    go_wp2_with fail
    go_ret
    exact ⟨by rw [E.out]; rfl, rfl⟩
/-! ### One call by numbers -/
abbrev deedV (d : Lm.D) : Value := .agg #[.int .i64 d.k, .int .i64 d.n, .int .i64 d.a, .int .i64 d.c]
def doR (P : Nat) (k : K) (live : List Lm.S) (a b : Nat) : K × List Lm.S × Lm.D :=
  if a % 8 < 4 then ((allocR P k live (sizeB b)).1, (allocR P k live (sizeB b)).2.1, ⟨1, sizeB b, (allocR P k live (sizeB b)).2.2.1, (allocR P k live (sizeB b)).2.2.2⟩)
  else if a % 8 = 7 then (gcK k ((b : Int) % 2 == 0), live, ⟨0, 0, 0, 0⟩)
  else ((freeR k live (addrB live (a / 8) b)).1, (freeR k live (addrB live (a / 8) b)).2.1, ⟨2, 0, addrB live (a / 8) b, (freeR k live (addrB live (a / 8) b)).2.2⟩)
def DoPost (w0 W : World) (s P : Nat) (F : Nat → Prop) (pl : Pl) (r : K × List Lm.S × Lm.D) (e : Ending) (W' : World) : Prop := e = .returned (deedV r.2.2) ∧ Left w0 W W' s P r.1 r.2.1 F pl
/-- A block of the call's own, beside the store. -/
abbrev Wx (F : Nat → Prop) (x : Nat) (b : Nat) : Prop := F b ∨ b = x
abbrev zeroD : List Value := [.int .i64 0, .int .i64 0, .int .i64 0, .int .i64 0]
structure Bs (w0 W V : World) (s P : Nat) (k : K) (live : List Lm.S) (F : Nat → Prop) (pl pl' : Pl) (x : Nat) : Prop where
  st : StM w0 V s P k live (Wx F x) pl'
  same : Same pl pl'
  box : Blk V x 29 zeroD
  low : w0.heap.size ≤ x
  new : ¬ F x
  kept : Kept (Fr F) W V
theorem Bs.start (m : StM w0 W s P k live F pl) : Bs w0 W (W.alloc (.cells zeroD.toArray 29)) s P k live F pl (pl.re W.heap.size 98) W.heap.size := by
  have K : Kept Old W (W.alloc (.cells zeroD.toArray 29)) := (Kept.refl Old W).alloc _
  have sz : (W.alloc (.cells zeroD.toArray 29)).heap.size = W.heap.size + 1 := by simp
  exact ⟨m.more K (fun b hb => hb.elim .inl (fun e => .inr ⟨by omega, by omega⟩)), ⟨rfl, rfl, rfl⟩, Blk.new W _ _, m.ff.kept.size, fun e => by have := (m.ff.far _ e).2; omega, K.any⟩
theorem Bs.left {V V1 : World} {k1 : K} {l1 : List Lm.S} {pl1 : Pl} {x : Nat} (h : Bs w0 W V s P k live F pl pl1 x) (L : Left w0 V V1 s P k1 l1 (Wx F x) pl1) : ∃ pl2, Bs w0 W V1 s P k1 l1 F pl pl2 x := by
  obtain ⟨⟨pl2, m, e⟩, f⟩ := L
  exact ⟨pl2, m, h.same.trans e, h.box.kept f (fun z => z (.inr rfl)), h.low, h.new, h.kept.trans (f.mono fun i z y => z (.inl y))⟩
theorem Bs.old {V V1 : World} {pl1 : Pl} {x : Nat} (h : Bs w0 W V s P k live F pl pl1 x) (K : Kept Old V V1) : ∃ pl2, Bs w0 W V1 s P k live F pl pl2 x := h.left (Left.old h.st K)
/-- The deed is stored, and read again. -/
theorem Bs.fin {V : World} {pl1 : Pl} {x : Nat} (h : Bs w0 W V s P k live F pl pl1 x) (d : Lm.D) :
    ∃ Z, (((V.setCell ⟨x, 0, none⟩ (.int .i64 d.k)).setCell ⟨x, 1, none⟩ (.int .i64 d.n)).setCell ⟨x, 2, none⟩ (.int .i64 d.a)).setCell ⟨x, 3, none⟩ (.int .i64 d.c) = Z ∧ Z.cell? ⟨x, 0, none⟩ = some (.int .i64 d.k) ∧ Z.cell? ⟨x, 1, none⟩ = some (.int .i64 d.n) ∧ Z.cell? ⟨x, 2, none⟩ = some (.int .i64 d.a) ∧ Z.cell? ⟨x, 3, none⟩ = some (.int .i64 d.c) ∧ Left w0 W Z s P k live F pl := by
  have b := (((h.box.put 0 (.int .i64 d.k)).put 1 (.int .i64 d.n)).put 2 (.int .i64 d.a)).put 3 (.int .i64 d.c)
  have ks : Kept (Only x) V ((((V.setCell ⟨x, 0, none⟩ (.int .i64 d.k)).setCell ⟨x, 1, none⟩ (.int .i64 d.n)).setCell ⟨x, 2, none⟩ (.int .i64 d.a)).setCell ⟨x, 3, none⟩ (.int .i64 d.c)) := ((((only_setCell _ _ _ _).trans (only_setCell _ _ _ _)).trans (only_setCell _ _ _ _)).trans (only_setCell _ _ _ _))
  have m := h.st.only (G := F) ks (fun b e _ => by have e : b = x := e; rw [e]; exact ⟨.inr rfl, h.low⟩) (fun b e => .inl (.inl e))
  exact ⟨_, rfl, b.cell 0, b.cell 1, b.cell 2, b.cell 3, ⟨⟨_, m, ⟨h.same.a, h.same.h, h.same.pq⟩⟩, h.kept.trans (ks.mono fun i e z => by have e : i = x := e; rw [e] at z; exact h.new z)⟩⟩
set_option maxHeartbeats 2000000 in
theorem do_gc (a b : Nat) (ha : a % 8 = 7) (hb : b ≤ 255) (ha2 : a ≤ 255) (m : StM w0 W s P k live F pl) (v : Sv P k live) : Calls Tryz.prog 14 #[ptr s, .int .u8 (a : Int), .int .u8 (b : Int)] W (DoPost w0 W s P F pl (doR P k live a b)) := by
  have E := Lib.hid (show doR P k live a b = (gcK k ((b : Int) % 2 == 0), live, ⟨0, 0, 0, 0⟩) from by unfold doR; rw [if_neg (by omega), if_pos ha])
  have h7 : (a : Int) % 8 = 7 := by omega
  have B := Lib.hid (Bs.start m)
  have GC := Lib.hid (sgc_any ((b : Int) % 2 == 0) B.out.st v.inv)
  clear m ha
  go_enter Tryz.func14, Tryz.ntmps14
  go_wp2_with fail
  refine GC.out.mono ?_
  rintro e V ⟨rfl, L⟩
  obtain ⟨pl2, b2⟩ := B.out.left L
  have B2 := Lib.hid b2
  have c0 : V.cell? ⟨W.heap.size, 0, none⟩ = some (.int .i64 0) := b2.box.cell 0
  have c1 : V.cell? ⟨W.heap.size, 1, none⟩ = some (.int .i64 0) := b2.box.cell 1
  have c2 : V.cell? ⟨W.heap.size, 2, none⟩ = some (.int .i64 0) := b2.box.cell 2
  have c3 : V.cell? ⟨W.heap.size, 3, none⟩ = some (.int .i64 0) := b2.box.cell 3
  have f0 := b2.box.frozen 0
  have f1 := b2.box.frozen 1
  have f2 := b2.box.frozen 2
  have f3 := b2.box.frozen 3
  clear b2 L B GC
  go_wp2_with fail
  obtain ⟨Z, hZ, r0, r1, r2, r3, L⟩ := B2.out.fin ⟨0, 0, 0, 0⟩
  first | rw [hZ] | (simp only at hZ; rw [hZ])
  exact bodyPost_ret (v := deedV ⟨0, 0, 0, 0⟩) (by simp [results, Tryz.results14, go_sem, r0, r1, r2, r3]) rfl ⟨by rw [E.out], by rw [E.out]; exact L⟩
set_option maxHeartbeats 4000000 in
theorem do_alloc (a b : Nat) (ha : a % 8 < 4) (hb : b ≤ 255) (ha2 : a ≤ 255) (m : StM w0 W s P k live F pl) (v : Sv P k live) : Calls Tryz.prog 14 #[ptr s, .int .u8 (a : Int), .int .u8 (b : Int)] W (DoPost w0 W s P F pl (doR P k live a b)) := by
  obtain ⟨rk, rl, ra, rc, hr⟩ : ∃ rk rl ra rc, allocR P k live (sizeB b) = (rk, rl, ra, rc) := ⟨_, _, _, _, rfl⟩
  have E := Lib.hid (show doR P k live a b = (rk, rl, ⟨1, sizeB b, ra, rc⟩) from by unfold doR; rw [if_pos ha, hr])
  have B := Lib.hid (Bs.start m)
  have AL := Lib.hid (fun (G : Nat → Prop) (X : World) (pl3 : Pl) (m3 : StM w0 X s P k live G pl3) => salloc_any (sizeB b) m3 v)
  rw [hr] at AL
  have SZ := Lib.hid (size_any b hb)
  have h7 : (a : Int) % 8 = 0 ∨ (a : Int) % 8 = 1 ∨ (a : Int) % 8 = 2 ∨ (a : Int) % 8 = 3 := by omega
  clear m ha hr
  rcases h7 with h7 | h7 | h7 | h7
  all_goals
    go_enter Tryz.func14, Tryz.ntmps14
    go_wp2_with fail
    refine (SZ.out _).mono ?_
    rintro e V0 ⟨rfl, k0⟩
    obtain ⟨pl0, b0⟩ := B.out.old k0
    have B0 := Lib.hid b0
    clear b0 k0
    go_wp2_with fail
    refine (AL.out _ _ _ B0.out.st).mono ?_
    rintro e V1 ⟨rfl, L⟩
    obtain ⟨pl1, b1⟩ := B0.out.left L
    have B1 := Lib.hid b1
    clear b1 L B0
    go_wp2_with fail
    refine (SZ.out _).mono ?_
    rintro e V ⟨rfl, k2⟩
    obtain ⟨pl2, b2⟩ := B1.out.old k2
    have B2 := Lib.hid b2
    have c0 : V.cell? ⟨W.heap.size, 0, none⟩ = some (.int .i64 0) := b2.box.cell 0
    have c1 : V.cell? ⟨W.heap.size, 1, none⟩ = some (.int .i64 0) := b2.box.cell 1
    have c2 : V.cell? ⟨W.heap.size, 2, none⟩ = some (.int .i64 0) := b2.box.cell 2
    have c3 : V.cell? ⟨W.heap.size, 3, none⟩ = some (.int .i64 0) := b2.box.cell 3
    have f0 := b2.box.frozen 0
    have f1 := b2.box.frozen 1
    have f2 := b2.box.frozen 2
    have f3 := b2.box.frozen 3
    clear b2 k2 B1 B
    go_wp2_with fail
    obtain ⟨Z, hZ, r0, r1, r2, r3, L⟩ := B2.out.fin ⟨1, sizeB b, ra, rc⟩
    first | rw [hZ] | (simp only at hZ; rw [hZ])
    exact bodyPost_ret (v := deedV ⟨1, sizeB b, ra, rc⟩) (by simp [results, Tryz.results14, go_sem, r0, r1, r2, r3]) rfl ⟨by rw [E.out], by rw [E.out]; exact L⟩
set_option maxHeartbeats 4000000 in
theorem do_free (a b : Nat) (ha : 4 ≤ a % 8) (h7 : a % 8 ≠ 7) (hb : b ≤ 255) (ha2 : a ≤ 255) (m : StM w0 W s P k live F pl) (v : Sv P k live) : Calls Tryz.prog 14 #[ptr s, .int .u8 (a : Int), .int .u8 (b : Int)] W (DoPost w0 W s P F pl (doR P k live a b)) := by
  obtain ⟨t, ht⟩ : ∃ t, addrB live (a / 8) b = t := ⟨_, rfl⟩
  obtain ⟨rk, rl, rc, hr⟩ : ∃ rk rl rc, freeR k live t = (rk, rl, rc) := ⟨_, _, _, rfl⟩
  have E := Lib.hid (show doR P k live a b = (rk, rl, ⟨2, 0, t, rc⟩) from by unfold doR; rw [if_neg (by omega), if_neg h7, ht, hr])
  have B := Lib.hid (Bs.start m)
  have HL := Lib.hid v.val.len
  have AF := Lib.hid (fun (G : Nat → Prop) (X : World) (pl3 : Pl) (m3 : StM w0 X s P k live G pl3) => sfree_any t m3 v)
  have AD := Lib.hid (fun (A : Option Addr) (n c : Nat) (X : World) (h : Lm.RsS X A n live) (hn : n ≤ 600) => address_any A n c live (a / 8) b (by omega) hb hn X h)
  rw [hr] at AF
  rw [ht] at AD
  have LI := Lib.hid (fun (G : Nat → Prop) (X : World) (pl3 : Pl) (m3 : StM w0 X s P k live G pl3) => slive_any m3 (by have := HL.out; omega))
  have h9 : (a : Int) % 8 = 4 ∨ (a : Int) % 8 = 5 ∨ (a : Int) % 8 = 6 := by omega
  have dv : ((a / 8 : Nat) : Int) = (a : Int) / 8 := by omega
  rw [dv] at AD
  clear m ha hr h7 ht dv
  rcases h9 with h7 | h7 | h7
  all_goals
    go_enter Tryz.func14, Tryz.ntmps14
    go_wp2_with fail
    refine (LI.out _ _ _ B.out.st).mono ?_
    rintro e V0 ⟨v0, rfl, A, n, c, rfl, R, _, _, k0⟩
    obtain ⟨pl0, b0⟩ := B.out.old k0
    have B0 := Lib.hid b0
    have AD1 := Lib.hid (AD.out A n c V0 R (by have := R.len; have := HL.out; omega))
    clear b0 k0 R
    go_wp2_with fail
    refine AD1.out.mono ?_
    rintro e V0 ⟨rfl, rfl⟩
    go_wp2_with fail
    refine (AF.out _ _ _ B0.out.st).mono ?_
    rintro e V ⟨rfl, L⟩
    obtain ⟨pl2, b2⟩ := B0.out.left L
    have B2 := Lib.hid b2
    have c0 : V.cell? ⟨W.heap.size, 0, none⟩ = some (.int .i64 0) := b2.box.cell 0
    have c1 : V.cell? ⟨W.heap.size, 1, none⟩ = some (.int .i64 0) := b2.box.cell 1
    have c2 : V.cell? ⟨W.heap.size, 2, none⟩ = some (.int .i64 0) := b2.box.cell 2
    have c3 : V.cell? ⟨W.heap.size, 3, none⟩ = some (.int .i64 0) := b2.box.cell 3
    have f0 := b2.box.frozen 0
    have f1 := b2.box.frozen 1
    have f2 := b2.box.frozen 2
    have f3 := b2.box.frozen 3
    clear b2 L B0 B AD1
    go_wp2_with fail
    obtain ⟨Z, hZ, r0, r1, r2, r3, L⟩ := B2.out.fin ⟨2, 0, t, rc⟩
    first | rw [hZ] | (simp only at hZ; rw [hZ])
    exact bodyPost_ret (v := deedV ⟨2, 0, t, rc⟩) (by simp [results, Tryz.results14, go_sem, r0, r1, r2, r3]) rfl ⟨by rw [E.out], by rw [E.out]; exact L⟩
/-- One call, whatever the numbers. -/
theorem do_any (a b : Nat) (ha : a ≤ 255) (hb : b ≤ 255) (m : StM w0 W s P k live F pl) (v : Sv P k live) : Calls Tryz.prog 14 #[ptr s, .int .u8 (a : Int), .int .u8 (b : Int)] W (DoPost w0 W s P F pl (doR P k live a b)) := by
  by_cases c : a % 8 < 4
  · exact do_alloc a b c hb ha m v
  · by_cases d : a % 8 = 7
    · exact do_gc a b d hb ha m v
    · exact do_free a b (by omega) d hb ha m v
/-- What a call leaves is a store; a deed is one that the model accepts, to the same live stacks. -/
theorem Sv.doR (v : Sv P k live) (a b : Nat) : Sv P (doR P k live a b).1 (doR P k live a b).2.1 ∧ ((Sto.doR P k live a b).2.2.k = 0 → (Sto.doR P k live a b).2.1 = live) ∧ ((Sto.doR P k live a b).2.2.k ≠ 0 → Lm.accB ((P : Int) * 64) live (Sto.doR P k live a b).2.2 = true ∧ Lm.accL ((P : Int) * 64) live (Sto.doR P k live a b).2.2 = (Sto.doR P k live a b).2.1) := by
  unfold Sto.doR
  split
  · refine ⟨v.allocR _, fun h => by simp at h, fun _ => ?_⟩
    unfold Sto.allocR
    by_cases c : classB (sizeB b) = true
    · rw [if_pos c]
      by_cases d : (tookR P k (classI (sizeB b))).2.2 = 0
      · rw [if_pos d]
        have r := (v.alloc c d).1
        exact ⟨by unfold Lm.accB; simp [r], by unfold Lm.accL; simp [r]⟩
      · rw [if_neg d]
        exact ⟨by unfold Lm.accB; simp [c], by unfold Lm.accL; simp⟩
    · rw [if_neg c]
      exact ⟨by unfold Lm.accB; simp [c], by unfold Lm.accL; simp⟩
  · split
    · exact ⟨v.gc _, fun _ => rfl, fun h => by simp at h⟩
    · refine ⟨v.freeR _, fun h => by simp at h, fun _ => ?_⟩
      unfold Sto.freeR
      by_cases c : Lm.hasB live (addrB live (a / 8) b) = true
      · rw [if_pos c]
        exact ⟨by unfold Lm.accB; simp [c], by unfold Lm.accL; simp [c]⟩
      · rw [if_neg c]
        exact ⟨by unfold Lm.accB; simp [c], by unfold Lm.accL; simp⟩
end play
end Go.Proofs.YtjfkmgicbakmgaaGreat.Sto
