/-
  Deeds by numbers (the law's Deeds). Own work; proved by a walk through the landed text.
-/
import Derived.Test.YtmajgfpfbieakaaRows
import Derived.Test.YtmajgfpfbieakaaShellInts
import Derived.Test.YtmajgfpfbieakaaDeedsMath
import Derived.Test.YtmajgfpfbieakaaModelRaccs
import Derived.WalkKit
import Derived.ProofKit
import Derived.OpenShut
import Derived.Outline
import Derived.Deep.Light
import Derived.Deep.QuietTactic
import Derived.BigQuiet
import Derived.IntWalk
import Derived.StillTailTactics
import Derived.RegionTactic
import Derived.Deep.RegionLaw
import Derived.Deep.RegionHeld3
import Derived.Deep.CutRange
namespace Go.Proofs.Ytmajgfpfbieakaa.Lm
open Go.ChangeShapes Go.WideShapes Go.ChangeAt Go.RowKit
set_option maxRecDepth 100000

/-- A model in the call's first block, and a list of deeds that the call owns, apart from it. -/
structure Dw (w V : World) (W : Int) (m : List S) (A : Option Addr) (n c : Nat) (v : Value) (ds : List D) : Prop where
  lv : Lv w V w.heap.size W m A n c
  ow : OwD V (w.heap.size + 1) v ds.length ds
  far : 0 < n → ∀ ad, A = some ad → v.ownBlock ≠ some ad.block
theorem Dw.old {w V V' : World} {W : Int} {m : List S} {A : Option Addr} {n c : Nat} {v : Value} {ds : List D} (h : Dw w V W m A n c v ds) (k : Kept Old V V') : Dw w V' W m A n c v ds := ⟨h.lv.old k, h.ow.old k, h.far⟩
theorem only_own {V V' : World} {B s : Nat} {v : Value} {n : Nat} {ds : List D} (h : OwD V B v n ds) (k : Kept (Only s) V V') (hs : s < B) : OwD V' B v n ds :=
  h.kept k fun g e x => by have := (h.own g e.symm).1; have x : g = s := x; omega
/-- Behind calls and stores: the model is put anew, or stays. -/
theorem Dw.turn {w V Z : World} {W : Int} {m m2 : List S} {A A2 : Option Addr} {n c n2 c2 : Nat} {v : Value} {ds : List D} (h : Dw w V W m A n c v ds) (k : Kept (Only w.heap.size) V Z) (bx : Bm Z w.heap.size W (.slice A2 n2 c2)) (r : RsS Z A2 n2 m2) (h1 : n2 ≤ c2) (h2 : A2 = none → c2 = 0) (hn : ∀ ad, A2 = some ad → V.heap.size ≤ ad.block) : Dw w Z W m2 A2 n2 c2 v ds :=
  ⟨⟨bx, r, h1, h2, h.lv.kept.join k (fun i hi e => by have e : i = w.heap.size := e; omega), Nat.le_refl _⟩, only_own h.ow k (by omega), fun _ ad e q => by
    have := (h.ow.own ad.block q.symm).2
    have := hn ad e
    omega⟩
/-- The list grows. -/
theorem Dw.app {w Z Z2 : World} {W : Int} {m : List S} {A : Option Addr} {n c : Nat} {v v2 : Value} {ds ds2 : List D} (h : Dw w Z W m A n c v ds) (o : OwD Z2 (w.heap.size + 1) v2 ds2.length ds2) (k : Kept (fun i => some i = v.ownBlock) Z Z2) (a : v2.ownBlock = v.ownBlock ∨ v2.ownBlock = some Z.heap.size) : Dw w Z2 W m A n c v2 ds2 := by
  have ne : ∀ i, some i = v.ownBlock → w.heap.size + 1 ≤ i := fun i e => (h.ow.own i e).1
  refine ⟨⟨Blk.kept h.lv.box k (fun e => by have := ne _ e; omega), ⟨h.lv.rs.len, h.lv.rs.fit, fun h0 => ?_⟩, h.lv.cap, h.lv.nil, h.lv.kept.join k (fun i hi e => by have := ne i e; omega), Nat.le_refl _⟩, o, fun h0 ad e => ?_⟩
  · obtain ⟨g, o', e, hg, cc⟩ := h.lv.rs.lies h0
    exact ⟨g, o', e, Nat.lt_of_lt_of_le hg k.size, fun i x hx => (cc i x hx).kept k hg (fun q => h.far h0 _ e q.symm)⟩
  · rcases a with a | a
    · rw [a]; exact h.far h0 ad e
    · rw [a]
      intro q
      obtain ⟨g, o', e2, hg, _⟩ := h.lv.rs.lies h0
      rw [e] at e2
      injection e2 with e2
      subst e2
      injection q with q
      have q : Z.heap.size = g := q
      omega
theorem sl_cell {w : World} {A : Option Addr} {len : Nat} {z : Nat → Int} (h : Sl w A 1 len fun i _ => .int .u8 (z i)) (hl : 0 < len) : ∃ g o, A = some ⟨g, o, none⟩ ∧ g < w.heap.size ∧ ∀ i, i < len → w.cell? ⟨g, o + i, none⟩ = some (.int .u8 (z i)) := by
  obtain ⟨g, o, e, hg, c⟩ := h.lies hl
  refine ⟨g, o, e, hg, fun i hi => ?_⟩
  have := c i 0 hi (by omega)
  rwa [show i * 1 + 0 = i by omega] at this
theorem step_even {W : Int} {m : List S} {b0 b1 b2 b3 : Int} (h : ¬ b0 % 2 = 1) : stepD W m b0 b1 b2 b3 = ⟨1, sizeD b1 b3, b2 % 64 * 32, lastC b0 b3 (if roomB W m (sizeD b1 b3) (b2 % 64 * 32) then 0 else if classB (sizeD b1 b3) then 3 else 1)⟩ ∧ stepM W m b0 b1 b2 b3 = if roomB W m (sizeD b1 b3) (b2 % 64 * 32) then insL m (newS (sizeD b1 b3) (b2 % 64 * 32)) else m := by
  have e : addrD m b0 b2 = b2 % 64 * 32 := by unfold addrD; rw [if_neg (by omega)]
  unfold stepD stepM nextM codeD
  rw [e, if_neg h, if_neg h, if_neg h]
  exact ⟨rfl, rfl⟩
theorem step_odd {W : Int} {m : List S} {b0 b1 b2 b3 a : Int} (h : b0 % 2 = 1) (e : addrD m b0 b2 = a) : stepD W m b0 b1 b2 b3 = ⟨2, sizeD b1 b3, a, lastC b0 b3 (freeC m a)⟩ ∧ stepM W m b0 b1 b2 b3 = if hasB m a then delL m a else m := by
  unfold stepD stepM nextM codeD
  rw [e, if_pos h, if_pos h, if_pos h]
  exact ⟨rfl, rfl⟩
theorem last_ge {b0 b3 c : Int} (h : 250 ≤ b0) : lastC b0 b3 c = b3 % 4 := if_pos h
theorem last_lt {b0 b3 c : Int} (h : ¬ 250 ≤ b0) : lastC b0 b3 c = c := if_neg h
theorem Dw.room {w V V2 : World} {W : Int} {m m2 : List S} {A A2 : Option Addr} {n c n2 c2 : Nat} {v : Value} {ds : List D} (h : Dw w V W m A n c v ds) (K2 : Kept Old V V2) (T2 : RsS V2 A2 n2 m2) (h1 : n2 ≤ c2) (h2 : A2 = none → c2 = 0) (hn : ∀ ad, A2 = some ad → V.heap.size + 1 ≤ ad.block) :
    Dw w ((V2.setCell ⟨w.heap.size, 0, none⟩ (.int .i64 W)).setCell ⟨w.heap.size, 1, none⟩ (.slice A2 n2 c2)) W m2 A2 n2 c2 v ds := by
  have kk := put2_kept V2 w.heap.size (.int .i64 W) (.slice A2 n2 c2)
  have lb := Blk.lt h.lv.box
  exact h.turn (K2.any.trans kk) ((h.lv.box.old K2).put2 _ _) (T2.kept kk fun ad e q => by have := hn ad e; have q : ad.block = w.heap.size := q; omega) h1 h2 (fun ad e => by have := hn ad e; omega)
/-- A store into the deed's own block. -/
theorem Dw.code {w Y : World} {W : Int} {m : List S} {A : Option Addr} {n c : Nat} {v : Value} {ds : List D} (h : Dw w Y W m A n c v ds) (s i : Nat) (u : Value) (h1 : w.heap.size < s) (h2 : ∀ ad, A = some ad → 0 < n → ad.block ≠ s) (h3 : v.ownBlock ≠ some s) : Dw w (Y.setCell ⟨s, i, none⟩ u) W m A n c v ds := by
  have kk := only_setCell Y s i u
  refine ⟨⟨Blk.kept h.lv.box kk (fun e => by have e : w.heap.size = s := e; omega), ⟨h.lv.rs.len, h.lv.rs.fit, fun h0 => ?_⟩, h.lv.cap, h.lv.nil, h.lv.kept.join kk (fun i hi e => by have e : i = s := e; omega), Nat.le_refl _⟩, h.ow.kept kk (fun g e q => by have q : g = s := q; rw [q] at e; exact h3 e), h.far⟩
  obtain ⟨g, o', e, hg, cc⟩ := h.lv.rs.lies h0
  exact ⟨g, o', e, Nat.lt_of_lt_of_le hg kk.size, fun i x hx => (cc i x hx).kept kk hg (h2 _ e h0)⟩
theorem far1 {w : World} {b i : Nat} {u : Value} {p : Addr} {v : Value} (h : w.cell? p = some v) (hp : p.block ≠ b) : (w.setCell ⟨b, i, none⟩ u).cell? p = some v := ((only_setCell w b i u).cell (block_lt_of_cell h) hp).trans h
theorem fitd {k n a c : Int} (h1 : -9223372036854775808 ≤ k ∧ k ≤ 9223372036854775807) (h2 : -9223372036854775808 ≤ n ∧ n ≤ 9223372036854775807) (h3 : -9223372036854775808 ≤ a ∧ a ≤ 9223372036854775807) (h4 : -9223372036854775808 ≤ c ∧ c ≤ 9223372036854775807) : FitD ⟨k, n, a, c⟩ := ⟨h1, h2, h3, h4⟩
theorem Dw.lt {w V : World} {W : Int} {m : List S} {A : Option Addr} {n c : Nat} {v : Value} {ds : List D} (h : Dw w V W m A n c v ds) : (∀ ad, A = some ad → 0 < n → ad.block ≠ V.heap.size) ∧ v.ownBlock ≠ some V.heap.size :=
  ⟨fun ad e h0 => by
    obtain ⟨g, o', e2, hg, _⟩ := h.lv.rs.lies h0
    rw [e] at e2
    injection e2 with e2
    subst e2
    show g ≠ _
    omega, fun q => by have := (h.ow.own _ q.symm).2; omega⟩
def DeedsPost (L : List D) (w : World) (e : Ending) (w' : World) : Prop := ∃ v, e = .returned v ∧ MadeD L w v w' ∧ OwD w' (w.heap.size + 1) v L.length L
set_option maxHeartbeats 12000000 in
theorem deeds_any (W : Int) (A0 : Option Addr) (len cap : Nat) (z : Nat → Int) (w : World) (hl : len ≤ 9223372036854775000) (h0 : 0 ≤ W) (h1 : W ≤ 16384) (hz : ∀ i, i < len → 0 ≤ z i ∧ z i ≤ 255) (h : Sl w A0 1 len fun i _ => .int .u8 (z i)) :
    Calls Try.prog 13 #[.int .i64 W, .slice A0 len cap] w (DeedsPost (deedsL W z len) w) := by
  have HS := Lib.hid h
  have HZ := Lib.hid hz
  obtain ⟨L, hL⟩ : ∃ L, deedsL W z len = L := ⟨_, rfl⟩
  rw [hL]
  have F0 := Lib.hid (show deedsF W z len len 0 [] [] = L from hL)
  have KW := (Kept.refl Old w).alloc (.cells #[.int .i64 W, .slice none 0 0] 24)
  have D0 := Lib.hid (show Dw w (w.alloc (.cells #[.int .i64 W, .slice none 0 0] 24)) W [] none 0 0 (.slice none 0 0) [] from ⟨⟨Bm.new w W _, RsS.nil _ _, Nat.le_refl _, fun _ => rfl, KW, Nat.le_refl _⟩, OwD.nil _ _, fun h0 => absurd h0 (Nat.lt_irrefl 0)⟩)
  have V0 := Lib.hid (Valid.nil h0 h1)
  clear h hz hL
  go_enter Try.func13, Try.ntmps13
  go_wp2_with fail
  go_loopw [6, 7] (fun ll ii wr => ∃ (k f : Nat) (m : List S) (ds : List D) (A : Option Addr) (n c : Nat) (A' : Option Addr) (c' : Nat), k ≤ len + 4 ∧ len ≤ k + f ∧ ii = .int .i64 (k : Int) ∧ ll = .slice A' ds.length c' ∧ ds.length ≤ 100 ∧ Hid (deedsF W z len f k m ds = L) ∧ Hid (Valid W m) ∧ Hid (Dw w wr W m A n c (.slice A' ds.length c') ds)) (fun _ ii _ => len + 8 - (intOf ii).toNat)
  case atStart => exact ⟨0, len, [], [], none, 0, 0, none, 0, by omega, by omega, rfl, rfl, by simp, F0, V0, D0⟩
  case round =>
    clear F0 V0 D0 KW
    obtain ⟨k, f, m, ds, A, n, c, A', c', hk, hf, rfl, rfl, hd, FU, VM, DW⟩ := hrel
    rename World => V
    have m0 := DW.out.lv.box.c0
    have m1 := DW.out.lv.box.c1
    have mf0 := DW.out.lv.box.f0
    have mf1 := DW.out.lv.box.f1
    have ls := Blk.lt DW.out.lv.box
    have u3 : IntKind.i64.wrap ((k : Int) + 3) = (k : Int) + 3 := IntWalk.i64_in _ (by omega)
    by_cases t1 : k + 3 < len
    · by_cases t2 : ds.length < 100
      · obtain ⟨f', rfl, hf', FE⟩ := deedsF_go (W := W) (z := z) (m := m) t1 t2 hf
        rw [FE] at FU
        clear FE
        obtain ⟨g, o, rfl, hgw, cw⟩ := sl_cell HS.out (by omega)
        have hg : g < V.heap.size := Nat.lt_of_lt_of_le hgw DW.out.lv.kept.size
        have cc : ∀ i, i < len → V.cell? ⟨g, o + i, none⟩ = some (.int .u8 (z i)) := fun i hi => cell_on DW.out.lv.kept (cw i hi)
        have gw1 : g ≠ w.heap.size := by omega
        have gw2 : w.heap.size ≠ g := by omega
        have cw0 := cw k (by omega)
        have cw3 := cw (k + 3) (by omega)
        clear cw
        have c0 := cc k (by omega)
        have c1 := cc (k + 1) (by omega)
        have c2 := cc (k + 2) (by omega)
        have c3 := cc (k + 3) (by omega)
        obtain ⟨p0, p1⟩ := HZ.out k (by omega)
        obtain ⟨q0, q1⟩ := HZ.out (k + 1) (by omega)
        obtain ⟨r0, r1⟩ := HZ.out (k + 2) (by omega)
        obtain ⟨s0, s1⟩ := HZ.out (k + 3) (by omega)
        generalize z k = b0 at *
        generalize z (k + 1) = b1 at *
        generalize z (k + 2) = b2 at *
        generalize z (k + 3) = b3 at *
        clear cc
        have k0 : (k : Int) < (len : Int) := by omega
        have k1 : (k : Int) + 1 < (len : Int) := by omega
        have k2 : (k : Int) + 2 < (len : Int) := by omega
        have k3 : (k : Int) + 3 < (len : Int) := by omega
        have z1 : (0 : Int) ≤ (k : Int) + 1 := by omega
        have z2 : (0 : Int) ≤ (k : Int) + 2 := by omega
        have z3 : (0 : Int) ≤ (k : Int) + 3 := by omega
        have n1 : ((k : Int) + 1).toNat = k + 1 := by omega
        have n2 : ((k : Int) + 2).toNat = k + 2 := by omega
        have n3 : ((k : Int) + 3).toNat = k + 3 := by omega
        have u1 : IntKind.i64.wrap ((k : Int) + 1) = (k : Int) + 1 := IntWalk.i64_in _ (by omega)
        have u2 : IntKind.i64.wrap ((k : Int) + 2) = (k : Int) + 2 := IntWalk.i64_in _ (by omega)
        have u4 : IntKind.i64.wrap ((k : Int) + 4) = (k : Int) + 4 := IntWalk.i64_in _ (by omega)
        have e1 : IntKind.i64.wrap b1 = b1 := IntWalk.i64_in _ (by omega)
        have e2 : IntKind.i64.wrap b2 = b2 := IntWalk.i64_in _ (by omega)
        have e3 : IntKind.i64.wrap b3 = b3 := IntWalk.i64_in _ (by omega)
        have SZ := pow_lim b1 b3 q0 q1
        obtain ⟨R3, hR3, hR3'⟩ : ∃ R : Int, b3.tmod 5 = R ∧ b3 % 5 = R := ⟨_, Int.tmod_eq_emod_of_nonneg s0, rfl⟩
        obtain ⟨R2, hR2, hR2'⟩ : ∃ R : Int, b2.tmod 64 = R ∧ b2 % 64 = R := ⟨_, Int.tmod_eq_emod_of_nonneg r0, rfl⟩
        have hR2' := Lib.hid hR2'
        obtain ⟨R4, hR4, hR4'⟩ : ∃ R : Int, b3.tmod 4 = R ∧ b3 % 4 = R := ⟨_, Int.tmod_eq_emod_of_nonneg s0, rfl⟩
        have hR4' := Lib.hid hR4'
        have r4a : 0 ≤ R4 ∧ R4 < 4 := by have := hR4'.out; omega
        have r2a : 0 ≤ R2 := by have := hR2'.out; omega
        have r2b : R2 < 64 := by have := hR2'.out; omega
        have e6 : 0 ≤ R3 := by omega
        have e7 : R3 < 5 := by have := hR3'; omega
        obtain ⟨E, hE⟩ : ∃ E : Nat, R3.toNat = E := ⟨_, rfl⟩
        have hM : min E 64 = E := by omega
        obtain ⟨P, hP⟩ : ∃ P : Int, (2 : Int) ^ E = P := ⟨_, rfl⟩
        obtain ⟨Q, hQ⟩ : ∃ Q : Int, b1 * P = Q := ⟨_, rfl⟩
        have SQ := Lib.hid (show sizeD b1 b3 = Q from by unfold sizeD; rw [hR3', hE, hP, hQ])
        clear hR3'
        rw [SQ.out] at SZ
        have e4 : IntKind.i64.wrap Q = Q := IntWalk.i64_in _ (by omega)
        have e5 : IntKind.i64.wrap (R2 * 32) = R2 * 32 := IntWalk.i64_in _ (by omega)
        have k100 : ((ds.length : Nat) : Int) < 100 := by omega
        go_wp2_with fail
        have KA := Lib.hid ((Kept.refl Old V).alloc (.cells #[.int .i64 0, .int .i64 0, .int .i64 0, .int .i64 0] 56))
        have g9 : g ≠ V.heap.size := by omega
        go_region_held3 (fun w' => w'.cell? ⟨g, o + (k + 1), none⟩ = some (.int .u8 b1) ∧ w'.cell? ⟨g, o + (k + 2), none⟩ = some (.int .u8 b2) ∧ w'.cell? ⟨g, o + (k + 3), none⟩ = some (.int .u8 b3))
          (first
            | (exact ⟨‹_›, ‹_›, ‹_›⟩)
            | (exact ⟨cell_on KA.out c1, cell_on KA.out c2, cell_on KA.out c3⟩)
            | go_keep)
          (fail)
        have KU := Lib.hid ((Kept.refl Old V).alloc (.cells #[.int .i64 1, .int .i64 Q, .int .i64 (R2 * 32), .int .i64 0] 56)).drew
        have BU := Lib.hid (show BxD _ V.heap.size ⟨1, Q, R2 * 32, 0⟩ from (BxD.new V ⟨1, Q, R2 * 32, 0⟩).drew)
        generalize hU : (V.alloc (.cells #[.int .i64 1, .int .i64 Q, .int .i64 (R2 * 32), .int .i64 0] 56)).drew = U at *
        have hUs : U.heap.size = V.heap.size + 1 := by rw [← hU]; simp [World.drew]
        clear hU KA g9 hE hM hP hQ e4 e5 e6 e7 e1 z1 u1 k1 m0 m1
        have DU := Lib.hid (DW.out.old KU.out)
        have m0 := DU.out.lv.box.c0
        have m1 := DU.out.lv.box.c1
        have mf0 := DU.out.lv.box.f0
        have mf1 := DU.out.lv.box.f1
        have x0 := BU.out.c0
        have x1 := BU.out.c1
        have x2 := BU.out.c2
        have x3 := BU.out.c3
        have y0 := Blk.frozen BU.out 0
        have y2 := Blk.frozen BU.out 2
        have y3 := Blk.frozen BU.out 3
        have c0 := cell_on KU.out c0
        have c2 := cell_on KU.out c2
        have ls := Blk.lt DU.out.lv.box
        have l8 := Blk.lt BU.out
        have DL := Lib.hid DW.out.lt
        have lvb : w.heap.size < V.heap.size := Blk.lt DW.out.lv.box
        have nvb : V.heap.size ≠ w.heap.size := by omega
        have nvb2 : w.heap.size ≠ V.heap.size := by omega
        have gu : g < U.heap.size := by have := KU.out.size; omega
        have gv1 : g ≠ V.heap.size := by omega
        have gv4 : V.heap.size ≠ g := by omega
        clear c1 c3
        go_upto_if 57 with fail
        go_cut [9, 10, 11, 12, 13, 14] from 17 to 137 (fun s9 s10 s11 s12 s13 s14 wx => ∃ (kd ad cd : Int) (m2 : List S) (A2 : Option Addr) (n2 c2 : Nat), Hid (0 ≤ kd ∧ kd ≤ 2 ∧ 0 ≤ ad ∧ ad ≤ 16384 ∧ 0 ≤ cd ∧ cd ≤ 3) ∧ Hid (deedsF W z len f' (k + 4) m2 (ds ++ [⟨kd, Q, ad, lastC b0 b3 cd⟩]) = L) ∧ Hid (Valid W m2) ∧ Hid (Dw w wx W m2 A2 n2 c2 (.slice A' ds.length c') ds) ∧ Hid (BxD wx V.heap.size ⟨kd, Q, ad, cd⟩) ∧ Hid (∀ x, A2 = some x → 0 < n2 → x.block ≠ V.heap.size))
        case first =>
          (try clear HS); (try clear HZ); (try clear cw0); (try clear cw3); (try clear u3); (try clear u4); (try clear n1); (try clear n3); (try clear z3); (try clear e3); (try clear k0); (try clear k3); (try clear q0); (try clear q1); (try clear s0); (try clear s1); (try clear hl); (try clear hf); (try clear t1); (try clear t2); (try clear hg); (try clear hgw); (try clear hR3); (try clear SZ); (try clear k100)
          by_cases odd : b0 % 2 = 1
          · have hodd : (b0.tmod 2 == 1) = true := by rw [Int.tmod_eq_emod_of_nonneg p0]; exact beq_iff_eq.2 odd
            have hs8 : V.heap.size < V.heap.size → Old V.heap.size := fun h => absurd h (Nat.lt_irrefl _)
            have FU := FU.out
            have hml := DW.out.lv.rs.len
            by_cases h8 : b0 % 8 = 1
            · have t8 : (b0.tmod 8 != 1) = false := by rw [Int.tmod_eq_emod_of_nonneg p0]; simp [h8]
              have ha : addrD m b0 b2 = R2 * 32 := by unfold addrD; rw [if_neg (by omega), hR2'.out]
              by_cases hn0 : n = 0
              · subst hn0
                obtain rfl : m = [] := List.eq_nil_of_length_eq_zero hml
                have r : hasB [] (R2 * 32) = false := rfl
                obtain ⟨sD, sM⟩ := step_odd (W := W) (m := []) (b1 := b1) (b3 := b3) odd ha
                rw [SQ.out] at sD
                rw [if_neg (by rw [r]; simp)] at sM
                rw [show freeC [] (R2 * 32) = 2 from by unfold freeC; rw [if_neg (by rw [r]; simp)]] at sD
                have RF := Lib.hid (fun X (q : Kept Old V X) => rfree_any W _ 0 c [] (R2 * 32) X (DW.out.lv.rs.old q) VM.out DW.out.lv.cap)
                rw [freeW_no r, show freeC [] (R2 * 32) = 2 from by unfold freeC; rw [if_neg (by rw [r]; simp)], show freeL [] (R2 * 32) = [] from by unfold freeL; rw [if_neg (by rw [r]; simp)]] at RF
                clear r
                rw [sD, sM] at FU
                have FU := Lib.hid FU
                clear sD sM
                go_wp2_with (go_at_call 27; refine (RF.out _ (by first | exact (KU.out.setCell hs8 (.int .i64 2)).drew | exact KU.out.setCell hs8 (.int .i64 2))).mono ?_; rintro e V2 ⟨v2, rfl, A2, n2, c2, rfl, T2, hc2, q2, k2⟩; have K2 := Lib.hid (show Kept Old V V2 from Kept.trans (by first | exact (KU.out.setCell hs8 (.int .i64 2)).drew | exact KU.out.setCell hs8 (.int .i64 2)) k2); have B8 := Lib.hid (show BxD V2 V.heap.size ⟨2, Q, R2 * 32, 0⟩ from (by first | exact Blk.kept (Blk.put BU.out 0 (.int .i64 2)) k2 (fun e => e) | exact Blk.kept (Blk.drew (Blk.put BU.out 0 (.int .i64 2))) k2 (fun e => e))); have D2 := Lib.hid (DW.out.old K2.out); have m0 := D2.out.lv.box.c0; have m1 := D2.out.lv.box.c1; have mf0 := D2.out.lv.box.f0; have mf1 := D2.out.lv.box.f1; have x3 := B8.out.c3; have y3 := Blk.frozen B8.out 3; have l8 := Blk.lt B8.out; have ls2 := Blk.lt D2.out.lv.box; have nw := Lib.hid (show ∀ ad, A2 = some ad → V.heap.size + 1 ≤ ad.block from fun ad e => (by have h1 := q2.2 ad e; have h2 := KU.out.size; simp at h1; omega)); have T2 := Lib.hid T2; have q2 := Lib.hid q2.1; clear k2)
                go_meet
                exact ⟨2, R2 * 32, 2, [], A, 0, c, Lib.hid ⟨by omega, by omega, by omega, by omega, by omega, by omega⟩, FU, VM, Lib.hid ((D2.out.code V.heap.size 3 (.int .i64 2) (by omega) DL.out.1 DL.out.2).old ((Kept.refl Old _).alloc _)), Lib.hid (show BxD _ V.heap.size ⟨2, Q, R2 * 32, 2⟩ from Blk.alloc (Blk.put B8.out 3 (.int .i64 2)) _), Lib.hid (DL.out.1)⟩
              · have hn1 : (0 : Int) < (n : Int) := by omega
                cases r : hasB m (R2 * 32) with
                | true =>
                  obtain ⟨sD, sM⟩ := step_odd (W := W) (m := m) (b1 := b1) (b3 := b3) odd ha
                  rw [SQ.out] at sD
                  rw [if_pos r] at sM
                  rw [show freeC m (R2 * 32) = 0 from by unfold freeC; rw [if_pos r]] at sD
                  have RF := Lib.hid (fun X (q : Kept Old V X) => rfree_any W _ n c m (R2 * 32) X (DW.out.lv.rs.old q) VM.out DW.out.lv.cap)
                  rw [freeW_yes r, show freeC m (R2 * 32) = 0 from by unfold freeC; rw [if_pos r], show freeL m (R2 * 32) = delL m (R2 * 32) from by unfold freeL; rw [if_pos r]] at RF
                  have VN := Lib.hid (VM.out.del (R2 * 32))
                  clear r
                  rw [sD, sM] at FU
                  have FU := Lib.hid FU
                  clear sD sM
                  go_wp2_with (go_at_call 27; refine (RF.out _ (by first | exact (KU.out.setCell hs8 (.int .i64 2)).drew | exact KU.out.setCell hs8 (.int .i64 2))).mono ?_; rintro e V2 ⟨v2, rfl, A2, n2, c2, rfl, T2, hc2, q2, k2⟩; have K2 := Lib.hid (show Kept Old V V2 from Kept.trans (by first | exact (KU.out.setCell hs8 (.int .i64 2)).drew | exact KU.out.setCell hs8 (.int .i64 2)) k2); have B8 := Lib.hid (show BxD V2 V.heap.size ⟨2, Q, R2 * 32, 0⟩ from (by first | exact Blk.kept (Blk.put BU.out 0 (.int .i64 2)) k2 (fun e => e) | exact Blk.kept (Blk.drew (Blk.put BU.out 0 (.int .i64 2))) k2 (fun e => e))); have D2 := Lib.hid (DW.out.old K2.out); have m0 := D2.out.lv.box.c0; have m1 := D2.out.lv.box.c1; have mf0 := D2.out.lv.box.f0; have mf1 := D2.out.lv.box.f1; have x3 := B8.out.c3; have y3 := Blk.frozen B8.out 3; have l8 := Blk.lt B8.out; have ls2 := Blk.lt D2.out.lv.box; have nw := Lib.hid (show ∀ ad, A2 = some ad → V.heap.size + 1 ≤ ad.block from fun ad e => (by have h1 := q2.2 ad e; have h2 := KU.out.size; simp at h1; omega)); have T2 := Lib.hid T2; have q2 := Lib.hid q2.1; clear k2)
                  go_meet
                  exact ⟨2, R2 * 32, 0, _, A2, n2, c2, Lib.hid ⟨by omega, by omega, by omega, by omega, by omega, by omega⟩, FU, VN, Lib.hid ((DW.out.room (K2.out.setCell hs8 (.int .i64 0)) (T2.out.kept (only_setCell V2 V.heap.size 3 (.int .i64 0)) (fun ad e q => by have := nw.out ad e; have q : ad.block = V.heap.size := q; omega)) hc2 q2.out nw.out).old ((Kept.refl Old _).alloc _)), Lib.hid (show BxD _ V.heap.size ⟨2, Q, R2 * 32, 0⟩ from Blk.alloc (Blk.kept (Blk.put B8.out 3 (.int .i64 0)) (put2_kept _ _ _ _) (fun e => nvb e)) _), Lib.hid (fun ad e _ => by have := nw.out ad e; omega)⟩
                | false =>
                  obtain ⟨sD, sM⟩ := step_odd (W := W) (m := m) (b1 := b1) (b3 := b3) odd ha
                  rw [SQ.out] at sD
                  rw [if_neg (by rw [r]; simp)] at sM
                  rw [show freeC m (R2 * 32) = 2 from by unfold freeC; rw [if_neg (by rw [r]; simp)]] at sD
                  have RF := Lib.hid (fun X (q : Kept Old V X) => rfree_any W _ n c m (R2 * 32) X (DW.out.lv.rs.old q) VM.out DW.out.lv.cap)
                  rw [freeW_no r, show freeC m (R2 * 32) = 2 from by unfold freeC; rw [if_neg (by rw [r]; simp)], show freeL m (R2 * 32) = [] from by unfold freeL; rw [if_neg (by rw [r]; simp)]] at RF
                  clear r
                  rw [sD, sM] at FU
                  have FU := Lib.hid FU
                  clear sD sM
                  go_wp2_with (go_at_call 27; refine (RF.out _ (by first | exact (KU.out.setCell hs8 (.int .i64 2)).drew | exact KU.out.setCell hs8 (.int .i64 2))).mono ?_; rintro e V2 ⟨v2, rfl, A2, n2, c2, rfl, T2, hc2, q2, k2⟩; have K2 := Lib.hid (show Kept Old V V2 from Kept.trans (by first | exact (KU.out.setCell hs8 (.int .i64 2)).drew | exact KU.out.setCell hs8 (.int .i64 2)) k2); have B8 := Lib.hid (show BxD V2 V.heap.size ⟨2, Q, R2 * 32, 0⟩ from (by first | exact Blk.kept (Blk.put BU.out 0 (.int .i64 2)) k2 (fun e => e) | exact Blk.kept (Blk.drew (Blk.put BU.out 0 (.int .i64 2))) k2 (fun e => e))); have D2 := Lib.hid (DW.out.old K2.out); have m0 := D2.out.lv.box.c0; have m1 := D2.out.lv.box.c1; have mf0 := D2.out.lv.box.f0; have mf1 := D2.out.lv.box.f1; have x3 := B8.out.c3; have y3 := Blk.frozen B8.out 3; have l8 := Blk.lt B8.out; have ls2 := Blk.lt D2.out.lv.box; have nw := Lib.hid (show ∀ ad, A2 = some ad → V.heap.size + 1 ≤ ad.block from fun ad e => (by have h1 := q2.2 ad e; have h2 := KU.out.size; simp at h1; omega)); have T2 := Lib.hid T2; have q2 := Lib.hid q2.1; clear k2)
                  go_meet
                  exact ⟨2, R2 * 32, 2, m, A, n, c, Lib.hid ⟨by omega, by omega, by omega, by omega, by omega, by omega⟩, FU, VM, Lib.hid ((D2.out.code V.heap.size 3 (.int .i64 2) (by omega) DL.out.1 DL.out.2).old ((Kept.refl Old _).alloc _)), Lib.hid (show BxD _ V.heap.size ⟨2, Q, R2 * 32, 2⟩ from Blk.alloc (Blk.put B8.out 3 (.int .i64 2)) _), Lib.hid (DL.out.1)⟩
            · have t8 : (b0.tmod 8 != 1) = true := by rw [Int.tmod_eq_emod_of_nonneg p0]; simp [h8]
              by_cases hn0 : n = 0
              · subst hn0
                obtain rfl : m = [] := List.eq_nil_of_length_eq_zero hml
                have ha : addrD [] b0 b2 = R2 * 32 := by unfold addrD; rw [if_neg (by simp), hR2'.out]
                have r : hasB [] (R2 * 32) = false := rfl
                obtain ⟨sD, sM⟩ := step_odd (W := W) (m := []) (b1 := b1) (b3 := b3) odd ha
                rw [SQ.out] at sD
                rw [if_neg (by rw [r]; simp)] at sM
                rw [show freeC [] (R2 * 32) = 2 from by unfold freeC; rw [if_neg (by rw [r]; simp)]] at sD
                have RF := Lib.hid (fun X (q : Kept Old V X) => rfree_any W _ 0 c [] (R2 * 32) X (DW.out.lv.rs.old q) VM.out DW.out.lv.cap)
                rw [freeW_no r, show freeC [] (R2 * 32) = 2 from by unfold freeC; rw [if_neg (by rw [r]; simp)], show freeL [] (R2 * 32) = [] from by unfold freeL; rw [if_neg (by rw [r]; simp)]] at RF
                clear r
                rw [sD, sM] at FU
                have FU := Lib.hid FU
                clear sD sM
                go_wp2_with (go_at_call 27; refine (RF.out _ (by first | exact (KU.out.setCell hs8 (.int .i64 2)).drew | exact KU.out.setCell hs8 (.int .i64 2))).mono ?_; rintro e V2 ⟨v2, rfl, A2, n2, c2, rfl, T2, hc2, q2, k2⟩; have K2 := Lib.hid (show Kept Old V V2 from Kept.trans (by first | exact (KU.out.setCell hs8 (.int .i64 2)).drew | exact KU.out.setCell hs8 (.int .i64 2)) k2); have B8 := Lib.hid (show BxD V2 V.heap.size ⟨2, Q, R2 * 32, 0⟩ from (by first | exact Blk.kept (Blk.put BU.out 0 (.int .i64 2)) k2 (fun e => e) | exact Blk.kept (Blk.drew (Blk.put BU.out 0 (.int .i64 2))) k2 (fun e => e))); have D2 := Lib.hid (DW.out.old K2.out); have m0 := D2.out.lv.box.c0; have m1 := D2.out.lv.box.c1; have mf0 := D2.out.lv.box.f0; have mf1 := D2.out.lv.box.f1; have x3 := B8.out.c3; have y3 := Blk.frozen B8.out 3; have l8 := Blk.lt B8.out; have ls2 := Blk.lt D2.out.lv.box; have nw := Lib.hid (show ∀ ad, A2 = some ad → V.heap.size + 1 ≤ ad.block from fun ad e => (by have h1 := q2.2 ad e; have h2 := KU.out.size; simp at h1; omega)); have T2 := Lib.hid T2; have q2 := Lib.hid q2.1; clear k2)
                go_meet
                exact ⟨2, R2 * 32, 2, [], A, 0, c, Lib.hid ⟨by omega, by omega, by omega, by omega, by omega, by omega⟩, FU, VM, Lib.hid ((D2.out.code V.heap.size 3 (.int .i64 2) (by omega) DL.out.1 DL.out.2).old ((Kept.refl Old _).alloc _)), Lib.hid (show BxD _ V.heap.size ⟨2, Q, R2 * 32, 2⟩ from Blk.alloc (Blk.put B8.out 3 (.int .i64 2)) _), Lib.hid (DL.out.1)⟩
              · have hn1 : (0 : Int) < (n : Int) := by omega
                obtain ⟨id, hid, hid2, hidn⟩ : ∃ id : Nat, b2.tmod (n : Int) = (id : Int) ∧ b2 % (n : Int) = (id : Int) ∧ id < n := by
                  have q0 := Int.emod_nonneg b2 (show (n : Int) ≠ 0 by omega)
                  have q1 := Int.emod_lt_of_pos b2 hn1
                  refine ⟨(b2 % (n : Int)).toNat, ?_, by omega, by omega⟩
                  rw [Int.tmod_eq_emod_of_nonneg r0]
                  omega
                obtain ⟨gm, om, xm, rfl, hgm, hxm, fxm, ca, _, _⟩ := DU.out.lv.rs.get (k := id) hidn
                have idn : (id : Int) < (n : Int) := by omega
                have n0 : (n : Int) ≠ 0 := by omega
                have ha : addrD m b0 b2 = xm.a := by
                  unfold addrD
                  rw [if_pos ⟨odd, by omega, h8⟩, hml, hid2, Int.toNat_natCast, List.getD_eq_getElem?_getD, hxm]
                  rfl
                have r := (VM.out.found hxm rfl).1
                have lx := VM.out.at_ hxm
                have ax0 := lx.a0
                have ax1 : xm.a ≤ 16384 := by have := lx.fit; have := lx.w0; omega
                have gm0 : gm < V.heap.size := by
                  obtain ⟨g', o', e, hg', _⟩ := DW.out.lv.rs.lies (by omega)
                  injection e with e
                  injection e with e
                  omega
                have gm1 : gm ≠ V.heap.size := by omega
                clear lx hid2 hxm
                generalize xm.a = a at *
                obtain ⟨sD, sM⟩ := step_odd (W := W) (m := m) (b1 := b1) (b3 := b3) odd ha
                rw [SQ.out] at sD
                rw [if_pos r] at sM
                rw [show freeC m (a) = 0 from by unfold freeC; rw [if_pos r]] at sD
                have RF := Lib.hid (fun X (q : Kept Old V X) => rfree_any W _ n c m (a) X (DW.out.lv.rs.old q) VM.out DW.out.lv.cap)
                rw [freeW_yes r, show freeC m (a) = 0 from by unfold freeC; rw [if_pos r], show freeL m (a) = delL m (a) from by unfold freeL; rw [if_pos r]] at RF
                have VN := Lib.hid (VM.out.del (a))
                clear r
                rw [sD, sM] at FU
                have FU := Lib.hid FU
                clear sD sM
                go_wp2_with fail
                go_region_held3 (fun w' => w'.cell? ⟨w.heap.size, 1, none⟩ = some (.slice (some ⟨gm, om, none⟩) n c) ∧ w'.cell? ⟨g, o + (k + 2), none⟩ = some (.int .u8 b2) ∧ w'.cell? ⟨gm, om + id * 3, none⟩ = some (.int .i64 a))
                  (first
                    | (exact ⟨‹_›, ‹_›, ‹_›⟩)
                    | (exact ⟨far1 m1 nvb2, far1 c2 gv1, far1 ca gm1⟩)
                    | (exact ⟨far1 (far1 m1 nvb2) nvb2, far1 (far1 c2 gv1) gv1, far1 (far1 ca gm1) gm1⟩)
                    | go_keep)
                  (fail)
                go_wp2_with (go_at_call 27; refine (RF.out _ (by first | exact ((KU.out.setCell hs8 (.int .i64 2)).setCell hs8 (.int .i64 a)).drew | exact (KU.out.setCell hs8 (.int .i64 2)).setCell hs8 (.int .i64 a))).mono ?_; rintro e V2 ⟨v2, rfl, A2, n2, c2, rfl, T2, hc2, q2, k2⟩; have K2 := Lib.hid (show Kept Old V V2 from Kept.trans (by first | exact ((KU.out.setCell hs8 (.int .i64 2)).setCell hs8 (.int .i64 a)).drew | exact (KU.out.setCell hs8 (.int .i64 2)).setCell hs8 (.int .i64 a)) k2); have B8 := Lib.hid (show BxD V2 V.heap.size ⟨2, Q, a, 0⟩ from (by first | exact Blk.kept (Blk.put (Blk.put BU.out 0 (.int .i64 2)) 2 (.int .i64 a)) k2 (fun e => e) | exact Blk.kept (Blk.drew (Blk.put (Blk.put BU.out 0 (.int .i64 2)) 2 (.int .i64 a))) k2 (fun e => e))); have D2 := Lib.hid (DW.out.old K2.out); have m0 := D2.out.lv.box.c0; have m1 := D2.out.lv.box.c1; have mf0 := D2.out.lv.box.f0; have mf1 := D2.out.lv.box.f1; have x3 := B8.out.c3; have y3 := Blk.frozen B8.out 3; have l8 := Blk.lt B8.out; have ls2 := Blk.lt D2.out.lv.box; have nw := Lib.hid (show ∀ ad, A2 = some ad → V.heap.size + 1 ≤ ad.block from fun ad e => (by have h1 := q2.2 ad e; have h2 := KU.out.size; simp at h1; omega)); have T2 := Lib.hid T2; have q2 := Lib.hid q2.1; clear k2)
                go_meet
                exact ⟨2, a, 0, _, A2, n2, c2, Lib.hid ⟨by omega, by omega, by omega, by omega, by omega, by omega⟩, FU, VN, Lib.hid ((DW.out.room (K2.out.setCell hs8 (.int .i64 0)) (T2.out.kept (only_setCell V2 V.heap.size 3 (.int .i64 0)) (fun ad e q => by have := nw.out ad e; have q : ad.block = V.heap.size := q; omega)) hc2 q2.out nw.out).old ((Kept.refl Old _).alloc _)), Lib.hid (show BxD _ V.heap.size ⟨2, Q, a, 0⟩ from Blk.alloc (Blk.kept (Blk.put B8.out 3 (.int .i64 0)) (put2_kept _ _ _ _) (fun e => nvb e)) _), Lib.hid (fun ad e _ => by have := nw.out ad e; omega)⟩
          · have hodd : (b0.tmod 2 == 1) = false := by rw [Int.tmod_eq_emod_of_nonneg p0]; exact beq_eq_false_iff_ne.2 odd
            obtain ⟨sD, sM⟩ := step_even (W := W) (m := m) (b1 := b1) (b2 := b2) (b3 := b3) odd
            rw [SQ.out, hR2'.out] at sD sM
            have RA := Lib.hid (ralloc_any W A n c m Q (R2 * 32) U DU.out.lv.rs VM.out DU.out.lv.cap DU.out.lv.nil ⟨by omega, by omega⟩)
            have CQ := Lib.hid (fun X => rclass_any Q X)
            have FU := FU.out
            cases r : roomB W m Q (R2 * 32) with
            | true =>
              rw [r, if_pos rfl] at sD
              rw [r, if_pos rfl] at sM
              rw [(room_yes r).2.2.1, (room_yes r).2.2.2, r] at RA
              have VN := Lib.hid (VM.out.ins r)
              clear r
              rw [sD, sM] at FU
              have FU := Lib.hid FU
              clear sD sM
              go_wp2_with (first
                | (go_at_call 26; refine RA.out.mono ?_; rintro e V2 ⟨v2, rfl, A2, n2, c2, rfl, T2, hc2, q2, k2⟩; have K2 := Lib.hid (KU.out.trans k2); have B8 := Lib.hid (BU.out.old k2); have D2 := Lib.hid (DU.out.old k2); have m0 := D2.out.lv.box.c0; have m1 := D2.out.lv.box.c1; have mf0 := D2.out.lv.box.f0; have mf1 := D2.out.lv.box.f1; have x1 := B8.out.c1; have x3 := B8.out.c3; have y3 := Blk.frozen B8.out 3; have l8 := Blk.lt B8.out; have ls2 := Blk.lt D2.out.lv.box; have T2 := Lib.hid T2; have q2 := Lib.hid q2; clear k2)
                | (go_at_call 21; refine (CQ.out _).mono ?_; rintro e w' ⟨rfl, rfl⟩))
              go_meet
              exact ⟨1, R2 * 32, 0, _, A2, n2, c2, Lib.hid ⟨by omega, by omega, by omega, by omega, by omega, by omega⟩, FU, VN, Lib.hid ((DW.out.room K2.out T2.out hc2 q2.out.1 (fun ad e => by have := q2.out.2 ad e; omega)).old ((Kept.refl Old _).alloc _)), Lib.hid (BxD.alloc (Blk.kept B8.out (put2_kept _ _ _ _) (fun e => nvb e)) _), Lib.hid (fun ad e _ => by have := q2.out.2 ad e; omega)⟩
            | false =>
              rw [r, if_neg (by simp)] at sD
              rw [r, if_neg (by simp)] at sM
              rw [(room_no r).2.2.1, (room_no r).2.2.2, r] at RA
              clear r
              cases q : classB Q with
              | true =>
                rw [q, if_pos rfl] at sD
                rw [q] at CQ
                clear q
                rw [sD, sM] at FU
                have FU := Lib.hid FU
                clear sD sM
                go_wp2_with (first
                  | (go_at_call 26; refine RA.out.mono ?_; rintro e V2 ⟨v2, rfl, A2, n2, c2, rfl, T2, hc2, q2, k2⟩; have K2 := Lib.hid (KU.out.trans k2); have B8 := Lib.hid (BU.out.old k2); have D2 := Lib.hid (DU.out.old k2); have m0 := D2.out.lv.box.c0; have m1 := D2.out.lv.box.c1; have mf0 := D2.out.lv.box.f0; have mf1 := D2.out.lv.box.f1; have x1 := B8.out.c1; have x3 := B8.out.c3; have y3 := Blk.frozen B8.out 3; have l8 := Blk.lt B8.out; have ls2 := Blk.lt D2.out.lv.box; have T2 := Lib.hid T2; have q2 := Lib.hid q2; clear k2)
                  | (go_at_call 21; refine (CQ.out _).mono ?_; rintro e w' ⟨rfl, rfl⟩))
                go_meet
                exact ⟨1, R2 * 32, 3, m, A, n, c, Lib.hid ⟨by omega, by omega, by omega, by omega, by omega, by omega⟩, FU, VM, Lib.hid ((D2.out.code V.heap.size 3 (.int .i64 3) (by omega) DL.out.1 DL.out.2).old ((Kept.refl Old _).alloc _)), Lib.hid (show BxD _ V.heap.size ⟨1, Q, R2 * 32, 3⟩ from Blk.alloc (Blk.put B8.out 3 (.int .i64 3)) _), Lib.hid (DL.out.1)⟩
              | false =>
                rw [q, if_neg (by simp)] at sD
                rw [q] at CQ
                clear q
                rw [sD, sM] at FU
                have FU := Lib.hid FU
                clear sD sM
                go_wp2_with (first
                  | (go_at_call 26; refine RA.out.mono ?_; rintro e V2 ⟨v2, rfl, A2, n2, c2, rfl, T2, hc2, q2, k2⟩; have K2 := Lib.hid (KU.out.trans k2); have B8 := Lib.hid (BU.out.old k2); have D2 := Lib.hid (DU.out.old k2); have m0 := D2.out.lv.box.c0; have m1 := D2.out.lv.box.c1; have mf0 := D2.out.lv.box.f0; have mf1 := D2.out.lv.box.f1; have x1 := B8.out.c1; have x3 := B8.out.c3; have y3 := Blk.frozen B8.out 3; have l8 := Blk.lt B8.out; have ls2 := Blk.lt D2.out.lv.box; have T2 := Lib.hid T2; have q2 := Lib.hid q2; clear k2)
                  | (go_at_call 21; refine (CQ.out _).mono ?_; rintro e w' ⟨rfl, rfl⟩))
                go_meet
                exact ⟨1, R2 * 32, 1, m, A, n, c, Lib.hid ⟨by omega, by omega, by omega, by omega, by omega, by omega⟩, FU, VM, Lib.hid ((D2.out.code V.heap.size 3 (.int .i64 1) (by omega) DL.out.1 DL.out.2).old ((Kept.refl Old _).alloc _)), Lib.hid (show BxD _ V.heap.size ⟨1, Q, R2 * 32, 1⟩ from Blk.alloc (Blk.put B8.out 3 (.int .i64 1)) _), Lib.hid (DL.out.1)⟩
        case rest =>
          obtain ⟨kd, ad, cd, m2, A2, n2, c2, NB, F5, V5, D5, B5, FA⟩ := hcut
          obtain ⟨nb0, nb1, nb2, nb3, nb4, nb5⟩ := NB.out
          rename World => X
          have x0 := B5.out.c0
          have x1 := B5.out.c1
          have x2 := B5.out.c2
          have x3 := B5.out.c3
          have y3 := Blk.frozen B5.out 3
          have l8 := Blk.lt B5.out
          have lx := Blk.lt D5.out.lv.box
          have c0 := cell_on D5.out.lv.kept cw0
          have c3 := cell_on D5.out.lv.kept cw3
          have gx : g < X.heap.size := by have := D5.out.lv.kept.size; omega
          have F5 := F5.out
          clear NB DU BU KU FU
          by_cases ge : 250 ≤ b0
          · rw [last_ge ge, hR4'.out] at F5
            have F5 := Lib.hid F5
            have FD := Lib.hid (show FitD ⟨kd, Q, ad, R4⟩ from fitd (by omega) (by omega) (by omega) (by omega))
            have DY := Lib.hid ((D5.out.code V.heap.size 3 (.int .i64 R4) (by omega) FA.out DL.out.2))
            go_wp2_with (at_builtin; refine appD_wp rfl (.tmp 134) (.tmp 136) rfl rfl (w.heap.size + 1) (.slice A' ds.length c') ds.length ds rfl (DY.out.ow.alloc _) _ 1 1 [⟨kd, Q, ad, R4⟩] rfl (RsD.one _ ⟨kd, Q, ad, R4⟩ FD.out _ (by first | rfl | simp)) (by intro h; cases h) (by omega) (by omega) (by simp; omega) (ds.length + 1) rfl (ds ++ [⟨kd, Q, ad, R4⟩]) rfl ?_; intro v9 w9 O9 k9 a9; obtain ⟨A9, c9, rfl, _⟩ := O9.out.rs)
            have e9 : (ds ++ [(⟨kd, Q, ad, R4⟩ : D)]).length = ds.length + 1 := by simp
            refine ⟨⟨k + 4, f', m2, ds ++ [⟨kd, Q, ad, R4⟩], A2, n2, c2, A9, c9, by omega, by omega, by go_num, by rw [e9], by rw [e9]; omega, F5, V5, Lib.hid ?_⟩, ?_⟩
            · rw [e9]
              exact Dw.app (ds2 := ds ++ [⟨kd, Q, ad, R4⟩]) (DY.out.old ((Kept.refl Old _).alloc _)) (by rw [e9]; exact O9.out) k9.out a9.out
            · simp [intOf]; omega
          · rw [last_lt ge] at F5
            have F5 := Lib.hid F5
            have FD := Lib.hid (show FitD ⟨kd, Q, ad, cd⟩ from fitd (by omega) (by omega) (by omega) (by omega))
            have DY := Lib.hid (D5.out)
            go_wp2_with (at_builtin; refine appD_wp rfl (.tmp 134) (.tmp 136) rfl rfl (w.heap.size + 1) (.slice A' ds.length c') ds.length ds rfl (DY.out.ow.alloc _) _ 1 1 [⟨kd, Q, ad, cd⟩] rfl (RsD.one _ ⟨kd, Q, ad, cd⟩ FD.out _ (by first | rfl | simp)) (by intro h; cases h) (by omega) (by omega) (by simp; omega) (ds.length + 1) rfl (ds ++ [⟨kd, Q, ad, cd⟩]) rfl ?_; intro v9 w9 O9 k9 a9; obtain ⟨A9, c9, rfl, _⟩ := O9.out.rs)
            have e9 : (ds ++ [(⟨kd, Q, ad, cd⟩ : D)]).length = ds.length + 1 := by simp
            refine ⟨⟨k + 4, f', m2, ds ++ [⟨kd, Q, ad, cd⟩], A2, n2, c2, A9, c9, by omega, by omega, by go_num, by rw [e9], by rw [e9]; omega, F5, V5, Lib.hid ?_⟩, ?_⟩
            · rw [e9]
              exact Dw.app (ds2 := ds ++ [⟨kd, Q, ad, cd⟩]) (DY.out.old ((Kept.refl Old _).alloc _)) (by rw [e9]; exact O9.out) k9.out a9.out
            · simp [intOf]; omega
      · have k100 : ¬ ((ds.length : Nat) : Int) < 100 := by omega
        have k3 : (k : Int) + 3 < (len : Int) := by omega
        have E := Lib.hid (show ds = L from by rw [← FU.out]; exact (deedsF_end (by omega)).symm)
        go_wp2_with fail
        go_ret
        have o := DW.out.ow
        rw [E.out] at o
        exact ⟨_, rfl, by rw [E.out]; exact madeD_end o DW.out.lv.kept, by rw [E.out]; exact o⟩
    · have k3 : ¬ (k : Int) + 3 < (len : Int) := by omega
      have E := Lib.hid (show ds = L from by rw [← FU.out]; exact (deedsF_end (by omega)).symm)
      go_wp2_with fail
      go_ret
      have o := DW.out.ow
      rw [E.out] at o
      exact ⟨_, rfl, by rw [E.out]; exact madeD_end o DW.out.lv.kept, by rw [E.out]; exact o⟩
end Go.Proofs.Ytmajgfpfbieakaa.Lm
