/-
  Models by numbers (the law's Made). Own work; proved by a walk through the landed text.
-/
import Derived.Test.YtmajgfpfbieakaaRows
import Derived.Test.YtmajgfpfbieakaaShellInts
import Derived.Test.YtmajgfpfbieakaaMadeMath
import Derived.Test.YtmajgfpfbieakaaModelRalloc
import Derived.WalkKit
import Derived.ProofKit
import Derived.OpenShut
import Derived.Outline
import Derived.Deep.Light
import Derived.Deep.QuietTactic
import Derived.BigQuiet
import Derived.IntWalk
import Derived.StillTailTactics
import Derived.RegionTactic
import Derived.Deep.RegionLaw
import Derived.Deep.RegionHeld3
import Derived.Deep.CutRange
namespace Go.Proofs.Ytmajgfpfbieakaa.Lm
open Go.ChangeShapes Go.WideShapes Go.ChangeAt Go.RowKit
set_option maxRecDepth 100000

/-- A model in the call's second block, on a list of its own; the result's block is as it was laid. -/
structure Mw (w V : World) (m : List S) (v : Value) : Prop where
  res : Bm V w.heap.size 0 (.slice none 0 0)
  box : Bm V (w.heap.size + 1) 16384 v
  ow : OwS V (w.heap.size + 2) v m.length m
  kept : Kept Old w V
theorem Mw.old {w V V' : World} {m : List S} {v : Value} (h : Mw w V m v) (k : Kept Old V V') : Mw w V' m v := ⟨h.res.old k, h.box.old k, h.ow.old k, h.kept.trans k⟩
theorem Mw.turn {w V Z : World} {m m2 : List S} {v v2 : Value} (h : Mw w V m v) (k : Kept (Only (w.heap.size + 1)) V Z) (bx : Bm Z (w.heap.size + 1) 16384 v2) (o : OwS Z (w.heap.size + 2) v2 m2.length m2) : Mw w Z m2 v2 :=
  ⟨Blk.kept h.res k (fun e => by have e : w.heap.size = w.heap.size + 1 := e; omega), bx, o, h.kept.join k (fun i hi e => by have e : i = w.heap.size + 1 := e; omega)⟩
theorem Mw.step1 {w V V2 : World} {m : List S} {v : Value} (h : Mw w V m v) (k : Kept Old V V2) (o : Obj) : Mw w (V2.alloc o) m v := h.old (k.alloc o)
theorem Mw.step2 {w V V2 : World} {m : List S} {v : Value} (h : Mw w V m v) (k : Kept Old V V2) (x y : Value) : Mw w ((V2.setCell ⟨V.heap.size, 0, none⟩ x).setCell ⟨V.heap.size, 1, none⟩ y) m v := by
  have h2 := h.old k
  have kk := put2_kept V2 V.heap.size x y
  have l0 := Blk.lt h.res
  have l1 := Blk.lt h.box
  exact ⟨Blk.kept h2.res kk (fun e => by have e : w.heap.size = V.heap.size := e; omega), Blk.kept h2.box kk (fun e => by have e : w.heap.size + 1 = V.heap.size := e; omega), h2.ow.kept kk (fun g e q => by have := (h.ow.own g e.symm).2; have q : g = V.heap.size := q; omega), h2.kept.join kk (fun i hi e => by have e : i = V.heap.size := e; omega)⟩
/-- The list that was made is put into the box. -/
theorem Mw.put {w Y : World} {m m2 : List S} {v : Value} {A : Option Addr} {c : Nat} (h : Mw w Y m v) (o : OwS Y (w.heap.size + 2) (.slice A m2.length c) m2.length m2) :
    Mw w ((Y.setCell ⟨w.heap.size + 1, 0, none⟩ (.int .i64 16384)).setCell ⟨w.heap.size + 1, 1, none⟩ (.slice A m2.length c)) m2 (.slice A m2.length c) :=
  h.turn (put2_kept _ _ _ _) (h.box.put2 _ _) (o.kept (put2_kept _ _ _ _) fun g e q => by have := (o.own g e.symm).1; have q : g = w.heap.size + 1 := q; omega)
theorem own_len {w : World} {B n k : Nat} {A : Option Addr} {c : Nat} {l : List S} (h : OwS w B (.slice A n c) k l) : n = l.length ∧ k = l.length := by
  obtain ⟨A', c', e, _⟩ := h.rs
  injection e with _ e2 _
  have := h.len
  omega
/-- An owner is written. -/
theorem Mw.owner {w V : World} {m : List S} {g n c : Nat} (h : Mw w V m (.slice (some ⟨g, 0, none⟩) n c)) {k : Nat} {x : S} (hx : m[k]? = some x) (y : Int) (hy : in64S y) :
    Mw w (V.setCell ⟨g, k * 3 + 2, none⟩ (.int .i64 y)) (m.set k ⟨x.a, x.n, y⟩) (.slice (some ⟨g, 0, none⟩) n c) := by
  obtain ⟨e, _⟩ := own_len h.ow
  have hn : 0 < n := by have := (List.getElem?_eq_some_iff.1 hx).1; omega
  have kk := only_setCell V g (k * 3 + 2) (.int .i64 y)
  have hg := (h.ow.own g rfl).1
  refine ⟨Blk.kept h.res kk (fun e => by have e : w.heap.size = g := e; omega), Blk.kept h.box kk (fun e => by have e : w.heap.size + 1 = g := e; omega), ?_, h.kept.join kk (fun i hi e => by have e : i = g := e; omega)⟩
  have o := h.ow
  rw [← e] at o
  have := o.putc hx y hy
  rwa [show (m.set k ⟨x.a, x.n, y⟩).length = n from by rw [List.length_set]; omega]
/-- The end: the model is the result. -/
theorem Mw.fin {w V : World} {m : List S} {n c : Nat} {A : Option Addr} (h : Mw w V m (.slice A n c)) :
    ∃ Z, (V.setCell ⟨w.heap.size, 0, none⟩ (.int .i64 16384)).setCell ⟨w.heap.size, 1, none⟩ (.slice A n c) = Z ∧ Z.cell? ⟨w.heap.size, 0, none⟩ = some (.int .i64 16384) ∧ Z.cell? ⟨w.heap.size, 1, none⟩ = some (.slice A n c) ∧ MadeS m w (.slice A n c) Z := by
  have kk := put2_kept V w.heap.size (.int .i64 16384) (.slice A n c)
  have b := h.res.put2 (.int .i64 16384) (.slice A n c)
  refine ⟨_, rfl, b.cell 0, b.cell 1, madeS_end (h.ow.kept kk (fun g e q => by have := (h.ow.own g e.symm).1; have q : g = w.heap.size := q; omega)) (h.kept.join kk (fun i hi e => by have e : i = w.heap.size := e; omega))⟩
theorem far3 {w : World} {b i : Nat} {u : Value} {p : Addr} {v : Value} (h : w.cell? p = some v) (hp : p.block ≠ b) : (w.setCell ⟨b, i, none⟩ u).cell? p = some v := ((only_setCell w b i u).cell (block_lt_of_cell h) hp).trans h
theorem sl_cell3 {w : World} {A : Option Addr} {len : Nat} {z : Nat → Int} (h : Sl w A 1 len fun i _ => .int .u8 (z i)) (hl : 0 < len) : ∃ g o, A = some ⟨g, o, none⟩ ∧ g < w.heap.size ∧ ∀ i, i < len → w.cell? ⟨g, o + i, none⟩ = some (.int .u8 (z i)) := by
  obtain ⟨g, o, e, hg, c⟩ := h.lies hl
  refine ⟨g, o, e, hg, fun i hi => ?_⟩
  have := c i 0 hi (by omega)
  rwa [show i * 1 + 0 = i by omega] at this
theorem makeS_yes {m : List S} {n a : Int} (h : roomB 16384 m n a = true) : makeS m n a = insL m (newS n a) := by unfold makeS; rw [if_pos h]
theorem makeS_no {m : List S} {n a : Int} (h : roomB 16384 m n a = false) : makeS m n a = m := by unfold makeS; rw [if_neg (by rw [h]; simp)]
def MadePost (L : List S) (w : World) (e : Ending) (w' : World) : Prop := ∃ v, e = .returned (.agg #[.int .i64 16384, v]) ∧ MadeS L w v w'
set_option maxHeartbeats 6000000 in
theorem made_any (A0 : Option Addr) (len cap : Nat) (z : Nat → Int) (w : World) (hl : len ≤ 9223372036854775000) (hz : ∀ i, i < len → 0 ≤ z i ∧ z i ≤ 255) (h : Sl w A0 1 len fun i _ => .int .u8 (z i)) :
    Calls Try.prog 19 #[.slice A0 len cap] w (MadePost (madeL z len) w) := by
  have HS := Lib.hid h
  have HZ := Lib.hid hz
  obtain ⟨L, hL⟩ : ∃ L, makeF z len len 0 [] = L := ⟨_, rfl⟩
  have HL := Lib.hid (show madeL z len = ownU z (min L.length len) L from by unfold madeL; rw [hL])
  have LO := Lib.hid (show L.length ≤ 60 ∧ Valid 16384 L from by rw [← hL]; exact makeF_ok z len len 0 [] (by simp) (Valid.nil (by omega) (by omega)))
  have F0 := Lib.hid hL
  have D0 := Lib.hid (show Mw w ((w.alloc (.cells #[.int .i64 0, .slice none 0 0] 24)).alloc (.cells #[.int .i64 16384, .slice none 0 0] 24)) [] (.slice none 0 0) from
    ⟨(Bm.new w 0 _).alloc _, Bm.new2 w _ _ 16384 _ rfl, OwS.nil _ _, kept2 w _ _⟩)
  have V0 := Lib.hid (show Valid 16384 [] from Valid.nil (by omega) (by omega))
  clear h hz hL
  go_enter Try.func19, Try.ntmps19
  go_wp2_with fail
  go_loopw [4] (fun ii wr => ∃ (k f : Nat) (m : List S) (A : Option Addr) (c : Nat), k ≤ len + 3 ∧ len ≤ k + f ∧ ii = .int .i64 (k : Int) ∧ m.length ≤ 60 ∧ Hid (makeF z len f k m = L) ∧ Hid (Valid 16384 m) ∧ Hid (Mw w wr m (.slice A m.length c))) (fun ii _ => len + 8 - (intOf ii).toNat)
  case atStart => exact ⟨0, len, [], none, 0, by omega, by omega, rfl, by simp, F0, V0, D0⟩
  case round =>
    clear F0 V0 D0
    obtain ⟨k, f, m, A, c, hk, hf, rfl, hm, FU, VM, DW⟩ := hrel
    rename World => V
    have m0 := DW.out.box.c0
    have m1 := DW.out.box.c1
    have mf0 := DW.out.box.f0
    have mf1 := DW.out.box.f1
    have ls := Blk.lt DW.out.box
    have u2 : IntKind.i64.wrap ((k : Int) + 2) = (k : Int) + 2 := IntWalk.i64_in _ (by omega)
    by_cases t1 : k + 2 < len
    · by_cases t2 : m.length < 60
      · obtain ⟨f', rfl, hf', FE⟩ := makeF_go (z := z) t1 t2 hf
        rw [FE] at FU
        clear FE
        obtain ⟨g, o, rfl, hgw, cw⟩ := sl_cell3 HS.out (by omega)
        have hg : g < V.heap.size := Nat.lt_of_lt_of_le hgw DW.out.kept.size
        have cc : ∀ i, i < len → V.cell? ⟨g, o + i, none⟩ = some (.int .u8 (z i)) := fun i hi => cell_on DW.out.kept (cw i hi)
        clear cw
        have c0 := cc k (by omega)
        have c1 := cc (k + 1) (by omega)
        have c2 := cc (k + 2) (by omega)
        obtain ⟨p0, p1⟩ := HZ.out k (by omega)
        obtain ⟨q0, q1⟩ := HZ.out (k + 1) (by omega)
        obtain ⟨r0, r1⟩ := HZ.out (k + 2) (by omega)
        generalize z k = b0 at *
        generalize z (k + 1) = b1 at *
        generalize z (k + 2) = b2 at *
        clear cc
        have k0 : (k : Int) < (len : Int) := by omega
        have k1 : (k : Int) + 1 < (len : Int) := by omega
        have k2 : (k : Int) + 2 < (len : Int) := by omega
        have z1 : (0 : Int) ≤ (k : Int) + 1 := by omega
        have z2 : (0 : Int) ≤ (k : Int) + 2 := by omega
        have n1 : ((k : Int) + 1).toNat = k + 1 := by omega
        have n2 : ((k : Int) + 2).toNat = k + 2 := by omega
        have u1 : IntKind.i64.wrap ((k : Int) + 1) = (k : Int) + 1 := IntWalk.i64_in _ (by omega)
        have u3 : IntKind.i64.wrap ((k : Int) + 3) = (k : Int) + 3 := IntWalk.i64_in _ (by omega)
        have e0 : IntKind.i64.wrap b0 = b0 := IntWalk.i64_in _ (by omega)
        have e1 : IntKind.i64.wrap b1 = b1 := IntWalk.i64_in _ (by omega)
        have e2 : IntKind.i64.wrap b2 = b2 := IntWalk.i64_in _ (by omega)
        have e3 : IntKind.i64.wrap (b1 * 256) = b1 * 256 := IntWalk.i64_in _ (by omega)
        have e4 : IntKind.i64.wrap (b1 * 256 + b2) = b1 * 256 + b2 := IntWalk.i64_in _ (by omega)
        obtain ⟨R, hR, hR'⟩ : ∃ R : Int, b0.tmod 13 = R ∧ b0 % 13 = R := ⟨_, Int.tmod_eq_emod_of_nonneg p0, rfl⟩
        have rb0 : 0 ≤ R := by omega
        have rb1 : R < 13 := by omega
        obtain ⟨T, hT, hT'⟩ : ∃ T : Int, (b1 * 256 + b2).tmod 512 = T ∧ (b1 * 256 + b2) % 512 = T := ⟨_, Int.tmod_eq_emod_of_nonneg (by omega), rfl⟩
        have tb0 : 0 ≤ T := by omega
        have tb1 : T < 512 := by omega
        have e5 : IntKind.i64.wrap (T * 32) = T * 32 := IntWalk.i64_in _ (by omega)
        obtain ⟨E, hE⟩ : ∃ E : Nat, R.toNat = E := ⟨_, rfl⟩
        have hM : min E 64 = E := by omega
        obtain ⟨P, hP⟩ : ∃ P : Int, (2 : Int) ^ E = P := ⟨_, rfl⟩
        have pb : 1 ≤ P ∧ P ≤ 4096 := by
          have : E = 0 ∨ E = 1 ∨ E = 2 ∨ E = 3 ∨ E = 4 ∨ E = 5 ∨ E = 6 ∨ E = 7 ∨ E = 8 ∨ E = 9 ∨ E = 10 ∨ E = 11 ∨ E = 12 := by omega
          rw [← hP]
          rcases this with e | e | e | e | e | e | e | e | e | e | e | e | e <;> rw [e] <;> decide
        have e6 : IntKind.i64.wrap P = P := IntWalk.i64_in _ (by omega)
        have NA := show makeN b0 = P ∧ makeA b1 b2 = T * 32 from by
          unfold makeN makeA
          rw [hR', hT', hE, hP]
          exact ⟨rfl, rfl⟩
        rw [NA.1, NA.2] at FU
        have FU := Lib.hid FU.out
        clear NA hR' hT'
        have k60 : ((m.length : Nat) : Int) < 60 := by omega
        obtain ⟨As, cs, es, RS, hcs, hAs⟩ := DW.out.ow.rs
        injection es with es1 es2 es3
        subst es1
        subst es3
        have RA := Lib.hid (fun X (q : Kept Old V X) => ralloc_own 16384 A m.length c m P (T * 32) X (RS.old q) VM.out hcs hAs ⟨by omega, by omega⟩)
        clear RS hcs hAs
        have lq := Lib.hid ls
        have gv : g ≠ V.heap.size := by omega
        have bv : w.heap.size + 1 ≠ V.heap.size := by omega
        have gb : g ≠ w.heap.size + 1 := by omega
        cases r : roomB 16384 m P (T * 32) with
        | true =>
          rw [makeS_yes r] at FU
          rw [(room_yes r).2.2.1, (room_yes r).2.2.2, r] at RA
          have VN := Lib.hid (VM.out.ins r)
          have LN := Lib.hid (ins_len m (newS P (T * 32)))
          clear r
          generalize insL m (newS P (T * 32)) = m2 at *
          go_wp2_with fail
          have KA := Lib.hid ((Kept.refl Old V).alloc (.cells #[.int .i64 0, .slice none 0 0] 24)).drew
          have BA := Lib.hid (Bm.new V 0 (.slice none 0 0)).drew
          go_region_held3 (fun w' => w'.cell? ⟨w.heap.size + 1, 0, none⟩ = some (.int .i64 16384) ∧ w'.cell? ⟨w.heap.size + 1, 1, none⟩ = some (.slice A m.length c) ∧ w'.cell? ⟨g, o + k, none⟩ = some (.int .u8 b0) ∧ w'.cell? ⟨g, o + (k + 1), none⟩ = some (.int .u8 b1) ∧ w'.cell? ⟨g, o + (k + 2), none⟩ = some (.int .u8 b2))
            (first
              | (exact ⟨‹_›, ‹_›, ‹_›, ‹_›, ‹_›⟩)
              | (exact ⟨cell_on KA.out m0, cell_on KA.out m1, cell_on KA.out c0, cell_on KA.out c1, cell_on KA.out c2⟩)
              | (exact ⟨put_far m0 bv, put_far m1 bv, put_far c0 gv, put_far c1 gv, put_far c2 gv⟩)
              | (exact ⟨put_far ‹_› bv, put_far ‹_› bv, put_far ‹_› gv, put_far ‹_› gv, put_far ‹_› gv⟩)
              | go_keep)
            (first
              | (go_at_call 26; ((with_reducible refine (RA.out _ (Kept.refl Old V).drew).mono ?_); rintro e V2 ⟨v2, rfl, M2, O2⟩; obtain ⟨A2, n2, c2', rfl, T2, hc2, q2, k2'⟩ := M2; have k5 : Kept Old V V2 := Kept.trans (Kept.refl Old V).drew k2'; have m0 := cell_on k5 m0; have m1 := cell_on k5 m1; have c0 := cell_on k5 c0; have c1 := cell_on k5 c1; have c2 := cell_on k5 c2; have O2 := Lib.hid O2; clear T2 k2'))
              | (go_at_call 26; ((with_reducible refine (RA.out _ KA.out).mono ?_); rintro e V2 ⟨v2, rfl, M2, O2⟩; obtain ⟨A2, n2, c2', rfl, T2, hc2, q2, k2'⟩ := M2; have k5 : Kept Old V V2 := KA.out.trans k2'; have m0 := cell_on k5 m0; have m1 := cell_on k5 m1; have c0 := cell_on k5 c0; have c1 := cell_on k5 c1; have c2 := cell_on k5 c2; have O2 := Lib.hid O2; have BX := Lib.hid (BA.out.old k2'); have y0 := BX.out.c0; have y1 := BX.out.c1; have g0 := BX.out.f0; have g1 := BX.out.f1; clear T2 k2')))
          · obtain ⟨n9, O9⟩ := O2.out
            obtain ⟨rfl, rfl⟩ := own_len O9
            have D2 := Lib.hid (DW.out.step1 k5 (.cells #[.int .i64 16384, .slice A2 m2.length c2'] 24))
            have O3 := Lib.hid ((O9.alloc (.cells #[.int .i64 16384, .slice A2 m2.length c2'] 24)).downS (show w.heap.size + 2 ≤ _ from ls))
            have x0 := (Bm.new V2 16384 (.slice A2 m2.length c2')).c0
            have x1 := (Bm.new V2 16384 (.slice A2 m2.length c2')).c1
            have f0 := D2.out.box.f0
            have f1 := D2.out.box.f1
            have b0' := D2.out.box.c0
            have b1' := D2.out.box.c1
            rename_i hHeld
            clear hHeld O9 O2 m0 m1 c0 c1 c2 mf0 mf1
            generalize V2.alloc (.cells #[.int .i64 16384, .slice A2 m2.length c2'] 24) = Y at *
            have D3 := Lib.hid (D2.out.put O3.out)
            go_wp2
            refine ⟨⟨k + 3, f', m2, A2, c2', by omega, by omega, by go_num, by have := LN.out; omega, FU, VN, D3⟩, ?_⟩
            simp [intOf]; omega
          · obtain ⟨n9, O9⟩ := O2.out
            obtain ⟨rfl, rfl⟩ := own_len O9
            have D2 := Lib.hid (DW.out.step2 k5 (.int .i64 16384) (.slice A2 m2.length c2'))
            have O3 := Lib.hid ((O9.kept (put2_kept V2 V.heap.size (.int .i64 16384) (.slice A2 m2.length c2')) (fun gg e q => by have := (O9.own gg e.symm).1; have q : gg = V.heap.size := q; have u : (V.alloc (.cells #[.int .i64 0, .slice none 0 0] 24)).drew.heap.size = V.heap.size + 1 := (by simp [World.drew]); omega)).downS (show w.heap.size + 2 ≤ _ from by have u : (V.alloc (.cells #[.int .i64 0, .slice none 0 0] 24)).drew.heap.size = V.heap.size + 1 := (by simp [World.drew]); omega))
            have BX2 := BX.out.put2 (.int .i64 16384) (.slice A2 m2.length c2')
            have x0 := Blk.cell BX2 0
            have x1 := Blk.cell BX2 1
            have f0 := D2.out.box.f0
            have f1 := D2.out.box.f1
            have b0' := D2.out.box.c0
            have b1' := D2.out.box.c1
            rename_i hHeld
            clear hHeld O9 O2 m0 m1 c0 c1 c2 mf0 mf1 y0 y1 g0 g1 BX BX2
            generalize (V2.setCell ⟨V.heap.size, 0, none⟩ (.int .i64 16384)).setCell ⟨V.heap.size, 1, none⟩ (.slice A2 m2.length c2') = Y at *
            have D3 := Lib.hid (D2.out.put O3.out)
            go_wp2
            refine ⟨⟨k + 3, f', m2, A2, c2', by omega, by omega, by go_num, by have := LN.out; omega, FU, VN, D3⟩, ?_⟩
            simp [intOf]; omega
        | false =>
          rw [makeS_no r] at FU
          rw [(room_no r).2.2.1, (room_no r).2.2.2, r] at RA
          clear r
          go_wp2_with fail
          have KA := Lib.hid ((Kept.refl Old V).alloc (.cells #[.int .i64 0, .slice none 0 0] 24)).drew
          have BA := Lib.hid (Bm.new V 0 (.slice none 0 0)).drew
          go_region_held3 (fun w' => w'.cell? ⟨w.heap.size + 1, 0, none⟩ = some (.int .i64 16384) ∧ w'.cell? ⟨w.heap.size + 1, 1, none⟩ = some (.slice A m.length c) ∧ w'.cell? ⟨g, o + k, none⟩ = some (.int .u8 b0) ∧ w'.cell? ⟨g, o + (k + 1), none⟩ = some (.int .u8 b1) ∧ w'.cell? ⟨g, o + (k + 2), none⟩ = some (.int .u8 b2))
            (first
              | (exact ⟨‹_›, ‹_›, ‹_›, ‹_›, ‹_›⟩)
              | (exact ⟨cell_on KA.out m0, cell_on KA.out m1, cell_on KA.out c0, cell_on KA.out c1, cell_on KA.out c2⟩)
              | (exact ⟨put_far m0 bv, put_far m1 bv, put_far c0 gv, put_far c1 gv, put_far c2 gv⟩)
              | (exact ⟨put_far ‹_› bv, put_far ‹_› bv, put_far ‹_› gv, put_far ‹_› gv, put_far ‹_› gv⟩)
              | go_keep)
            (first
              | (go_at_call 26; ((with_reducible refine (RA.out _ (Kept.refl Old V).drew).mono ?_); rintro e V2 ⟨v2, rfl, M2, O2⟩; obtain ⟨A2, n2, c2', rfl, T2, hc2, q2, k2'⟩ := M2; have k5 : Kept Old V V2 := Kept.trans (Kept.refl Old V).drew k2'; have m0 := cell_on k5 m0; have m1 := cell_on k5 m1; have c0 := cell_on k5 c0; have c1 := cell_on k5 c1; have c2 := cell_on k5 c2; have O2 := Lib.hid O2; clear T2 k2'))
              | (go_at_call 26; ((with_reducible refine (RA.out _ KA.out).mono ?_); rintro e V2 ⟨v2, rfl, M2, O2⟩; obtain ⟨A2, n2, c2', rfl, T2, hc2, q2, k2'⟩ := M2; have k5 : Kept Old V V2 := KA.out.trans k2'; have m0 := cell_on k5 m0; have m1 := cell_on k5 m1; have c0 := cell_on k5 c0; have c1 := cell_on k5 c1; have c2 := cell_on k5 c2; have O2 := Lib.hid O2; have BX := Lib.hid (BA.out.old k2'); have y0 := BX.out.c0; have y1 := BX.out.c1; have g0 := BX.out.f0; have g1 := BX.out.f1; clear T2 k2')))
          · have D3 := Lib.hid (DW.out.step1 k5 (.cells #[.int .i64 0, .slice A2 n2 c2'] 24))
            clear m0 m1 c0 c1 c2 mf0 mf1
            go_wp2
            refine ⟨⟨k + 3, f', m, A, c, by omega, by omega, by go_num, by omega, FU, VM, D3⟩, ?_⟩
            simp [intOf]; omega
          · have D3 := Lib.hid (DW.out.step2 k5 (.int .i64 0) (.slice A2 n2 c2'))
            clear m0 m1 c0 c1 c2 mf0 mf1 y0 y1 g0 g1 BX
            go_wp2
            refine ⟨⟨k + 3, f', m, A, c, by omega, by omega, by go_num, by omega, FU, VM, D3⟩, ?_⟩
            simp [intOf]; omega
      · have t3 : ¬ ((m.length : Nat) : Int) < 60 := by omega
        have k2 : (k : Int) + 2 < (len : Int) := by omega
        have t4 : decide (((m.length : Nat) : Int) < 60) = false := decide_eq_false t3
        have t5 : decide (m.length < 60) = false := decide_eq_false t2
        rw [makeF_end (by omega)] at FU
        obtain rfl : m = L := FU.out
        have D1 := Lib.hid (show Mw w V (ownU z 0 m) (.slice A m.length c) from by rw [ownU_zero]; exact DW.out)
        have LM := Lib.hid (ownU_len z)
        clear FU mf0 mf1
        go_wp2_with fail
        clear DW m0 m1 u2 ls
        go_loopw [7] (fun ii wr => ∃ j : Nat, j ≤ m.length ∧ j ≤ len ∧ ii = .int .i64 (j : Int) ∧ Hid (Mw w wr (ownU z j m) (.slice A m.length c))) (fun ii _ => m.length - (intOf ii).toNat)
        case atStart => exact ⟨0, by omega, by omega, rfl, D1⟩
        case round =>
          obtain ⟨j, hj0, hj1, rfl, D2⟩ := hrel
          rename World => X
          clear D1
          have m0 := D2.out.box.c0
          have m1 := D2.out.box.c1
          have ls := Blk.lt D2.out.box
          by_cases d0 : j < m.length
          · have d0' : (j : Int) < ((m.length : Nat) : Int) := by omega
            by_cases d1 : j < len
            · have d1' : (j : Int) < (len : Int) := by omega
              obtain ⟨g, o, rfl, hgw, cw⟩ := sl_cell3 HS.out (by omega)
              have hg : g < X.heap.size := Nat.lt_of_lt_of_le hgw D2.out.kept.size
              have c0 := cell_on D2.out.kept (cw j (by omega))
              obtain ⟨p0, p1⟩ := HZ.out j (by omega)
              obtain ⟨gg, cc, r, e, hb, bq, _, _, _⟩ := D2.out.ow.blk.resolve_left (fun q => by have := q.2; rw [ownU_len] at this; omega)
              rw [LM.out] at e
              injection e with e1 e2 e3
              subst e1
              subst e3
              obtain ⟨x, hx⟩ : ∃ x, m[j]? = some x := ⟨_, List.getElem?_eq_getElem d0⟩
              have ff := Blk.frozen bq (j * 3 + 2)
              obtain ⟨_, _, esl, RS, _, _⟩ := D2.out.ow.rs
              injection esl with es1 es2 es3
              subst es1
              subst es3
              clear es2
              obtain ⟨g9, o9, y9, e9, hgg, _, _, _, _, cx⟩ := RS.get (k := j) (by rw [ownU_len]; exact d0)
              injection e9 with e9
              injection e9 with e9 e10 _
              subst e9
              subst e10
              have lgg := Blk.lt bq
              have hx9 := ownU_at (z := z) hx
              have OS := ownU_step (z := z) hx
              generalize z j = b0 at *
              obtain ⟨R, hR, hR'⟩ : ∃ R : Int, b0.tmod 4 = R ∧ b0 % 4 = R := ⟨_, Int.tmod_eq_emod_of_nonneg p0, rfl⟩
              rw [hR'] at OS
              have rb0 : 0 ≤ R := by omega
              have rb1 : R < 4 := by omega
              have DZ := Lib.hid (D2.out.owner hx9 (R - 1) ⟨by omega, by omega⟩)
              rw [OS] at DZ
              have DZ := Lib.hid (DZ.out.old (Kept.refl Old _).drew)
              have e0 : IntKind.i64.wrap b0 = b0 := IntWalk.i64_in _ (by omega)
              have e5 : IntKind.i64.wrap (R - 1) = R - 1 := IntWalk.i64_in _ (by omega)
              have e6 : IntKind.i64.wrap ((j : Int) + 1) = (j : Int) + 1 := IntWalk.i64_in _ (by omega)
              simp only [Nat.zero_add] at cx
              clear hR' OS hx hx9 RS bq D2 cw e2
              (try clear e); (try clear esl); (try clear es3); (try clear e9)
              go_wp2_with fail
              go_region
              all_goals
                go_wp2
                refine ⟨⟨j + 1, by omega, by omega, by go_num, DZ⟩, ?_⟩
                simp [intOf]; omega
            · have d1' : ¬ (j : Int) < (len : Int) := by omega
              have HE := Lib.hid HL.out
              rw [show min m.length len = j from by omega] at HE
              obtain ⟨Z, hZ, r0, r1, M9⟩ := D2.out.fin
              have rf0 := D2.out.res.f0
              have rf1 := D2.out.res.f1
              have rc0 := D2.out.res.c0
              have rc1 := D2.out.res.c1
              have HZ9 := Lib.hid hZ
              have R09 := Lib.hid r0
              have R19 := Lib.hid r1
              clear hZ r0 r1
              go_wp2
              rw [HZ9.out]
              have r0 := R09.out
              have r1 := R19.out
              exact bodyPost_ret (v := .agg #[.int .i64 16384, .slice A m.length c]) (by simp [results, Try.results19, go_sem, r0, r1]) rfl ⟨_, rfl, by rw [HE.out]; exact M9⟩
          · have d0' : ¬ (j : Int) < ((m.length : Nat) : Int) := by omega
            have HE := Lib.hid HL.out
            rw [show min m.length len = j from by omega] at HE
            obtain ⟨Z, hZ, r0, r1, M9⟩ := D2.out.fin
            have rf0 := D2.out.res.f0
            have rf1 := D2.out.res.f1
            have rc0 := D2.out.res.c0
            have rc1 := D2.out.res.c1
            have HZ9 := Lib.hid hZ
            have R09 := Lib.hid r0
            have R19 := Lib.hid r1
            clear hZ r0 r1
            go_wp2
            rw [HZ9.out]
            have r0 := R09.out
            have r1 := R19.out
            exact bodyPost_ret (v := .agg #[.int .i64 16384, .slice A m.length c]) (by simp [results, Try.results19, go_sem, r0, r1]) rfl ⟨_, rfl, by rw [HE.out]; exact M9⟩
    · have t3 : ¬ (k : Int) + 2 < (len : Int) := by omega
      rw [makeF_end (by omega)] at FU
      obtain rfl : m = L := FU.out
      have D1 := Lib.hid (show Mw w V (ownU z 0 m) (.slice A m.length c) from by rw [ownU_zero]; exact DW.out)
      have LM := Lib.hid (ownU_len z)
      clear FU mf0 mf1
      go_wp2_with fail
      clear DW m0 m1 u2 ls
      go_loopw [7] (fun ii wr => ∃ j : Nat, j ≤ m.length ∧ j ≤ len ∧ ii = .int .i64 (j : Int) ∧ Hid (Mw w wr (ownU z j m) (.slice A m.length c))) (fun ii _ => m.length - (intOf ii).toNat)
      case atStart => exact ⟨0, by omega, by omega, rfl, D1⟩
      case round =>
        obtain ⟨j, hj0, hj1, rfl, D2⟩ := hrel
        rename World => X
        clear D1
        have m0 := D2.out.box.c0
        have m1 := D2.out.box.c1
        have ls := Blk.lt D2.out.box
        by_cases d0 : j < m.length
        · have d0' : (j : Int) < ((m.length : Nat) : Int) := by omega
          by_cases d1 : j < len
          · have d1' : (j : Int) < (len : Int) := by omega
            obtain ⟨g, o, rfl, hgw, cw⟩ := sl_cell3 HS.out (by omega)
            have hg : g < X.heap.size := Nat.lt_of_lt_of_le hgw D2.out.kept.size
            have c0 := cell_on D2.out.kept (cw j (by omega))
            obtain ⟨p0, p1⟩ := HZ.out j (by omega)
            obtain ⟨gg, cc, r, e, hb, bq, _, _, _⟩ := D2.out.ow.blk.resolve_left (fun q => by have := q.2; rw [ownU_len] at this; omega)
            rw [LM.out] at e
            injection e with e1 e2 e3
            subst e1
            subst e3
            obtain ⟨x, hx⟩ : ∃ x, m[j]? = some x := ⟨_, List.getElem?_eq_getElem d0⟩
            have ff := Blk.frozen bq (j * 3 + 2)
            obtain ⟨_, _, esl, RS, _, _⟩ := D2.out.ow.rs
            injection esl with es1 es2 es3
            subst es1
            subst es3
            clear es2
            obtain ⟨g9, o9, y9, e9, hgg, _, _, _, _, cx⟩ := RS.get (k := j) (by rw [ownU_len]; exact d0)
            injection e9 with e9
            injection e9 with e9 e10 _
            subst e9
            subst e10
            have lgg := Blk.lt bq
            have hx9 := ownU_at (z := z) hx
            have OS := ownU_step (z := z) hx
            generalize z j = b0 at *
            obtain ⟨R, hR, hR'⟩ : ∃ R : Int, b0.tmod 4 = R ∧ b0 % 4 = R := ⟨_, Int.tmod_eq_emod_of_nonneg p0, rfl⟩
            rw [hR'] at OS
            have rb0 : 0 ≤ R := by omega
            have rb1 : R < 4 := by omega
            have DZ := Lib.hid (D2.out.owner hx9 (R - 1) ⟨by omega, by omega⟩)
            rw [OS] at DZ
            have DZ := Lib.hid (DZ.out.old (Kept.refl Old _).drew)
            have e0 : IntKind.i64.wrap b0 = b0 := IntWalk.i64_in _ (by omega)
            have e5 : IntKind.i64.wrap (R - 1) = R - 1 := IntWalk.i64_in _ (by omega)
            have e6 : IntKind.i64.wrap ((j : Int) + 1) = (j : Int) + 1 := IntWalk.i64_in _ (by omega)
            simp only [Nat.zero_add] at cx
            clear hR' OS hx hx9 RS bq D2 cw e2
            (try clear e); (try clear esl); (try clear es3); (try clear e9)
            go_wp2_with fail
            go_region
            all_goals
              go_wp2
              refine ⟨⟨j + 1, by omega, by omega, by go_num, DZ⟩, ?_⟩
              simp [intOf]; omega
          · have d1' : ¬ (j : Int) < (len : Int) := by omega
            have HE := Lib.hid HL.out
            rw [show min m.length len = j from by omega] at HE
            obtain ⟨Z, hZ, r0, r1, M9⟩ := D2.out.fin
            have rf0 := D2.out.res.f0
            have rf1 := D2.out.res.f1
            have rc0 := D2.out.res.c0
            have rc1 := D2.out.res.c1
            have HZ9 := Lib.hid hZ
            have R09 := Lib.hid r0
            have R19 := Lib.hid r1
            clear hZ r0 r1
            go_wp2
            rw [HZ9.out]
            have r0 := R09.out
            have r1 := R19.out
            exact bodyPost_ret (v := .agg #[.int .i64 16384, .slice A m.length c]) (by simp [results, Try.results19, go_sem, r0, r1]) rfl ⟨_, rfl, by rw [HE.out]; exact M9⟩
        · have d0' : ¬ (j : Int) < ((m.length : Nat) : Int) := by omega
          have HE := Lib.hid HL.out
          rw [show min m.length len = j from by omega] at HE
          obtain ⟨Z, hZ, r0, r1, M9⟩ := D2.out.fin
          have rf0 := D2.out.res.f0
          have rf1 := D2.out.res.f1
          have rc0 := D2.out.res.c0
          have rc1 := D2.out.res.c1
          have HZ9 := Lib.hid hZ
          have R09 := Lib.hid r0
          have R19 := Lib.hid r1
          clear hZ r0 r1
          go_wp2
          rw [HZ9.out]
          have r0 := R09.out
          have r1 := R19.out
          exact bodyPost_ret (v := .agg #[.int .i64 16384, .slice A m.length c]) (by simp [results, Try.results19, go_sem, r0, r1]) rfl ⟨_, rfl, by rw [HE.out]; exact M9⟩
end Go.Proofs.Ytmajgfpfbieakaa.Lm
