/-
  For every input the law PoolOnce of rickyard/rickyardlaw10 returns true, and its arguments read afterwards as before. The law's own sentence: No stack is taken twice ahead of being put back; each lies within a span, behind whole stacks; as many are free as were not taken. No further conditions.
-/
import Derived.Test.YtmkkkifigeaalaaRows
import Derived.Test.YtmkkkifigeaalaaKept
import Derived.Test.YtmkkkifigeaalaaShell
import Derived.Test.YtmkkkifigeaalaaShellInts
import Derived.WalkKit
import Derived.ProofKit
import Derived.OpenShut
import Derived.ChangeOld
import Derived.Below
import Derived.Lib.SmallJoins
import Derived.Test.YtmkkkifigeaalaaPoolOnceS
import Derived.Deep.DeepCutAuto
namespace Go.Proofs.Ytmkkkifigeaalaa.poolOnce
open Go.ChangeShapes Go.WideShapes Go.ChangeAt Go.RowKit
set_option linter.unusedVariables false
set_option maxRecDepth 100000

theorem own : ownKnob Try.prog.godebug = none := by kernel_rfl
theorem laidOut : laidOutB Try.prog = true := by kernel_rfl
open Prt

set_option maxHeartbeats 8000000 in
/-- The walk: the Go text returns true, and nothing that was there has turned. -/
theorem walk (a0 : Int) (a1 : Option Addr) (len1 cap1 : Nat) (z1 : Nat → Int) (w : World) (w0 : (Lit.int .u8 a0).wf = true) (w1 : len1 ≤ cap1 ∧ cap1 ≤ maxLen ∧ (∀ i, i < len1 → (Lit.int .u8 (z1 i)).wf = true) ∧ Sl w a1 1 len1 fun i _ => .int .u8 (z1 i)) :
    Calls Try.prog 5 #[.int .u8 a0, .slice a1 len1 cap1] w fun e w' => e = .returned (.bool true) ∧ Kept Old w w' := by
  obtain ⟨v0, v1, v2, v3⟩ := w1
  have hl : len1 ≤ 9223372036854775807 := by unfold maxLen at v1; omega
  have hz := Lib.hid (show ∀ i, i < len1 → 0 ≤ z1 i ∧ z1 i ≤ 255 from fun i hi => bounds_u8 (v2 i hi))
  have HS := Lib.hid v3
  have b2 := bounds_u8 w0
  obtain ⟨u, rfl⟩ : ∃ u : Nat, a0 = (u : Int) := ⟨a0.toNat, by omega⟩
  obtain ⟨c, hcu⟩ : ∃ c : Nat, u % 4 = c := ⟨_, rfl⟩
  have hc : c < 4 := by omega
  have rm : (u : Int) % 4 = (c : Int) := by omega
  have hN := Lib.hid (new_yes 32 w (by omega) (by omega))
  have wp := w_pos hc
  have wl := w_le hc
  have pp := per_pos hc
  clear v0 v1 v2 v3 w0 hcu
  go_enter Try.func5, Try.ntmps5
  go_wp2_with fail
  refine hN.out.mono ?_
  rintro e w1 ⟨a, g, rfl, a1, k1, ha, hg⟩
  have A1 := Lib.hid a1
  have K1 := Lib.hid k1
  clear a1 k1 hN
  go_wp2_with fail
  refine (pnew_yes w.heap.size c w1 hc K1.out.size).mono ?_
  rintro e w2 ⟨p, rfl, T2, k2, hp⟩
  have S := Lib.hid (StP.new (F := fun _ => False) A1.out K1.out ha hg T2 k2 hc (by omega) (fun b h => h.elim))
  clear A1 K1 T2 k2
  go_upto_region 5 with fail
  go_cut [8] (fun s8 wx => s8 = .int .i64 (wN c : Int) ∧ w2 = wx)
  case first =>
    rcases (show c = 0 ∨ c = 1 ∨ c = 2 ∨ c = 3 by omega) with rfl | rfl | rfl | rfl
    all_goals
      go_wp2_with fail
      go_meet
      exact ⟨rfl, rfl⟩
  case rest =>
  obtain ⟨rfl, rfl⟩ := hcut
  obtain ⟨w3, m3, O3, k3, l3⟩ := make_bools w2 2048 (by omega)
  obtain ⟨w4, m4, D4, k4, l4⟩ := make_bools w3 4 (by omega)
  have m3 : (Instr.makeSlice 45 (.int .i64 2048) (.int .i64 2048)).run Try.prog w2 = .ok (.slice (some ⟨w2.heap.size, 0, none⟩) 2048 2048) w3 := m3
  have m4 : (Instr.makeSlice 45 (.int .i64 4) (.int .i64 4)).run Try.prog w3 = .ok (.slice (some ⟨w3.heap.size, 0, none⟩) 4 4) w4 := m4
  have s0 := S.out.kept.size
  have T := Lib.hid (show On w w4 p a g c [] w2.heap.size w3.heap.size (fun _ => false) (fun _ => false) 0 0 from
    ⟨S.out.more (k3.trans k4) (fun b e => by rcases e with rfl | rfl; exact .inr ⟨Nat.le_refl _, by omega⟩; exact .inr ⟨by omega, by omega⟩), O3.kept k4 (fun x => x), D4, OnceInv.start c, s0, by omega, by omega⟩)
  generalize w2.heap.size = bo at *
  generalize w3.heap.size = ba at *
  clear S O3 D4 k3 k4 l3 l4 s0 hp ha hg rm
  go_wp2_with fail
  clear m3 m4
  go_loopw [11, 12, 13] (fun s11 s12 s13 wr => ∃ (i : Nat) (L : List Q) (out add : Nat → Bool) (all n : Nat), i ≤ 501 ∧ s13 = .int .i64 (i : Int) ∧ s11 = .int .i64 (all : Int) ∧ s12 = .int .i64 (n : Int) ∧ Hid (On w wr p a g c L bo ba out add all n)) (fun _ _ s13 _ => 502 - (intOf s13).toNat)
  case atStart => exact ⟨0, [], _, _, 0, 0, by omega, rfl, rfl, rfl, T⟩
  case round =>
    obtain ⟨k, L, out, add, all, n, hk, rfl, rfl, rfl, T1⟩ := hrel
    rename World => V
    clear T
    have wk : IntKind.i64.wrap ((k : Int) + 1) = (k : Int) + 1 := IntWalk.i64_in _ (by omega)
    have an := T1.out.len
    have q512 : (512 : Int) / ((wN c : Nat) : Int) = ((perN c : Nat) : Int) := by rcases c_ways hc with ⟨_, e1, e2⟩ | ⟨_, e1, e2⟩ | ⟨_, e1, e2⟩ | ⟨_, e1, e2⟩ <;> rw [e1, e2] <;> decide
    have wz : ¬ ((wN c : Nat) : Int) = 0 := by omega
    have wq : IntKind.i64.wrap ((perN c : Nat) : Int) = ((perN c : Nat) : Int) := IntWalk.i64_in _ (by omega)
    by_cases ck : k + 1 < len1 ∧ k < 500
    · obtain ⟨c1, c2⟩ := ck
      obtain ⟨gn, on, rfl, hgn, hcn⟩ := (HS.out.old T1.out.st.kept).lies (by omega)
      have d0 := hcn k 0 (by omega) (by omega)
      have d1 := hcn (k + 1) 0 (by omega) (by omega)
      simp only [Nat.mul_one, Nat.add_zero] at d0 d1
      have y0 := hz.out k (by omega)
      have y1 := hz.out (k + 1) (by omega)
      obtain ⟨x, hx⟩ : ∃ x : Nat, z1 k = (x : Int) := ⟨(z1 k).toNat, by omega⟩
      obtain ⟨y, hy⟩ : ∃ y : Nat, z1 (k + 1) = (y : Int) := ⟨(z1 (k + 1)).toNat, by omega⟩
      rw [hx] at d0 y0
      rw [hy] at d1 y1
      have wy : IntKind.i64.wrap (y : Int) = (y : Int) := IntWalk.i64_in _ (by omega)
      have wx : IntKind.u8.wrap ((x : Int) % 8) = (x : Int) % 8 := IntWalk.u8_in _ (by omega)
      have j1 : (k : Int) + 1 < (len1 : Int) := by omega
      have j2 : (0 : Int) ≤ (k : Int) + 1 := by omega
      have j3 : ((k : Int) + 1).toNat = k + 1 := by omega
      have j4 : (k : Int) < (len1 : Int) := by omega
      clear hcn hx hy
      have gd := Lib.hid T1.out.st.good
      by_cases e0 : x % 8 = 0
      · have e1 : ((x : Int) % 8 == 0) = true := by simp; omega
        obtain ⟨j, hj⟩ : ∃ j, y % 4 = j := ⟨_, rfl⟩
        have j4' : j < 4 := by omega
        have jr : (y : Int) % 4 = (j : Int) := by omega
        have wj : IntKind.i64.wrap (j : Int) = (j : Int) := IntWalk.i64_in _ (by omega)
        obtain ⟨q, hq⟩ : ∃ q, 8 * j = q := ⟨_, rfl⟩
        have w8 : IntKind.i64.wrap (8 * (j : Int)) = (q : Int) := by rw [IntWalk.i64_in _ (by omega)]; omega
        have HQ := Lib.hid hq
        have jl : (j : Int) < 4 := by omega
        have cj := T1.out.d.cell j4'
        clear e0 hj hq
        cases aj : add j with
        | true =>
          rw [aj] at cj
          go_wp2_with fail
          have sm := T1.out.inv.sum
          have ln := T1.out.len
          refine (st_len T1.out.st).mono ?_
          rintro e V9 ⟨rfl, k9⟩
          have Y := Lib.hid (T1.out.old k9)
          rw [show ((lenL L : Nat) : Int) = (all : Int) - (n : Int) by omega]
          have wan : IntKind.i64.wrap ((all : Int) - (n : Int)) = (all : Int) - (n : Int) := IntWalk.i64_in _ (by omega)
          clear k9 sm
          go_wp2
          refine ⟨⟨k + 2, _, _, _, all, n, by omega, by go_num, rfl, rfl, Y⟩, ?_⟩
          simp [intOf]; omega
        | false =>
          rw [aj] at cj
          go_wp2_with fail
          refine (st_add _ T1.out.st).mono ?_
          rintro e V2 ⟨rfl, s2, k2⟩
          obtain ⟨o2, d2⟩ := T1.out.turn k2
          rcases add_ways (P := 32) (c := c) L q with ⟨q1, q2⟩ | ⟨i, q0, _, q1, q2⟩
          · rw [q2] at s2
            have T2 := Lib.hid (show On w V2 p a g c L bo ba out add all n from ⟨s2, o2, d2, T1.out.inv, T1.out.lo, T1.out.la, T1.out.ne⟩)
            have q3 : (addC 32 L (q : Int) == 0) = false := by simpa using q1
            generalize addC 32 L (q : Int) = code at *
            clear s2 o2 d2 k2 q1 q2 T1
            go_wp2_with fail
            have sm := T2.out.inv.sum
            have ln := T2.out.len
            refine (st_len T2.out.st).mono ?_
            rintro e V9 ⟨rfl, k9⟩
            have Y := Lib.hid (T2.out.old k9)
            rw [show ((lenL L : Nat) : Int) = (all : Int) - (n : Int) by omega]
            have wan : IntKind.i64.wrap ((all : Int) - (n : Int)) = (all : Int) - (n : Int) := IntWalk.i64_in _ (by omega)
            clear k9 sm
            go_wp2
            refine ⟨⟨k + 2, _, _, _, all, n, by omega, by go_num, rfl, rfl, Y⟩, ?_⟩
            simp [intOf]; omega
          · rw [q2] at s2
            rw [q1]
            obtain ⟨all2, hall2⟩ : ∃ all2, all + perN c = all2 := ⟨_, rfl⟩
            have wa : IntKind.i64.wrap ((all : Int) + ((perN c : Nat) : Int)) = (all2 : Int) := by rw [IntWalk.i64_in _ (by omega)]; omega
            have iv := T1.out.inv.addL (i := i) hc j4'
            rw [hall2, HQ.out] at iv
            have T2 := Lib.hid (show On w (V2.setCell ⟨ba, j, none⟩ (.bool true)) p a g c (insQ c L i q) bo ba out (upd add j true) all2 n from ⟨s2.row (.inr rfl) T1.out.la j _, o2.kept (only_setCell V2 ba j (.bool true)) T1.out.ne, d2.put j true, iv, T1.out.lo, T1.out.la, T1.out.ne⟩)
            have cj2 := d2.cell j4'
            have fj2 := d2.frozen j
            clear s2 o2 d2 k2 q0 q1 q2 T1 iv hall2
            go_wp2_with fail
            have sm := T2.out.inv.sum
            have ln := T2.out.len
            refine (st_len T2.out.st).mono ?_
            rintro e V9 ⟨rfl, k9⟩
            have Y := Lib.hid (T2.out.old k9)
            rw [show ((lenL (insQ c L i q) : Nat) : Int) = (all2 : Int) - (n : Int) by omega]
            have wan : IntKind.i64.wrap ((all2 : Int) - (n : Int)) = (all2 : Int) - (n : Int) := IntWalk.i64_in _ (by omega)
            clear k9 sm
            go_wp2
            refine ⟨⟨k + 2, _, _, _, all2, n, by omega, by go_num, rfl, rfl, Y⟩, ?_⟩
            simp [intOf]; omega
      · have e1 : ((x : Int) % 8 == 0) = false := by simp only [beq_eq_false_iff_ne, ne_eq]; omega
        by_cases e2 : x % 8 < 6
        · have e3 : decide ((x : Int) % 8 < 6) = true := decide_eq_true (by omega)
          clear e0 e2
          go_wp2_with fail
          refine (st_take T1.out.st).mono ?_
          rintro e V2 ⟨rfl, s2, k2⟩
          obtain ⟨o2, d2⟩ := T1.out.turn k2
          rcases take_ways L with ⟨q1, q2, q3, q4⟩ | ⟨i, pg, b, r, q1, q2, q3, q4, q5, q6⟩
          · rw [q2, q3]
            rw [q4] at s2
            have T2 := Lib.hid (show On w V2 p a g c L bo ba out add all n from ⟨s2, o2, d2, T1.out.inv, T1.out.lo, T1.out.la, T1.out.ne⟩)
            have nall : decide ((n : Int) < (all : Int)) = false := decide_eq_false (by have := T1.out.inv.sum; unfold lenL at this; rw [q1] at this; simp at this; omega)
            have nall2 : decide (n < all) = false := decide_eq_false (by have := of_decide_eq_false nall; omega)
            have nall3 : ¬ n < all := of_decide_eq_false nall2
            clear s2 o2 d2 k2 q1 q2 q3 q4 T1
            go_wp2_with fail
            have sm := T2.out.inv.sum
            have ln := T2.out.len
            refine (st_len T2.out.st).mono ?_
            rintro e V9 ⟨rfl, k9⟩
            have Y := Lib.hid (T2.out.old k9)
            rw [show ((lenL L : Nat) : Int) = (all : Int) - (n : Int) by omega]
            have wan : IntKind.i64.wrap ((all : Int) - (n : Int)) = (all : Int) - (n : Int) := IntWalk.i64_in _ (by omega)
            clear k9 sm
            go_wp2
            refine ⟨⟨k + 2, _, _, _, all, n, by omega, by go_num, rfl, rfl, Y⟩, ?_⟩
            simp [intOf]; omega
          · rw [q3, q4]
            rw [q5] at s2
            obtain ⟨f1, f2, f3, f4, f5, f6, iv⟩ := T1.out.inv.takes gd.out q2
            have T2 := Lib.hid (show On w (V2.setCell ⟨bo, b, none⟩ (.bool true)) p a g c (L.set i ⟨pg, r⟩) bo ba (upd out b true) add all (n + 1) from ⟨s2.row (.inl rfl) T1.out.lo b _, o2.put b true, d2.kept (only_setCell V2 bo b (.bool true)) (fun e => T1.out.ne e.symm), iv, T1.out.lo, T1.out.la, T1.out.ne⟩)
            have co := o2.cell f1
            have fo := o2.frozen b
            have ca := d2.cell f3
            rw [f4] at co
            rw [f5] at ca
            have nall : decide ((n : Int) < (all : Int)) = true := decide_eq_true (by omega)
            have bm : (b : Int) % ((wN c : Nat) : Int) = 0 := by omega
            have bq : (b : Int) / 512 = ((b / 512 : Nat) : Int) := by omega
            have bI : (b : Int) < 2048 := by omega
            have bJ : ((b / 512 : Nat) : Int) < 4 := by omega
            have wbq : IntKind.i64.wrap ((b / 512 : Nat) : Int) = ((b / 512 : Nat) : Int) := IntWalk.i64_in _ (by omega)
            have wn1 : IntKind.i64.wrap ((n : Int) + 1) = (n : Int) + 1 := IntWalk.i64_in _ (by omega)
            generalize b / 512 = bq' at *
            obtain ⟨n2, hn2⟩ : ∃ n2, n + 1 = n2 := ⟨_, rfl⟩
            rw [hn2] at T2
            have hn2' : (n : Int) + 1 = (n2 : Int) := by omega
            clear s2 o2 d2 k2 q1 q2 q3 q4 q5 q6 T1 iv f2 f4 f5 hn2
            go_wp2_with fail
            have sm := T2.out.inv.sum
            have ln := T2.out.len
            refine (st_len T2.out.st).mono ?_
            rintro e V9 ⟨rfl, k9⟩
            have Y := Lib.hid (T2.out.old k9)
            rw [show ((lenL (L.set i ⟨pg, r⟩) : Nat) : Int) = (all : Int) - (n2 : Int) by omega]
            have wan : IntKind.i64.wrap ((all : Int) - (n2 : Int)) = (all : Int) - (n2 : Int) := IntWalk.i64_in _ (by omega)
            clear k9 sm
            go_wp2
            refine ⟨⟨k + 2, _, _, _, all, n2, by omega, by go_num, rfl, rfl, Y⟩, ?_⟩
            simp [intOf]; omega
        · have e3 : decide ((x : Int) % 8 < 6) = false := decide_eq_false (by omega)
          clear e0 e2
          obtain ⟨m, hm⟩ : ∃ m, y * 8 = m := ⟨_, rfl⟩
          have m1 : m < 2048 := by omega
          have wm : IntKind.i64.wrap ((y : Int) * 8) = (m : Int) := by rw [IntWalk.i64_in _ (by omega)]; omega
          have mI : (m : Int) < 2048 := by omega
          clear hm
          go_wp2_with fail
          refine (st_put (m : Int) T1.out.st).mono ?_
          rintro e V2 ⟨rfl, s2, k2⟩
          obtain ⟨o2, d2⟩ := T1.out.turn k2
          have co := o2.cell m1
          have fo := o2.frozen m
          rcases put_ways (c := c) L m with ⟨q1, q2, q3, q4⟩ | ⟨i, x', q0, q1, q2, q3, q4, q5⟩
          · rw [q3] at s2
            rw [q2]
            have om := T1.out.inv.not_out gd.out m1 q4
            rw [om] at co
            have T2 := Lib.hid (show On w V2 p a g c L bo ba out add all n from ⟨s2, o2, d2, T1.out.inv, T1.out.lo, T1.out.la, T1.out.ne⟩)
            have q5 : (putC c L (m : Int) == 0) = false := by simpa using q1
            generalize putC c L (m : Int) = code at *
            generalize putP c L (m : Int) = pgx at *
            clear s2 o2 d2 k2 q1 q2 q3 q4 T1 om
            go_wp2_with fail
            have sm := T2.out.inv.sum
            have ln := T2.out.len
            refine (st_len T2.out.st).mono ?_
            rintro e V9 ⟨rfl, k9⟩
            have Y := Lib.hid (T2.out.old k9)
            rw [show ((lenL L : Nat) : Int) = (all : Int) - (n : Int) by omega]
            have wan : IntKind.i64.wrap ((all : Int) - (n : Int)) = (all : Int) - (n : Int) := IntWalk.i64_in _ (by omega)
            clear k9 sm
            go_wp2
            refine ⟨⟨k + 2, _, _, _, all, n, by omega, by go_num, rfl, rfl, Y⟩, ?_⟩
            simp [intOf]; omega
          · obtain ⟨f1, f2, f3, f4, f5, f6⟩ := T1.out.inv.puts gd.out q0 q1 q2
            rw [f1] at co
            rw [q4]
            have bm : (m : Int) % ((wN c : Nat) : Int) = 0 := by omega
            have bq : (m : Int) / 512 = ((m / 512 : Nat) : Int) := by omega
            have bJ : ((m / 512 : Nat) : Int) < 4 := by omega
            have wbq : IntKind.i64.wrap ((m / 512 : Nat) : Int) = ((m / 512 : Nat) : Int) := IntWalk.i64_in _ (by omega)
            obtain ⟨n2, hn2⟩ : ∃ n2, n - 1 = n2 := ⟨_, rfl⟩
            have hn2' : (n : Int) - 1 = (n2 : Int) := by omega
            have wn1 : IntKind.i64.wrap ((n : Int) - 1) = (n2 : Int) := by rw [IntWalk.i64_in _ (by omega)]; omega
            generalize putP c L (m : Int) = pgx at *
            have o3 := o2.put m false
            have d3 := d2.kept (only_setCell V2 bo m (.bool false)) (fun e => T1.out.ne e.symm)
            have s3 := s2.row (.inl rfl) T1.out.lo m (.bool false)
            rcases q5 with ⟨r1, r2, r3⟩ | ⟨r1, r2, r3⟩
            · rw [r2]
              rw [r3] at s3
              obtain ⟨f7, iv⟩ := f6 r1
              rw [hn2] at iv
              obtain ⟨all2, hall2⟩ : ∃ all2, all - perN c = all2 := ⟨_, rfl⟩
              rw [hall2] at iv
              have wa : IntKind.i64.wrap ((all : Int) - ((perN c : Nat) : Int)) = (all2 : Int) := by rw [IntWalk.i64_in _ (by omega)]; omega
              have T2 := Lib.hid (show On w ((V2.setCell ⟨bo, m, none⟩ (.bool false)).setCell ⟨ba, m / 512, none⟩ (.bool false)) p a g c (L.take i ++ L.drop (i + 1)) bo ba (upd out m false) (upd add (m / 512) false) all2 n2 from ⟨s3.row (.inr rfl) T1.out.la _ _, o3.kept (only_setCell _ ba _ (.bool false)) T1.out.ne, d3.put _ false, iv, T1.out.lo, T1.out.la, T1.out.ne⟩)
              have ca := d3.cell f3
              have fa := d3.frozen (m / 512)
              generalize m / 512 = bq' at *
              clear s2 o2 d2 k2 q0 q1 q2 q3 q4 T1 iv f1 f2 f4 f5 f6 f7 r1 r2 r3 o3 d3 s3 hall2 hn2
              go_wp2_with fail
              have sm := T2.out.inv.sum
              have ln := T2.out.len
              refine (st_len T2.out.st).mono ?_
              rintro e V9 ⟨rfl, k9⟩
              have Y := Lib.hid (T2.out.old k9)
              rw [show ((lenL (L.take i ++ L.drop (i + 1)) : Nat) : Int) = (all2 : Int) - (n2 : Int) by omega]
              have wan : IntKind.i64.wrap ((all2 : Int) - (n2 : Int)) = (all2 : Int) - (n2 : Int) := IntWalk.i64_in _ (by omega)
              clear k9 sm
              go_wp2
              refine ⟨⟨k + 2, _, _, _, all2, n2, by omega, by go_num, rfl, rfl, Y⟩, ?_⟩
              simp [intOf]; omega
            · rw [r2]
              rw [r3] at s3
              have iv := f5 r1
              rw [hn2] at iv
              have T2 := Lib.hid (show On w (V2.setCell ⟨bo, m, none⟩ (.bool false)) p a g c (L.set i ⟨x'.page, m :: x'.free⟩) bo ba (upd out m false) add all n2 from ⟨s3, o3, d3, iv, T1.out.lo, T1.out.la, T1.out.ne⟩)
              clear s2 o2 d2 k2 q0 q1 q2 q3 q4 T1 iv f1 f2 f3 f4 f5 f6 r1 r2 r3 o3 d3 s3 hn2
              go_wp2_with fail
              have sm := T2.out.inv.sum
              have ln := T2.out.len
              refine (st_len T2.out.st).mono ?_
              rintro e V9 ⟨rfl, k9⟩
              have Y := Lib.hid (T2.out.old k9)
              rw [show ((lenL (L.set i ⟨x'.page, m :: x'.free⟩) : Nat) : Int) = (all : Int) - (n2 : Int) by omega]
              have wan : IntKind.i64.wrap ((all : Int) - (n2 : Int)) = (all : Int) - (n2 : Int) := IntWalk.i64_in _ (by omega)
              clear k9 sm
              go_wp2
              refine ⟨⟨k + 2, _, _, _, all, n2, by omega, by go_num, rfl, rfl, Y⟩, ?_⟩
              simp [intOf]; omega
    · have cc : ¬ (k : Int) + 1 < (len1 : Int) ∨ ((k : Int) + 1 < (len1 : Int) ∧ ¬ (k : Int) < 500) := by omega
      have K := Lib.hid T1.out.st.kept
      clear ck hz HS T1
      rcases cc with ca | ⟨ca, cb⟩
      all_goals
        go_wp2_with fail
        refine (awake_any _).mono ?_
        rintro e w9 ⟨rfl, k9⟩
        go_wp2_with fail
        go_ret
        exact ⟨rfl, K.out.trans k9⟩

/-- The row's step. -/
theorem lifted (os : Os) (started : os.Started) (H : Type) (enc : TypeId × Value → H) :
    ReturnsInHanded {} Try.checked os 5 .any (Rows.poolOnceSpec.pre6 enc Try.prog Try.f5 Rows.poolOnceRow.domain false) (Rows.poolOnceSpec.post enc Try.prog Try.f5 false true false false) := by
  refine returnsInHanded_of_change (C := Try.checked) own started (by kernel_rfl) Try.func5
    (ChangeSpec.witness6 (enc := enc) (C := Try.checked) false ⟨#[], #[.int .u8 0, .slice none 0 0], []⟩ 8 (by kernel_rfl) (by kernel_rfl) (by kernel_rfl) (by kernel_rfl)) ?_
  intro W base args ds gs before hval0 hW hcnd _
  have hval : ∀ (j : Nat) t v, Try.f5.params[j]? = some t → args[j]? = some v → Value.okWide Try.prog W .any base t v := hval0
  have hW' := hW
  obtain ⟨p, q, hA0, hV, rfl, hfz, hnd⟩ := hW
  have hA : DataW.TrodAll enc Try.prog W 0 (fun _ => true) true Try.f5.params.toList args.toList ds p := hA0
  rw [Try.params5] at hA hval
  obtain ⟨v0, vs0, d0, ds0, p0, q0, hargs, rfl, rfl, h0, r0⟩ := trodAll_cons hA
  obtain ⟨v1, vs1, d1, ds1, p1, q1, rfl, rfl, rfl, h1, r1⟩ := trodAll_cons r0
  obtain ⟨rfl, rfl, rfl⟩ := trodAll_nil r1
  obtain rfl : args = #[v0, v1] := by cases args; simp_all
  obtain ⟨rfl, rfl⟩ := trodVars_none hV
  obtain ⟨a0, rfl, rfl, rfl, w0⟩ := open_int Try.underlying5 (hval 0 5 v0 rfl rfl) h0
  have k1 := h1
  have lt1 : ∀ x ∈ p1, x.block < W.heap.size := by obtain ⟨m, hm⟩ := k1; exact DataW.trod_lt m _ _ _ hm
  obtain ⟨a1, len1, cap1, rfl⟩ := okWide_slice Try.underlying22 (hval 1 22 v1 rfl rfl)
  obtain ⟨z1, w1⟩ := ints_in Try.underlying22 Try.underlying5 (by kernel_rfl) h1
  clear hA0 hval0
  refine (walk a0 a1 len1 cap1 z1 W w0 w1).mono fun e W' ⟨he, kept⟩ => ?_
  subst he
  have bel : Below W.heap.size W W' := kept.toBelow (Nat.le_refl _) (fun _ x => x.elim)
  exact ⟨_, rfl, _, _, _, [], _, [], hW', trodAll_mk1 (shut_bool Try.underlying4 _), (trodAll_cons_mk (shut_int Try.underlying5 w0) (trodAll_cons_mk (Below.trod laidOut (by kernel_rfl) (of_decide_eq_true (by kernel_rfl)) k1 bel lt1) trodAll_mk0)), rfl, bel.frame _, fun h => by cases h⟩

theorem over : Rows.PoolOnceSaid :=
  OpenClaim.holds_of_wide 5 Try.f5 rfl rfl rfl rfl rfl rfl rfl ⟨rfl, rfl, rfl, rfl, rfl⟩ rfl rfl rfl rfl rfl (by kernel_rfl) Try.func5 (by kernel_rfl)
    (of_decide_eq_true (by kernel_rfl)) (by unfold Func.isWrapper; first | (rw [if_pos (by decide +kernel)]; kernel_rfl) | (rw [if_neg (by decide +kernel)]; exact ⟨rfl, rfl⟩))
    (fun os started H enc _ => lifted os started H enc)

/-- The statement. -/
theorem proved : Rows.PoolOnceSaid := over
#print axioms proved
end Go.Proofs.Ytmkkkifigeaalaa.poolOnce
