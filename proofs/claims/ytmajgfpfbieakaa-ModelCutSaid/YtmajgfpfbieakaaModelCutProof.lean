/-
  For every input the law ModelCut of rickyard/rickyardlaw13 returns true, and its arguments read afterwards as before. The law's own sentence: In two goes deeds are accepted as in one; behind the first that is not nothing counts. No further conditions.
-/
import Derived.Test.YtmajgfpfbieakaaRows
import Derived.Test.YtmajgfpfbieakaaKept
import Derived.Test.YtmajgfpfbieakaaShell
import Derived.Test.YtmajgfpfbieakaaShellSized
import Derived.SizedLaws
import Derived.Test.YtmajgfpfbieakaaShellInts
import Derived.WalkKit
import Derived.ProofKit
import Derived.OpenShut
import Derived.ChangeOld
import Derived.Below
import Derived.Lib.SmallJoins
import Derived.Test.YtmajgfpfbieakaaDeedsMade
import Derived.Test.YtmajgfpfbieakaaModelLaw
import Derived.Test.YtmajgfpfbieakaaDeedsCut
import Derived.WalkKit
import Derived.ProofKit
import Derived.OpenShut
import Derived.Outline
import Derived.Deep.Light
import Derived.Deep.QuietTactic
import Derived.BigQuiet
import Derived.IntWalk
import Derived.StillTailTactics
import Derived.RegionTactic
import Derived.Deep.RegionLaw
import Derived.Deep.RegionHeld3
import Derived.Deep.CutRange
namespace Go.Proofs.Ytmajgfpfbieakaa.modelCut
open Go.ChangeShapes Go.WideShapes Go.ChangeAt Go.RowKit
set_option linter.unusedVariables false
set_option maxRecDepth 100000

theorem own : ownKnob Try.prog.godebug = none := by kernel_rfl
theorem laidOut : laidOutB Try.prog = true := by kernel_rfl
theorem made_kept {L : List Lm.D} {w w' : World} {v : Value} (h : Lm.MadeD L w v w') : Kept Old w w' := by
  obtain ⟨_, _, _, _, _, _, _, k⟩ := h
  exact k
theorem accK_le (W : Int) : ∀ (ds : List Lm.D) (l : List Lm.S), Lm.accK W l ds ≤ ds.length
  | [], _ => Nat.le_refl _
  | d :: t, l => by
    rw [Lm.accK_cons]
    have := accK_le W t (Lm.accL W l d)
    split
    · simp; omega
    · omega
theorem mod_in (b : Int) (n : Nat) (h : 0 ≤ b) : ∃ j : Nat, b.tmod ((n : Int) + 1) = (j : Int) ∧ j ≤ n := by
  have q0 := Int.emod_nonneg b (show (n : Int) + 1 ≠ 0 by omega)
  have q1 := Int.emod_lt_of_pos b (show (0 : Int) < (n : Int) + 1 by omega)
  refine ⟨(b % ((n : Int) + 1)).toNat, ?_, by omega⟩
  rw [Int.tmod_eq_emod_of_nonneg h]
  omega
theorem deed_tail (A : Option Addr) (n c j : Nat) (ds : List Lm.D) (X : World) (h : Lm.RsD X A n ds) (hj : j ≤ n) (hc : n ≤ c) (hA : A = none → c = 0) :
    ∃ A' : Option Addr, (∀ W, (Instr.slice 30 (.slice A n c) (some (.int .i64 (j : Int))) none none).run Try.prog W = .ok (.slice A' (n - j) (c - j)) W) ∧ Lm.RsD X A' (n - j) (ds.drop j) := by
  have hu : Try.prog.underlying 30 = some (.slice (Try.prog.elem 30)) := by kernel_rfl
  have hs : ∀ W, (sizeOf (Try.prog.elem 30)).run Try.prog W = .ok 4 W := fun W => by kernel_rfl
  have run : ∀ W, (Instr.slice 30 (.slice A n c) (some (.int .i64 (j : Int))) none none).run Try.prog W = .ok (sliced A j n c 4) W := fun W => by
    rw [run_slice_l (P := Try.prog) W 30 A n c hu .i64 (j : Int) (by omega) (by omega), hs]
    rfl
  cases A with
  | none =>
    obtain rfl := hA rfl
    obtain rfl : n = 0 := by omega
    obtain rfl : j = 0 := by omega
    obtain rfl : ds = [] := List.eq_nil_of_length_eq_zero h.len
    exact ⟨none, fun W => (run W).trans rfl, h⟩
  | some ad =>
    by_cases hcj : c = j
    · obtain rfl : n = j := by omega
      refine ⟨some ad, fun W => (run W).trans ?_, ?_⟩
      · unfold sliced
        rw [if_pos hcj]
      · rw [Nat.sub_self, List.drop_of_length_le (by have := h.len; omega)]
        exact Lm.RsD.nil _ _
    · refine ⟨some (ad.add (j * 4)), fun W => (run W).trans ?_, ?_⟩
      · unfold sliced
        rw [if_neg hcj]
        rfl
      · by_cases z : j < n
        · obtain ⟨g, o, _, e, _⟩ := h.get (k := 0) (by omega)
          injection e with e
          subst e
          refine h.drop _ (fun _ => ?_)
          rw [addr_add]
        · obtain rfl : n = j := by omega
          rw [Nat.sub_self, List.drop_of_length_le (by have := h.len; omega)]
          exact Lm.RsD.nil _ _

set_option maxHeartbeats 3000000 in
/-- The walk: the Go text returns true, and nothing that was there has turned. -/
theorem walk (a0 : Int) (a1 : Option Addr) (len1 cap1 : Nat) (z1 : Nat → Int) (a2 : Int) (w : World) (w0 : (Lit.int .u16 a0).wf = true) (w1 : len1 ≤ cap1 ∧ cap1 ≤ maxLen ∧ (∀ i, i < len1 → (Lit.int .u8 (z1 i)).wf = true) ∧ Sl w a1 1 len1 fun i _ => .int .u8 (z1 i)) (rch1 : cap1 * 1 ≤ 140737488351232 ∧ (a1 = none → len1 = 0 ∧ cap1 = 0)) (w2 : (Lit.int .u8 a2).wf = true) :
    Calls Try.prog 7 #[.int .u16 a0, .slice a1 len1 cap1, .int .u8 a2] w fun e w' => e = .returned (.bool true) ∧ Kept Old w w' := by
  obtain ⟨n0, n1, nz, ns⟩ := w1
  have b0 := bounds_u16 w0
  have b2 := bounds_u8 w2
  obtain ⟨Wd, hW, hW'⟩ : ∃ R : Int, a0.tmod 4097 = R ∧ a0 % 4097 = R := ⟨_, Int.tmod_eq_emod_of_nonneg b0.1, rfl⟩
  have wd0 : 0 ≤ Wd := by omega
  have wd1 : Wd ≤ 16384 := by omega
  have u0 : IntKind.i64.wrap a0 = a0 := IntWalk.i64_in _ (by omega)
  have ml : len1 ≤ 9223372036854775000 := by have := rch1.1; omega
  have CD := Lib.hid (fun X h => Lm.deeds_any Wd a1 len1 cap1 z1 X ml wd0 wd1 (fun i hi => bounds_u8 (nz i hi)) h)
  have DL := Lm.deedsL_len Wd z1 len1
  have NS := Lib.hid ns
  generalize Lm.deedsL Wd z1 len1 = ds at *
  have VN := Lib.hid (Lm.Valid.nil wd0 wd1)
  obtain ⟨j, hj, hjl⟩ := mod_in a2 ds.length b2.1
  have u2 : IntKind.i64.wrap a2 = a2 := IntWalk.i64_in _ (by omega)
  have u3 : IntKind.i64.wrap ((ds.length : Int) + 1) = (ds.length : Int) + 1 := IntWalk.i64_in _ (by omega)
  have jn : (j : Int) ≤ (ds.length : Int) := by omega
  have nz1 : (ds.length : Int) + 1 ≠ 0 := by omega
  clear n1 nz ns hW' b0 w0 w2 b2
  go_enter Try.func7, Try.ntmps7
  go_wp2_with fail
  refine (CD.out _ NS.out).mono ?_
  rintro e w1 ⟨v, rfl, M1, O1⟩
  have K1 := Lib.hid (made_kept M1)
  have O1 := Lib.hid O1
  clear M1
  obtain ⟨A3, c3, rfl, R3, hc3, hA3⟩ := O1.out.rs
  have R3 := Lib.hid R3
  have jc : j ≤ c3 := by omega
  go_wp2_with fail
  refine (Lm.new_any Wd _).mono ?_
  rintro e w5 ⟨rfl, k5⟩
  have K5 := Lib.hid (K1.out.trans k5)
  have R5 := Lib.hid (R3.out.old k5)
  clear k5
  go_wp2_with fail
  refine (Lm.accepts_any Wd none 0 0 [] A3 ds.length c3 ds _ (Lm.RsS.nil _ _) VN.out (Nat.le_refl _) (fun _ => rfl) R5.out (by omega)).mono ?_
  rintro e w6 ⟨v6, rfl, A6, n6, c6, rfl, T6, hc6, q6, k6⟩
  have k6 := k6.alloc (.cells #[.int .i64 Wd, .slice A6 n6 c6] 24)
  have K6 := Lib.hid (K5.out.trans k6)
  have R6 := Lib.hid (R5.out.old k6)
  have T6 := Lib.hid (T6.alloc (.cells #[.int .i64 Wd, .slice A6 n6 c6] 24))
  have B6 := Lib.hid (Lm.Bm.new w6 Wd (.slice A6 n6 c6))
  clear k6
  go_wp2_with fail
  go_upto_region 5 with fail
  have s6 := Blk.lt B6.out
  generalize hs6 : w6.heap.size = b6 at *
  generalize hW6 : w6.alloc (.cells #[.int .i64 Wd, .slice A6 n6 c6] 24) = W6 at *
  have RT := Lib.hid (R6.out.take hjl)
  have AT := Lib.hid (fun X (q : Kept Old W6 X) => Lm.accepts_any Wd none 0 0 [] A3 j c3 (ds.take j) X (Lm.RsS.nil _ _) VN.out (Nat.le_refl _) (fun _ => rfl) (RT.out.old q) (by omega))
  go_cut [13, 14, 15] from 19 to 97 (fun s13 s14 s15 wx => ∃ (b : Nat) (A : Option Addr) (n c : Nat), s13 = Lm.ptr b ∧ s14 = .int .i64 (Lm.accK Wd [] (ds.take j) : Int) ∧ s15 = .bool (Lm.accF Wd [] (ds.take j)) ∧ Hid (Lm.Bm wx b Wd (.slice A n c)) ∧ Hid (Lm.RsS wx A n (Lm.accM Wd [] (ds.take j))) ∧ Hid (n ≤ c ∧ (A = none → c = 0)) ∧ Hid (Kept Old W6 wx))
  case first =>
    have KA := Lib.hid ((Kept.refl Old W6).alloc (.cells #[.int .i64 0, .slice none 0 0] 24)).drew
    go_region_with (first
      | (go_at_call 15; refine (Lm.new_any Wd _).mono ?_; rintro e w7 ⟨rfl, k7⟩; have BX7 := Lib.hid (Lm.Bm.old (w' := w7) (show Lm.Bm _ W6.heap.size 0 (.slice none 0 0) from Lm.Bm.new W6 0 (.slice none 0 0)) ⟨k7.os, k7.tape, k7.output, k7.size, k7.block⟩); have kk7 : Kept Old W6 w7 := KA.out.trans k7; have y0 := BX7.out.c0; have y1 := BX7.out.c1; have g0 := BX7.out.f0; have g1 := BX7.out.f1; have ly := Blk.lt BX7.out)
      | (go_at_call 15; refine (Lm.new_any Wd _).mono ?_; rintro e w7 ⟨rfl, k7⟩; have kk7 : Kept Old W6 w7 := Kept.trans (by first | exact Kept.refl Old W6 | exact (Kept.refl Old W6).drew) k7)
      | (go_at_call 14; refine (AT.out _ (kk7.alloc (.cells #[.int .i64 0, .slice none 0 0] 24))).mono ?_; rintro e w8 ⟨v8, rfl, A8, n8, c8, rfl, T8, hc8, q8, k8⟩; have BX8 := Lib.hid (Lm.Bm.old (Lm.Bm.new w7 0 (.slice none 0 0)) k8); have kk8 := (kk7.alloc (.cells #[.int .i64 0, .slice none 0 0] 24)).trans k8; have y0 := BX8.out.c0; have y1 := BX8.out.c1; have g0 := BX8.out.f0; have g1 := BX8.out.f1; have ny : ∀ ad, A8 = some ad → ad.block ≠ w7.heap.size := fun ad e => (by have := q8.2 ad e; simp at this; omega))
      | (go_at_call 14; refine (AT.out _ kk7).mono ?_; rintro e w8 ⟨v8, rfl, A8, n8, c8, rfl, T8, hc8, q8, k8⟩; have BX8 := Lib.hid (BX7.out.old k8); have kk8 := kk7.trans k8; have y0 := BX8.out.c0; have y1 := BX8.out.c1; have g0 := BX8.out.f0; have g1 := BX8.out.f1; have ny : ∀ ad, A8 = some ad → ad.block ≠ W6.heap.size := fun ad e => (by have := q8.2 ad e; omega))
      | (go_at_call 14; refine (AT.out _ kk7).mono ?_; rintro e w8 ⟨v8, rfl, A8, n8, c8, rfl, T8, hc8, q8, k8⟩; have kk8 := kk7.trans k8))
    all_goals
      go_wp2_with fail
      go_meet
      first
        | exact ⟨_, A8, n8, c8, rfl, rfl, rfl, Lib.hid (Lm.Bm.new w8 Wd (.slice A8 n8 c8)), Lib.hid (T8.alloc _), Lib.hid ⟨hc8, q8.1⟩, Lib.hid (kk8.alloc _)⟩
        | exact ⟨_, A8, n8, c8, rfl, rfl, rfl, Lib.hid (BX8.out.put2 _ _), Lib.hid (T8.kept (Lm.put2_kept _ _ _ _) (fun ad e q => ny ad e q)), Lib.hid ⟨hc8, q8.1⟩, Lib.hid (kk8.join (Lm.put2_kept _ _ _ _) (fun i hi e => Nat.lt_irrefl i (Nat.lt_of_lt_of_le hi (by first | exact Nat.le_of_eq (Eq.symm e) | exact Nat.le_trans kk7.size (Nat.le_of_eq (Eq.symm e))))))⟩
  case rest =>
    obtain ⟨b, A, n, c, rfl, rfl, rfl, BB, TB, NB, KB⟩ := hcut
    rename World => W9
    have B6 := Lib.hid (B6.out.old KB.out)
    have T6 := Lib.hid (T6.out.old KB.out)
    have R9 := Lib.hid (R6.out.old KB.out)
    have K9 := Lib.hid (K6.out.trans KB.out)
    have y0 := B6.out.c0
    have y1 := B6.out.c1
    have x0 := BB.out.c0
    have x1 := BB.out.c1
    have VT := Lib.hid (Lm.Valid.accM (ds.take j) VN.out)
    have VD := Lib.hid (Lm.Valid.accM ds VN.out)
    clear AT RT
    rcases Lm.acc_two Wd ds j [] hjl with ⟨hf, hm, hn, hg⟩ | ⟨hf, hk, hm, hn, hg⟩
    · rw [hm] at T6
      have SM := Lib.hid (fun X a b => Lm.samem_yes Wd A6 A n6 n c6 c (Lm.accM Wd [] (ds.take j)) X a b (by have := T6.out.len; have := VT.out.len; omega))
      clear hm
      go_wp2_with (first
        | (go_at_call 17; refine (SM.out _ T6.out TB.out).mono ?_; rintro e w10 ⟨rfl, k10⟩; have K10 := Lib.hid (K9.out.trans k10))
        | (go_at_call 9; refine (Lm.awake_any _).mono ?_; rintro e w11 ⟨rfl, k11⟩; have K11 := Lib.hid (K10.out.trans k11)))
      go_ret
      exact ⟨rfl, K11.out⟩
    · have kl := accK_le Wd (ds.drop j) (Lm.accM Wd [] (ds.take j))
      have kl2 : (ds.drop j).length ≤ 100 := by simp; omega
      have hk' : ((Lm.accK Wd [] (ds.take j) : Nat) : Int) = (j : Int) := by rw [hk]
      rw [hm] at T6
      have SM := Lib.hid (fun X a' n' c' a => fun b => Lm.samem_yes Wd A6 a' n6 n' c6 c' (Lm.accM Wd (Lm.accM Wd [] (ds.take j)) (ds.drop j)) X a b (by have := T6.out.len; have := (Lm.Valid.accM (ds.drop j) VT.out).len; omega))
      obtain ⟨A', hsl, RD⟩ := deed_tail A3 ds.length c3 j ds W9 R9.out hjl hc3 hA3
      have RD := Lib.hid RD
      have AC := Lib.hid (fun X (q : Kept Old W9 X) => Lm.accepts_any Wd A n c (Lm.accM Wd [] (ds.take j)) A' (ds.length - j) (c3 - j) (ds.drop j) X (TB.out.old q) VT.out NB.out.1 NB.out.2 (RD.out.old q) (by omega))
      have lb := Blk.lt BB.out
      generalize Lm.accM Wd (Lm.accM Wd [] (ds.take j)) (ds.drop j) = M2 at *
      generalize Lm.accK Wd (Lm.accM Wd [] (ds.take j)) (ds.drop j) = K2 at *
      generalize Lm.accF Wd (Lm.accM Wd [] (ds.take j)) (ds.drop j) = F2 at *
      have wr : IntKind.i64.wrap ((j : Int) + (K2 : Int)) = (j : Int) + (K2 : Int) := IntWalk.i64_in _ (by omega)
      have hn' : ((Lm.accK Wd [] ds : Nat) : Int) = (j : Int) + (K2 : Int) := by rw [hn]; omega
      clear hn hm hk kl kl2
      go_upto_region 8 with fail
      have HN := Lib.hid hn'
      have HG := Lib.hid hg
      have HF := Lib.hid hf
      have HK := Lib.hid hk'
      have HWR := Lib.hid wr
      clear hn' hg hf hk' wr
      go_cut [16, 17, 18] from 19 to 97 (fun s16 s17 s18 wx => ∃ (b2 : Nat) (A8 : Option Addr) (n8 c8 : Nat), s16 = Lm.ptr b2 ∧ s17 = .int .i64 (K2 : Int) ∧ s18 = .bool F2 ∧ Hid (Lm.Bm wx b2 Wd (.slice A8 n8 c8)) ∧ Hid (Lm.RsS wx A8 n8 M2) ∧ Hid (Kept Old W9 wx))
      case first =>
        have KA8 := Lib.hid ((Kept.refl Old W9).alloc (.cells #[.int .i64 0, .slice none 0 0] 24)).drew
        have BN := Lib.hid (Lm.Bm.new W9 0 (.slice none 0 0))
        have b9 : b ≠ W9.heap.size := by omega
        go_region_with (first
          | (go_at_call 14; ((with_reducible refine (AC.out _ (Kept.refl Old W9).drew).mono ?_); rintro e V2 ⟨v2, rfl, A8, n8, c8, rfl, T8, hc8, q8, k2⟩; have k3 : Kept Old W9 V2 := (Kept.refl Old W9).drew.trans k2; have T8 := Lib.hid T8; clear k2))
          | (go_at_call 14; ((with_reducible refine (AC.out _ KA8.out).mono ?_); rintro e V2 ⟨v2, rfl, A8, n8, c8, rfl, T8, hc8, q8, k2⟩; have k3 : Kept Old W9 V2 := KA8.out.trans k2; have BX8 := Lib.hid (BN.out.old (Kept.trans (Kept.refl Old _).drew k2)); have y0 := BX8.out.c0; have y1 := BX8.out.c1; have g0 := BX8.out.f0; have g1 := BX8.out.f1; have ny : ∀ ad, A8 = some ad → ad.block ≠ W9.heap.size := fun ad e => (by have := q8.2 ad e; simp [World.drew] at this; omega); have T8 := Lib.hid T8; clear k2)))
        all_goals
          go_wp2_with fail
          go_meet
          first
            | exact ⟨_, A8, n8, c8, rfl, rfl, rfl, Lib.hid (Lm.Bm.new V2 Wd (.slice A8 n8 c8)), Lib.hid (T8.out.alloc _), Lib.hid (k3.alloc _)⟩
            | exact ⟨_, A8, n8, c8, rfl, rfl, rfl, Lib.hid (BX8.out.put2 _ _), Lib.hid (T8.out.kept (Lm.put2_kept _ _ _ _) (fun ad e q => ny ad e q)), Lib.hid (k3.join (Lm.put2_kept _ _ _ _) (fun i hi e => Nat.lt_irrefl i (Nat.lt_of_lt_of_le hi (Nat.le_of_eq (Eq.symm e)))))⟩
      case rest =>
        obtain ⟨b2, A8, n8, c8, rfl, rfl, rfl, BY, TY, KY⟩ := hcut
        rename World => W10
        have B6 := Lib.hid (B6.out.old KY.out)
        have T6 := Lib.hid (T6.out.old KY.out)
        have y0 := B6.out.c0
        have y1 := B6.out.c1
        have z0 := BY.out.c0
        have z1' := BY.out.c1
        clear AC hsl RD
        have hn' := HN.out
        have hg := HG.out
        have wr := HWR.out
        go_wp2_with (first
          | (go_at_call 17; refine (SM.out _ _ _ _ T6.out TY.out).mono ?_; rintro e w10 ⟨rfl, k10⟩; have K10 := Lib.hid (K9.out.trans (KY.out.trans k10)))
          | (go_at_call 9; refine (Lm.awake_any _).mono ?_; rintro e w11 ⟨rfl, k11⟩; have K11 := Lib.hid (K10.out.trans k11)))
        go_ret
        exact ⟨rfl, K11.out⟩

/-- The row's step. -/
theorem lifted (os : Os) (started : os.Started) (H : Type) (enc : TypeId × Value → H) :
    ReturnsInHanded {} Try.checked os 7 .any (Rows.modelCutSpec.pre6 enc Try.prog Try.f7 Rows.modelCutRow.domain false) (Rows.modelCutSpec.post enc Try.prog Try.f7 false true false false) := by
  refine returnsInHanded_of_change_sized (C := Try.checked) own started (by kernel_rfl) Try.func7
    (ChangeSpec.witness6 (enc := enc) (C := Try.checked) false ⟨#[], #[.int .u16 0, .slice none 0 0, .int .u8 0], []⟩ 8 (by kernel_rfl) (by kernel_rfl) (by kernel_rfl) (by kernel_rfl)) ?_
  intro W base args ds gs before hval0 hW hcnd hsz0 _
  have hsz : (DataW.weightsEach Try.prog (Try.f7.params.toList ++ Rows.modelCutSpec.plain.varTypes Try.prog) (ds ++ gs)).all (· ≤ reachBytes) = true := hsz0
  have hval : ∀ (j : Nat) t v, Try.f7.params[j]? = some t → args[j]? = some v → Value.okWide Try.prog W .any base t v := hval0
  have hW' := hW
  obtain ⟨p, q, hA0, hV, rfl, hfz, hnd⟩ := hW
  have hA : DataW.TrodAll enc Try.prog W 0 (fun _ => true) true Try.f7.params.toList args.toList ds p := hA0
  rw [Try.params7] at hA hval hsz
  obtain ⟨v0, vs0, d0, ds0, p0, q0, hargs, rfl, rfl, h0, r0⟩ := trodAll_cons hA
  obtain ⟨v1, vs1, d1, ds1, p1, q1, rfl, rfl, rfl, h1, r1⟩ := trodAll_cons r0
  obtain ⟨v2, vs2, d2, ds2, p2, q2, rfl, rfl, rfl, h2, r2⟩ := trodAll_cons r1
  obtain ⟨rfl, rfl, rfl⟩ := trodAll_nil r2
  obtain rfl : args = #[v0, v1, v2] := by cases args; simp_all
  obtain ⟨rfl, rfl⟩ := trodVars_none hV
  obtain ⟨a0, rfl, rfl, rfl, w0⟩ := open_int Try.underlying28 (hval 0 28 v0 rfl rfl) h0
  have k1 := h1
  have lt1 : ∀ x ∈ p1, x.block < W.heap.size := by obtain ⟨m, hm⟩ := k1; exact DataW.trod_lt m _ _ _ hm
  obtain ⟨a1, len1, cap1, rfl⟩ := okWide_slice Try.underlying29 (hval 1 29 v1 rfl rfl)
  obtain ⟨z1, w1⟩ := ints_in Try.underlying29 Try.underlying5 (by kernel_rfl) h1
  have rch1 := slice_reach (j := 1) Try.underlying29 (show Try.prog.bytesOf 5 = 1 by kernel_rfl) k1 hsz rfl rfl
  obtain ⟨a2, rfl, rfl, rfl, w2⟩ := open_int Try.underlying5 (hval 2 5 v2 rfl rfl) h2
  clear hA0 hval0
  refine (walk a0 a1 len1 cap1 z1 a2 W w0 w1 rch1 w2).mono fun e W' ⟨he, kept⟩ => ?_
  subst he
  have bel : Below W.heap.size W W' := kept.toBelow (Nat.le_refl _) (fun _ x => x.elim)
  exact ⟨_, rfl, _, _, _, [], _, [], hW', trodAll_mk1 (shut_bool Try.underlying4 _), (trodAll_cons_mk (shut_int Try.underlying28 w0) (trodAll_cons_mk (Below.trod laidOut (by kernel_rfl) (of_decide_eq_true (by kernel_rfl)) k1 bel lt1) (trodAll_cons_mk (shut_int Try.underlying5 w2) trodAll_mk0))), rfl, bel.frame _, fun h => by cases h⟩

theorem over : Rows.ModelCutSaid :=
  OpenClaim.holds_of_wide 7 Try.f7 rfl rfl rfl rfl rfl rfl rfl ⟨rfl, rfl, rfl, rfl, rfl⟩ rfl rfl rfl rfl rfl (by kernel_rfl) Try.func7 (by kernel_rfl)
    (of_decide_eq_true (by kernel_rfl)) (by unfold Func.isWrapper; first | (rw [if_pos (by decide +kernel)]; kernel_rfl) | (rw [if_neg (by decide +kernel)]; exact ⟨rfl, rfl⟩))
    (fun os started H enc _ => lifted os started H enc)

/-- The statement. -/
theorem proved : Rows.ModelCutSaid := over
#print axioms proved
end Go.Proofs.Ytmajgfpfbieakaa.modelCut
