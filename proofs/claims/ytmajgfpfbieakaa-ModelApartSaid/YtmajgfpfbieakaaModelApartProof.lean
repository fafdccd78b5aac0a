/-
  For every input the law ModelApart of rickyard/rickyardlaw13 returns true, and its arguments read afterwards as before. The law's own sentence: Whatever deeds are accepted, live stacks never have a word in common, and all lie within. No further conditions.
-/
import Derived.Test.YtmajgfpfbieakaaRows
import Derived.Test.YtmajgfpfbieakaaKept
import Derived.Test.YtmajgfpfbieakaaShell
import Derived.Test.YtmajgfpfbieakaaShellSized
import Derived.SizedLaws
import Derived.Test.YtmajgfpfbieakaaShellInts
import Derived.WalkKit
import Derived.ProofKit
import Derived.OpenShut
import Derived.ChangeOld
import Derived.Below
import Derived.Lib.SmallJoins
import Derived.Test.YtmajgfpfbieakaaDeedsMade
import Derived.Test.YtmajgfpfbieakaaModelLaw
import Derived.WalkKit
import Derived.ProofKit
import Derived.OpenShut
import Derived.Outline
import Derived.Deep.Light
import Derived.Deep.QuietTactic
import Derived.BigQuiet
import Derived.IntWalk
import Derived.StillTailTactics
import Derived.RegionTactic
import Derived.Deep.RegionLaw
import Derived.Deep.RegionHeld3
import Derived.Test.YtmajgfpfbieakaaBoolRow
import Derived.Test.YtmajgfpfbieakaaModelMay
import Derived.Test.YtmajgfpfbieakaaShellInts
namespace Go.Proofs.Ytmajgfpfbieakaa.modelApart
open Go.ChangeShapes Go.WideShapes Go.ChangeAt Go.RowKit
set_option linter.unusedVariables false
set_option maxRecDepth 100000

theorem own : ownKnob Try.prog.godebug = none := by kernel_rfl
theorem laidOut : laidOutB Try.prog = true := by kernel_rfl
theorem made_kept {L : List Lm.D} {w w' : World} {v : Value} (h : Lm.MadeD L w v w') : Kept Old w w' := by
  obtain ⟨_, _, _, _, _, _, _, k⟩ := h
  exact k
theorem acc_own {W : Int} {l : List Lm.S} {d : Lm.D} (h : ∀ x ∈ l, x.c = -1) : ∀ x ∈ Lm.accL W l d, x.c = -1 := by
  unfold Lm.accL
  split
  · intro x hx
    unfold Lm.insL at hx
    rcases List.mem_append.1 hx with q | q
    · exact h x (List.mem_of_mem_take q)
    · rcases List.mem_cons.1 q with rfl | q
      · rfl
      · exact h x (List.mem_of_mem_drop q)
  · split
    · intro x hx
      exact h x ((Lm.del_sub l d.a).subset hx)
    · exact h
theorem accM_own (W : Int) : ∀ (ds : List Lm.D) (l : List Lm.S), (∀ x ∈ l, x.c = -1) → ∀ x ∈ Lm.accM W l ds, x.c = -1
  | [], _, h => h
  | d :: t, l, h => by
    show ∀ x ∈ (if Lm.accB W l d then Lm.accM W (Lm.accL W l d) t else l), x.c = -1
    split
    · exact accM_own W t _ (acc_own h)
    · exact h
theorem rs_above {w w' : World} {A : Option Addr} {n b : Nat} {l : List Lm.S} (h : Lm.RsS w A n l) (k : Kept (Only b) w w') (hb : w.heap.size ≤ b) : Lm.RsS w' A n l :=
  ⟨h.len, h.fit, fun hn => by
    obtain ⟨g, o, rfl, hg, c⟩ := h.lies hn
    exact ⟨g, o, rfl, Nat.lt_of_lt_of_le hg k.size, fun i x hx => (c i x hx).kept k hg (fun e => by have e : g = b := e; omega)⟩⟩

set_option maxHeartbeats 3000000 in
/-- The walk: the Go text returns true, and nothing that was there has turned. -/
theorem walk (a0 : Int) (a1 : Option Addr) (len1 cap1 : Nat) (z1 : Nat → Int) (w : World) (w0 : (Lit.int .u16 a0).wf = true) (w1 : len1 ≤ cap1 ∧ cap1 ≤ maxLen ∧ (∀ i, i < len1 → (Lit.int .u8 (z1 i)).wf = true) ∧ Sl w a1 1 len1 fun i _ => .int .u8 (z1 i)) (rch1 : cap1 * 1 ≤ 140737488351232 ∧ (a1 = none → len1 = 0 ∧ cap1 = 0)) :
    Calls Try.prog 5 #[.int .u16 a0, .slice a1 len1 cap1] w fun e w' => e = .returned (.bool true) ∧ Kept Old w w' := by
  obtain ⟨n0, n1, nz, ns⟩ := w1
  have b0 := bounds_u16 w0
  obtain ⟨wd, hW, wd1⟩ : ∃ R : Nat, a0.tmod 4097 = (R : Int) ∧ R ≤ 4096 := ⟨(a0 % 4097).toNat, by rw [Int.tmod_eq_emod_of_nonneg b0.1]; omega, by omega⟩
  have u0 : IntKind.i64.wrap a0 = a0 := IntWalk.i64_in _ (by omega)
  have ml : len1 ≤ 9223372036854775000 := by have := rch1.1; omega
  have CD := Lib.hid (fun X h => Lm.deeds_any (wd : Int) a1 len1 cap1 z1 X ml (by omega) (by omega) (fun i hi => bounds_u8 (nz i hi)) h)
  have DL := Lm.deedsL_len (wd : Int) z1 len1
  have NS := Lib.hid ns
  generalize Lm.deedsL (wd : Int) z1 len1 = ds at *
  have VN := Lib.hid (show Lm.Valid (wd : Int) [] from Lm.Valid.nil (by omega) (by omega))
  have VD := Lib.hid (Lm.Valid.accM ds VN.out)
  have OW := Lib.hid (accM_own (wd : Int) ds [] (fun _ h => by cases h))
  have LN := VD.out.len
  clear n1 nz ns b0 w0 rch1
  go_enter Try.func5, Try.ntmps5
  go_wp2_with fail
  refine (Lm.new_any (wd : Int) _).mono ?_
  rintro e w5 ⟨rfl, k5⟩
  have K5 := Lib.hid k5
  have NS := Lib.hid (NS.out.old k5)
  clear k5
  go_wp2_with fail
  refine (CD.out _ NS.out).mono ?_
  rintro e w1 ⟨v, rfl, M1, O1⟩
  have K1 := Lib.hid (K5.out.trans (made_kept M1))
  have O1 := Lib.hid O1
  clear M1
  obtain ⟨A3, c3, rfl, R3, hc3, hA3⟩ := O1.out.rs
  have R3 := Lib.hid R3
  go_wp2_with fail
  refine (Lm.accepts_any (wd : Int) none 0 0 [] A3 ds.length c3 ds _ (Lm.RsS.nil _ _) VN.out (Nat.le_refl _) (fun _ => rfl) R3.out (by omega)).mono ?_
  rintro e w6 ⟨v6, rfl, A6, n6, c6, rfl, T6, hc6, q6, k6⟩
  have k6 := k6.alloc (.cells #[.int .i64 (wd : Int), .slice A6 n6 c6] 24)
  have K6 := Lib.hid (K1.out.trans k6)
  have T6 := Lib.hid (T6.alloc (.cells #[.int .i64 (wd : Int), .slice A6 n6 c6] 24))
  have B6 := Lib.hid (Lm.Bm.new w6 (wd : Int) (.slice A6 n6 c6))
  have l6 := T6.out.len
  clear k6 O1 R3 q6 hA3 hc3 CD NS
  go_upto_region 3 with fail
  have s6 := Blk.lt B6.out
  generalize hs6 : w6.heap.size = b6 at *
  generalize hW6 : w6.alloc (.cells #[.int .i64 (wd : Int), .slice A6 n6 c6] 24) = W6 at *
  obtain ⟨w7, m7, O7, k7, l7⟩ := Br.make_bools W6 wd (by omega)
  have O7 := Lib.hid O7
  have k7 := Lib.hid k7
  go_wp2_with fail
  clear m7
  generalize hbh : W6.heap.size = bh at *
  generalize Lm.accM (wd : Int) [] ds = l at *
  go_loopw [10] (fun s10 wr => ∃ (k : Nat) (f : Nat → Bool), k ≤ n6 ∧ s10 = .int .i64 (k : Int) ∧ Hid (Br.BR wr bh wd f) ∧ Hid (∀ x, l[k]? = some x → ∀ j : Nat, x.a ≤ (j : Int) → f j = false) ∧ Hid (Kept (Only bh) W6 wr)) (fun s10 _ => n6 - (intOf s10).toNat)
  case atStart => exact ⟨0, _, by omega, rfl, O7, Lib.hid (fun _ _ _ _ => rfl), Lib.hid k7.out.any⟩
  case round =>
    obtain ⟨k, f, hk, rfl, BR1, FF, KK⟩ := hrel
    rename World => V
    have y0 := Br.only_cell KK.out B6.out.c0 (by show b6 ≠ bh; omega)
    have y1 := Br.only_cell KK.out B6.out.c1 (by show b6 ≠ bh; omega)
    clear O7 k7
    by_cases c : k < n6
    · obtain ⟨g, o, x, rfl, hg, hx, _, c0, c1, c2⟩ := T6.out.get c
      have c0 := Br.only_cell KK.out c0 (by show g ≠ bh; omega)
      have c1 := Br.only_cell KK.out c1 (by show g ≠ bh; omega)
      have c2 := Br.only_cell KK.out c2 (by show g ≠ bh; omega)
      have L := VD.out.at_ hx
      have x3 := OW.out x (List.mem_of_getElem? hx)
      have F1 := Lib.hid (FF.out x hx)
      have N1 := Lib.hid (fun y (hy : l[k + 1]? = some y) => VD.out.two hx hy (Nat.lt_succ_self k))
      unfold Lm.endI at N1
      obtain ⟨xa, xn, xc⟩ := x
      obtain ⟨p, hp⟩ : ∃ p : Nat, xa = (p : Int) := ⟨xa.toNat, by have := L.a0; show xa = _; simp at this; omega⟩
      obtain ⟨m, hm⟩ : ∃ m : Nat, wordsI xn = (m : Int) := ⟨(wordsI xn).toNat, by have := L.w0; simp at this; omega⟩
      simp only at hp hm x3 c0 c1 c2 F1 N1
      subst hp
      subst x3
      have L0 := L.w0
      have L1 := L.fit
      simp only [hm] at L0 L1 N1
      clear L
      have C0 := Lib.hid (rwords_any xn)
      rw [hm] at C0
      clear hm hx FF
      have B8 := Lib.hid (Lm.BxS.new V ⟨(p : Int), xn, -1⟩)
      have BR2 := Lib.hid (BR1.out.kept (D := Old) ((Kept.refl Old V).alloc (.cells #[.int .i64 (p : Int), .int .i64 xn, .int .i64 (-1)] 40)) (fun x => x))
      have KV := Lib.hid (KK.out.alloc (.cells #[.int .i64 (p : Int), .int .i64 xn, .int .i64 (-1)] 40))
      have lv := BR1.out.lt
      clear BR1
      go_wp2_with fail
      refine (C0.out _).mono ?_
      rintro e w' ⟨rfl, rfl⟩
      clear C0
      generalize hb8 : V.heap.size = b8 at *
      generalize hV8 : V.alloc (.cells #[.int .i64 (p : Int), .int .i64 xn, .int .i64 (-1)] 40) = V8 at *
      have z0 := B8.out.c0
      have z1 := B8.out.c1
      have z2 := B8.out.c2
      simp only at z0 z1 z2
      have ww : IntKind.i64.wrap ((wd : Int) - (p : Int)) = (wd : Int) - (p : Int) := IntWalk.i64_in _ (by omega)
      have wp : IntKind.i64.wrap ((p : Int) + (m : Int)) = (p : Int) + (m : Int) := IntWalk.i64_in _ (by omega)
      have e2 : ((m : Int) == 0) = false := by simp; omega
      have e3 : ¬ wd < p := by omega
      have e4 : (m : Int) ≤ (wd : Int) - (p : Int) := by omega
      have e5 : m ≠ 0 := by omega
      go_wp2_with fail
      clear e2 e3 e4 e5 ww
      have pw : p + m ≤ wd := by omega
      go_loopw [13] (fun s13 wr => ∃ (j : Nat) (f : Nat → Bool), p ≤ j ∧ j ≤ p + m ∧ s13 = .int .i64 (j : Int) ∧ Hid (Br.BR wr bh wd f) ∧ Hid (∀ i : Nat, j ≤ i → f i = false) ∧ Hid (Kept (Only bh) V8 wr)) (fun s13 _ => p + m - (intOf s13).toNat)
      case atStart => exact ⟨p, f, by omega, by omega, rfl, BR2, Lib.hid (fun i hi => F1.out i (by omega)), Lib.hid (Kept.refl _ _)⟩
      case round =>
        obtain ⟨j, f2, hj0, hj1, rfl, BR3, F3, KX⟩ := hrel
        rename World => X
        have z0 := Br.only_cell KX.out z0 (by show b8 ≠ bh; omega)
        by_cases d : j < p + m
        · have cj := BR3.out.cell (i := j) (by omega)
          rw [F3.out j (Nat.le_refl j)] at cj
          have fj := BR3.out.frozen j
          have BR4 := Lib.hid (BR3.out.put j true)
          have F4 := Lib.hid (fun (i : Nat) (hi : j + 1 ≤ i) => (Br.updB_ne f2 true (show i ≠ j by omega)).trans (F3.out i (by omega)))
          have KY := Lib.hid (KX.out.trans (only_setCell X bh j (.bool true)))
          have d1 : (j : Int) < (p : Int) + (m : Int) := by omega
          have d2 : (j : Int) < (wd : Int) := by omega
          have d3 : j < wd := by omega
          have wj : IntKind.i64.wrap ((j : Int) + 1) = (j : Int) + 1 := IntWalk.i64_in _ (by omega)
          go_wp2
          refine ⟨⟨j + 1, _, by omega, by omega, by go_num, BR4, F4, KY⟩, ?_⟩
          simp [intOf]; omega
        · have d1 : ¬ (j : Int) < (p : Int) + (m : Int) := by omega
          have FN := Lib.hid (fun (y : Lm.S) (hy : l[k + 1]? = some y) (i : Nat) (hi : y.a ≤ (i : Int)) => F3.out i (by have := N1.out y hy; omega))
          have KZ := Lib.hid (KV.out.trans KX.out)
          have wk : IntKind.i64.wrap ((k : Int) + 1) = (k : Int) + 1 := IntWalk.i64_in _ (by omega)
          go_wp2
          refine ⟨⟨k + 1, _, by omega, by go_num, BR3, FN, KZ⟩, ?_⟩
          simp [intOf]; omega
    · have TV := Lib.hid (rs_above T6.out KK.out (by omega))
      have MV := Lib.hid (Lm.may_any (wd : Int) A6 n6 c6 l V TV.out (by omega))
      rw [Lm.valid_may.2 VD.out] at MV
      have KE := Lib.hid (K6.out.join KK.out (fun i hi e => by have e : i = bh := e; have := K6.out.size; omega))
      go_wp2_with (first
        | (go_at_call 10; refine MV.out.mono ?_; rintro e w8 ⟨rfl, k8⟩; have K8 := Lib.hid (KE.out.trans k8))
        | (go_at_call 9; refine (Lm.awake_any _).mono ?_; rintro e w9 ⟨rfl, k9⟩; have K9 := Lib.hid (K8.out.trans k9)))
      go_ret
      exact ⟨rfl, K9.out⟩

/-- The row's step. -/
theorem lifted (os : Os) (started : os.Started) (H : Type) (enc : TypeId × Value → H) :
    ReturnsInHanded {} Try.checked os 5 .any (Rows.modelApartSpec.pre6 enc Try.prog Try.f5 Rows.modelApartRow.domain false) (Rows.modelApartSpec.post enc Try.prog Try.f5 false true false false) := by
  refine returnsInHanded_of_change_sized (C := Try.checked) own started (by kernel_rfl) Try.func5
    (ChangeSpec.witness6 (enc := enc) (C := Try.checked) false ⟨#[], #[.int .u16 0, .slice none 0 0], []⟩ 8 (by kernel_rfl) (by kernel_rfl) (by kernel_rfl) (by kernel_rfl)) ?_
  intro W base args ds gs before hval0 hW hcnd hsz0 _
  have hsz : (DataW.weightsEach Try.prog (Try.f5.params.toList ++ Rows.modelApartSpec.plain.varTypes Try.prog) (ds ++ gs)).all (· ≤ reachBytes) = true := hsz0
  have hval : ∀ (j : Nat) t v, Try.f5.params[j]? = some t → args[j]? = some v → Value.okWide Try.prog W .any base t v := hval0
  have hW' := hW
  obtain ⟨p, q, hA0, hV, rfl, hfz, hnd⟩ := hW
  have hA : DataW.TrodAll enc Try.prog W 0 (fun _ => true) true Try.f5.params.toList args.toList ds p := hA0
  rw [Try.params5] at hA hval hsz
  obtain ⟨v0, vs0, d0, ds0, p0, q0, hargs, rfl, rfl, h0, r0⟩ := trodAll_cons hA
  obtain ⟨v1, vs1, d1, ds1, p1, q1, rfl, rfl, rfl, h1, r1⟩ := trodAll_cons r0
  obtain ⟨rfl, rfl, rfl⟩ := trodAll_nil r1
  obtain rfl : args = #[v0, v1] := by cases args; simp_all
  obtain ⟨rfl, rfl⟩ := trodVars_none hV
  obtain ⟨a0, rfl, rfl, rfl, w0⟩ := open_int Try.underlying28 (hval 0 28 v0 rfl rfl) h0
  have k1 := h1
  have lt1 : ∀ x ∈ p1, x.block < W.heap.size := by obtain ⟨m, hm⟩ := k1; exact DataW.trod_lt m _ _ _ hm
  obtain ⟨a1, len1, cap1, rfl⟩ := okWide_slice Try.underlying29 (hval 1 29 v1 rfl rfl)
  obtain ⟨z1, w1⟩ := ints_in Try.underlying29 Try.underlying5 (by kernel_rfl) h1
  have rch1 := slice_reach (j := 1) Try.underlying29 (show Try.prog.bytesOf 5 = 1 by kernel_rfl) k1 hsz rfl rfl
  clear hA0 hval0
  refine (walk a0 a1 len1 cap1 z1 W w0 w1 rch1).mono fun e W' ⟨he, kept⟩ => ?_
  subst he
  have bel : Below W.heap.size W W' := kept.toBelow (Nat.le_refl _) (fun _ x => x.elim)
  exact ⟨_, rfl, _, _, _, [], _, [], hW', trodAll_mk1 (shut_bool Try.underlying4 _), (trodAll_cons_mk (shut_int Try.underlying28 w0) (trodAll_cons_mk (Below.trod laidOut (by kernel_rfl) (of_decide_eq_true (by kernel_rfl)) k1 bel lt1) trodAll_mk0)), rfl, bel.frame _, fun h => by cases h⟩

theorem over : Rows.ModelApartSaid :=
  OpenClaim.holds_of_wide 5 Try.f5 rfl rfl rfl rfl rfl rfl rfl ⟨rfl, rfl, rfl, rfl, rfl⟩ rfl rfl rfl rfl rfl (by kernel_rfl) Try.func5 (by kernel_rfl)
    (of_decide_eq_true (by kernel_rfl)) (by unfold Func.isWrapper; first | (rw [if_pos (by decide +kernel)]; kernel_rfl) | (rw [if_neg (by decide +kernel)]; exact ⟨rfl, rfl⟩))
    (fun os started H enc _ => lifted os started H enc)

/-- The statement. -/
theorem proved : Rows.ModelApartSaid := over
#print axioms proved
end Go.Proofs.Ytmajgfpfbieakaa.modelApart
