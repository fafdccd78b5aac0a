/-
  For every input the law HeapRuns of rickyard/rickyardlaw7 returns true, and its arguments read afterwards as before. The law's own sentence: Whatever is allocated and freed, by whatever numbers: each answer, the free runs, the spans, which one any page is of, what fits, are the document's; of no other number of pages is there a heap. No further conditions.
-/
import Derived.Test.YtdolchlhphoggaaRows
import Derived.Test.YtdolchlhphoggaaKept
import Derived.Test.YtdolchlhphoggaaShell
import Derived.Test.YtdolchlhphoggaaShellSized
import Derived.SizedLaws
import Derived.Test.YtdolchlhphoggaaShellInts
import Derived.WalkKit
import Derived.ProofKit
import Derived.OpenShut
import Derived.ChangeOld
import Derived.Below
import Derived.Lib.SmallJoins
import Derived.Test.YtdolchlhphoggaaHeapAwake
import Derived.Test.YtdolchlhphoggaaHeapOne
import Derived.Test.YtdolchlhphoggaaIntsApp
import Derived.RegionTactic
import Derived.Deep.CutRange
import Derived.Deep.RegionHeld3
namespace Go.Proofs.Ytdolchlhphoggaa.heapRuns
open Go.ChangeShapes Go.WideShapes Go.ChangeAt Go.RowKit
set_option linter.unusedVariables false
set_option maxRecDepth 100000

theorem own : ownKnob Try.prog.godebug = none := by kernel_rfl
theorem laidOut : laidOutB Try.prog = true := by kernel_rfl
/-- What the document's Fit answers. -/
theorem rfits (rl : List R) (m : Int) (hr : Right 256 0 rl) : ∃ z : Int, ∀ A n c w, Rs w A n rl → Calls Try.prog 11 #[.slice A n c, .int .i64 m] w fun e w' => e = .returned (.tuple #[.int .i64 z, .bool (fitsB rl m)]) ∧ Kept Old w w' := by
  by_cases hm : m < 1
  · rw [show fitsB rl m = false by unfold fitsB; rw [decide_eq_false (by omega), Bool.false_and]]
    exact ⟨0, fun A n c w h => rfit_no A n c rl m w h (.inl hm) (by have := right_n h hr; omega)⟩
  · rw [show fitsB rl m = fitB rl m by unfold fitsB; rw [decide_eq_true (by omega), Bool.true_and]]
    cases hf : fitB rl m with
    | false => exact ⟨0, fun A n c w h => rfit_no A n c rl m w h (.inr hf) (by have := right_n h hr; omega)⟩
    | true =>
      obtain ⟨i, x, f⟩ := fits_of hf
      exact ⟨i, fun A n c w h => rfit_ok A n c rl m i x w h (by omega) f (by have := right_n h hr; omega)⟩
theorem appI_wp {ops : Array Oper} {rest : List Oper} {o : Oper} {a : Act} {Q : Exit → Act → World → Prop} {w : World} (hgd : o.guard = none) (s x : Operand)
    (ho : o.op = .call { callee := .builtin .append, args := #[s, x], argTypes := #[22, 22] }) (hty : o.type = 22) (v u v' : Value) (w' : World) (hs : a.eval s = v) (hx : a.eval x = u)
    (hrun : (Builtin.append_ #[22, 22] 22 #[v, u]).run Try.prog w = .ok v' w')
    (go : wpList Try.prog ops Q rest (a.put o.dst v') w') : wpList Try.prog ops Q (o :: rest) a w := by
  refine wpList_plain hgd fun K hK => ?_
  unfold Oper.wp execOp
  simp only [ho, hty, resolve, invoke, builtin, Sem.run_bind, Sem.run_pure, Result.andThen_ok, List.map_toArray, List.map_cons, List.map_nil, hs, hx, hrun]
  exact hK _ _ go

set_option maxHeartbeats 8000000 in
/-- The walk: the Go text returns true, and nothing that was there has turned. -/
theorem walk (a0 : Int) (a1 : Option Addr) (len1 cap1 : Nat) (z1 : Nat → Int) (a2 : Int) (w : World) (w0 : (Lit.int .i64 a0).wf = true) (w1 : len1 ≤ cap1 ∧ cap1 ≤ maxLen ∧ (∀ i, i < len1 → (Lit.int .i64 (z1 i)).wf = true) ∧ Sl w a1 1 len1 fun i _ => .int .i64 (z1 i)) (rch1 : cap1 * 8 ≤ 140737488351232 ∧ (a1 = none → len1 = 0 ∧ cap1 = 0)) (w2 : (Lit.int .i64 a2).wf = true) :
    Calls Try.prog 3 #[.int .i64 a0, .slice a1 len1 cap1, .int .i64 a2] w fun e w' => e = .returned (.bool true) ∧ Kept Old w w' := by
  obtain ⟨v0, v1, v2, v3⟩ := w1
  obtain ⟨r1a, r1b⟩ := rch1
  have hl : len1 ≤ 17592186043904 := by omega
  have RA := Lib.hid (show len1 ≤ cap1 ∧ cap1 * 8 ≤ 140737488351232 ∧ (a1 = none → len1 = 0 ∧ cap1 = 0) from ⟨v0, r1a, r1b⟩)
  have HS := Lib.hid v3
  clear v0 v1 v2 v3 w0 w2 r1a r1b
  by_cases hp : 1 ≤ a0 ∧ a0 ≤ 256
  · obtain ⟨p1, p2⟩ := hp
    have t1 : ¬ a0 < 1 := by omega
    have t2 : ¬ 256 < a0 := by omega
    go_enter Try.func3, Try.ntmps3
    go_wp2_with fail
    refine (hp_new w a0 F9 w p1 p2 (Kept.refl _ _) (fun _ h => h.elim)).mono ?_
    rintro e W1 ⟨h, rfl, H1, k1⟩
    have H1 := Lib.hid H1
    have k1 := Lib.hid k1
    go_wp2_with fail
    refine (shop_new a0 W1 p1 p2).mono ?_
    rintro e W2 ⟨s, rfl, S2, k2, ls⟩
    have B2 : Both w W2 h s a0 [(0, a0)] [] := ⟨Fw F9 W1 W2, H1.out.more k2 (fun b hb => hb), S2, by have := k1.out.size; omega⟩
    have B2 := Lib.hid B2
    clear H1 k1 S2 k2 ls
    go_wp2_with fail
    go_loopw [9] (fun i wr => ∃ (k : Nat) (rl : List R) (sl : List S), k ≤ 602 ∧ i = .int .i64 (k : Int) ∧ Hid (Both w wr h s a0 rl sl)) (fun i _ => 603 - (intOf i).toNat)
    case atStart => exact ⟨0, _, _, by omega, rfl, B2⟩
    case round =>
      obtain ⟨k, rl, sl, hk, rfl, B3⟩ := hrel
      rename World => V
      clear B2
      have wk : IntKind.i64.wrap ((k : Int) + 2) = (k : Int) + 2 := IntWalk.i64_in _ (by omega)
      by_cases c : k + 2 < len1 ∧ k < 600
      · obtain ⟨c1, c2⟩ := c
        obtain ⟨g, o, rfl, hg, hc⟩ := HS.out.lies (by omega)
        have D0 := hc k 0 (by omega) (by omega)
        have D1 := hc (k + 1) 0 (by omega) (by omega)
        have D2 := hc (k + 2) 0 (by omega) (by omega)
        simp only [Nat.mul_one, Nat.add_zero] at D0 D1 D2
        have d0 := cellS_on B3.out.kept D0
        have d1 := cellS_on B3.out.kept D1
        have d2 := cellS_on B3.out.kept D2
        have D0 := Lib.hid D0
        have D1 := Lib.hid D1
        have D2 := Lib.hid D2
        generalize z1 k = u at *
        generalize z1 (k + 1) = v at *
        generalize z1 (k + 2) = r at *
        obtain ⟨z, CF⟩ := rfits rl u B3.out.whole.wide
        obtain ⟨F, H3, ⟨A, n, cA, BA, m, dA, rr, S3⟩, low⟩ := id B3.out
        have s1 := S3.box.cell 1
        simp only [List.getElem?_cons_succ, List.getElem?_cons_zero] at s1
        have S3 := Lib.hid S3
        have H3 := Lib.hid H3
        have CF := Lib.hid CF
        clear hc HS low
        go_wp2_with fail
        have j0 : (k : Int) < (len1 : Int) := by omega
        have j1 : (k : Int) + 1 < (len1 : Int) := by omega
        have j2 : (0 : Int) ≤ (k : Int) + 1 := by omega
        have j3 : ((k : Int) + 1).toNat = k + 1 := by omega
        have i1 : (k : Int) + 2 < (len1 : Int) := by omega
        have i2 : (0 : Int) ≤ (k : Int) + 2 := by omega
        have i3 : ((k : Int) + 2).toNat = k + 2 := by omega
        have wk1 : IntKind.i64.wrap ((k : Int) + 1) = (k : Int) + 1 := IntWalk.i64_in _ (by omega)
        go_region_held3 (fun w' => w'.cell? ⟨g, o + k, none⟩ = some (.int .i64 u) ∧ w'.cell? ⟨s, 1, none⟩ = some (.slice A n cA))
          (first
            | (exact ⟨‹_›, ‹_›⟩)
            | (exact ⟨d0, s1⟩)
            | go_keep)
          (first | (go_at_call 11; refine (CF.out A n cA _ ((S3.out.old ((Kept.refl Old V).drew)).runs)).mono ?_; rintro e V1 ⟨rfl, k3⟩; have y0 := cellS_on k3 d0; have y1 := cellS_on k3 s1))
        have k4 : Kept Old V V1.drew := ((Kept.refl Old V).drew.trans k3).drew
        have C5 := Lib.hid (hp_fits u (H3.out.old k4))
        have B4 := Lib.hid (B3.out.old k4)
        have e0 := cellS_on k4 d0
        have e1 := cellS_on k4 d1
        have e2 := cellS_on k4 d2
        generalize fitsB rl u = fb at *
        have hfb : (fb != fb) = false := by cases fb <;> rfl
        clear k3 k4 y0 y1 s1 d0 d1 d2 S3 H3 CF B3
        go_wp2_with fail
        go_region_held3 (fun w' => w'.cell? ⟨g, o + k, none⟩ = some (.int .i64 u) ∧ w'.cell? ⟨g, o + (k + 1), none⟩ = some (.int .i64 v) ∧ w'.cell? ⟨g, o + (k + 2), none⟩ = some (.int .i64 r))
          (first
            | (exact ⟨‹_›, ‹_›, ‹_›⟩)
            | (exact ⟨e0, e1, e2⟩)
            | go_keep)
          (first
            | (go_at_call 12; refine C5.out.mono ?_; rintro e V2 ⟨rfl, k5⟩; have f0 := cellS_on k5 e0; have f1 := cellS_on k5 e1; have f2 := cellS_on k5 e2; have B5 := Lib.hid (B4.out.old k5))
            | (go_at_call 13; refine (oneH_any _ _ _ B5.out).mono ?_; rintro e V3 ⟨rfl, rl', sl', B6⟩; have h0 := cellS_on B6.kept D0.out; have h1 := cellS_on B6.kept D1.out; have h2 := cellS_on B6.kept D2.out; have B6 := Lib.hid B6)
            | (go_at_call 14; refine (sameH_any B6.out).mono ?_; rintro e V4 ⟨rfl, k7⟩; have i0 := cellS_on k7 h0; have i1' := cellS_on k7 h1; have i2' := cellS_on k7 h2; have B7 := Lib.hid (B6.out.old k7)))
        all_goals
          go_wp2
          refine ⟨⟨k + 3, rl', sl', by omega, by go_num, B7⟩, ?_⟩
          simp [intOf]; omega
      · have cc : ¬ (k : Int) + 2 < (len1 : Int) ∨ ((k : Int) + 2 < (len1 : Int) ∧ ¬ (k : Int) < 600) := by omega
        clear c
        obtain ⟨ga, ca, wa, hrun, hcell, ka, hga⟩ := app_ints V a2 (-1) a0 a1 len1 cap1 z1 (HS.out.old B3.out.kept) RA.out.1 RA.out.2.1 RA.out.2.2
        have B4 := Lib.hid (B3.out.old ka)
        have hcell := Lib.hid hcell
        have hrun := Lib.hid hrun
        clear ka HS RA B3
        rcases cc with cc | ⟨cc, cb⟩
        all_goals
          go_wp2_with (at_builtin; refine appI_wp rfl (.tmp 94) (.tmp 95) rfl rfl _ _ (.slice (some ⟨ga, 0, none⟩) (3 + len1) ca) wa rfl rfl hrun.out ?_)
          go_loopw [98] (fun i wr => ∃ y : Nat, y ≤ 3 + len1 ∧ i = .int .i64 (y : Int) ∧ Hid (Kept Old wa wr)) (fun i _ => 3 + len1 - (intOf i).toNat)
          case atStart => exact ⟨0, by omega, rfl, Lib.hid (Kept.refl _ _)⟩
          case round =>
            obtain ⟨y, hy, rfl, K5⟩ := hrel
            rename World => Y
            by_cases cy : y < 3 + len1
            · obtain ⟨q, hq⟩ := hcell.out y cy
              have q0 := cellS_on K5.out hq
              obtain ⟨F, H5, ⟨A, n, cA, BA, m, dA, rr, S5⟩, low⟩ := B4.out.old K5.out
              have H5 := Lib.hid H5
              have S5 := Lib.hid S5
              have G5 := Lib.hid H5.out.whole
              clear hq low
              go_wp2_with fail
              refine (hp_of q H5.out).mono ?_
              rintro e Y1 ⟨rfl, k6⟩
              generalize hX : ofX sl q = x at *
              generalize hY : ofB sl q = xb at *
              have hX := Lib.hid hX
              have hY := Lib.hid hY
              have k7 := k6.alloc (.cells #[.int .i64 x.a, .int .i64 x.n, .int .i64 x.c] 44)
              have S7 := Lib.hid (S5.out.old k7)
              have s2 := S7.out.box.cell 2
              simp only [List.getElem?_cons_succ, List.getElem?_cons_zero] at s2
              have X7 := Lib.hid (BxS.new Y1 x)
              have K7 := Lib.hid (K5.out.trans k7)
              clear k6 k7 H5 S5
              go_wp2_with fail
              refine (rof_any BA m dA a0 sl q _ S7.out.spans G5.out.good ⟨by omega, by omega⟩).mono ?_
              rintro e Y2 ⟨rfl, k8⟩
              rw [hX.out, hY.out]
              have X8 := X7.out.old k8
              have x0 := X8.c0
              have x1 := X8.c1
              have x2 := X8.c2
              have hlt := Blk.lt X8
              have K9 := Lib.hid ((K7.out.trans k8).alloc (.cells #[.int .i64 x.a, .int .i64 x.n, .int .i64 x.c] 44))
              have hxb : (xb != xb) = false := by cases xb <;> rfl
              clear k8 X7 X8 S7 K7 s2
              go_wp2
              refine ⟨⟨y + 1, by omega, by go_num, K9⟩, ?_⟩
              simp [intOf]; omega
            · obtain ⟨F, H5, -, -⟩ := B4.out.old K5.out
              have H5 := Lib.hid H5
              go_wp2_with fail
              refine (hp_pages H5.out).mono ?_
              rintro e Y1 ⟨rfl, rfl⟩
              go_wp2_with fail
              refine (awakeH_any _).mono ?_
              rintro e Y2 ⟨rfl, k9⟩
              have K9 := Lib.hid (H5.out.kept.trans k9)
              clear k9 H5
              go_wp2
              go_ret
              exact ⟨rfl, K9.out⟩
  · have hp' : a0 < 1 ∨ 256 < a0 := by omega
    have hT := Lib.hid (hnew_no a0 w hp')
    clear hp HS RA
    rcases hp' with hp | hp
    · go_enter Try.func3, Try.ntmps3
      go_wp2_with fail
      refine hT.out.mono ?_
      rintro e W ⟨rfl, rfl⟩
      go_wp2_with fail
      refine (awakeH_any _).mono ?_
      rintro e W ⟨rfl, k⟩
      have k := Lib.hid k
      go_wp2_with fail
      go_ret
      exact ⟨rfl, k.out⟩
    · have hp' : ¬ a0 < 1 := by omega
      go_enter Try.func3, Try.ntmps3
      go_wp2_with fail
      refine hT.out.mono ?_
      rintro e W ⟨rfl, rfl⟩
      go_wp2_with fail
      refine (awakeH_any _).mono ?_
      rintro e W ⟨rfl, k⟩
      have k := Lib.hid k
      go_wp2_with fail
      go_ret
      exact ⟨rfl, k.out⟩

/-- The row's step. -/
theorem lifted (os : Os) (started : os.Started) (H : Type) (enc : TypeId × Value → H) :
    ReturnsInHanded {} Try.checked os 3 .any (Rows.heapRunsSpec.pre6 enc Try.prog Try.f3 Rows.heapRunsRow.domain false) (Rows.heapRunsSpec.post enc Try.prog Try.f3 false true false false) := by
  refine returnsInHanded_of_change_sized (C := Try.checked) own started (by kernel_rfl) Try.func3
    (ChangeSpec.witness6 (enc := enc) (C := Try.checked) false ⟨#[], #[.int .i64 0, .slice none 0 0, .int .i64 0], []⟩ 8 (by kernel_rfl) (by kernel_rfl) (by kernel_rfl) (by kernel_rfl)) ?_
  intro W base args ds gs before hval0 hW hcnd hsz0 _
  have hsz : (DataW.weightsEach Try.prog (Try.f3.params.toList ++ Rows.heapRunsSpec.plain.varTypes Try.prog) (ds ++ gs)).all (· ≤ reachBytes) = true := hsz0
  have hval : ∀ (j : Nat) t v, Try.f3.params[j]? = some t → args[j]? = some v → Value.okWide Try.prog W .any base t v := hval0
  have hW' := hW
  obtain ⟨p, q, hA0, hV, rfl, hfz, hnd⟩ := hW
  have hA : DataW.TrodAll enc Try.prog W 0 (fun _ => true) true Try.f3.params.toList args.toList ds p := hA0
  rw [Try.params3] at hA hval hsz
  obtain ⟨v0, vs0, d0, ds0, p0, q0, hargs, rfl, rfl, h0, r0⟩ := trodAll_cons hA
  obtain ⟨v1, vs1, d1, ds1, p1, q1, rfl, rfl, rfl, h1, r1⟩ := trodAll_cons r0
  obtain ⟨v2, vs2, d2, ds2, p2, q2, rfl, rfl, rfl, h2, r2⟩ := trodAll_cons r1
  obtain ⟨rfl, rfl, rfl⟩ := trodAll_nil r2
  obtain rfl : args = #[v0, v1, v2] := by cases args; simp_all
  obtain ⟨rfl, rfl⟩ := trodVars_none hV
  obtain ⟨a0, rfl, rfl, rfl, w0⟩ := open_int Try.underlying3 (hval 0 3 v0 rfl rfl) h0
  have k1 := h1
  have lt1 : ∀ x ∈ p1, x.block < W.heap.size := by obtain ⟨m, hm⟩ := k1; exact DataW.trod_lt m _ _ _ hm
  obtain ⟨a1, len1, cap1, rfl⟩ := okWide_slice Try.underlying22 (hval 1 22 v1 rfl rfl)
  obtain ⟨z1, w1⟩ := ints_in Try.underlying22 Try.underlying3 (by kernel_rfl) h1
  have rch1 := slice_reach (j := 1) Try.underlying22 (show Try.prog.bytesOf 3 = 8 by kernel_rfl) k1 hsz rfl rfl
  obtain ⟨a2, rfl, rfl, rfl, w2⟩ := open_int Try.underlying3 (hval 2 3 v2 rfl rfl) h2
  clear hA0 hval0
  refine (walk a0 a1 len1 cap1 z1 a2 W w0 w1 rch1 w2).mono fun e W' ⟨he, kept⟩ => ?_
  subst he
  have bel : Below W.heap.size W W' := kept.toBelow (Nat.le_refl _) (fun _ x => x.elim)
  exact ⟨_, rfl, _, _, _, [], _, [], hW', trodAll_mk1 (shut_bool Try.underlying4 _), (trodAll_cons_mk (shut_int Try.underlying3 w0) (trodAll_cons_mk (Below.trod laidOut (by kernel_rfl) (of_decide_eq_true (by kernel_rfl)) k1 bel lt1) (trodAll_cons_mk (shut_int Try.underlying3 w2) trodAll_mk0))), rfl, bel.frame _, fun h => by cases h⟩

theorem over : Rows.HeapRunsSaid :=
  OpenClaim.holds_of_wide 3 Try.f3 rfl rfl rfl rfl rfl rfl rfl ⟨rfl, rfl, rfl, rfl, rfl⟩ rfl rfl rfl rfl rfl (by kernel_rfl) Try.func3 (by kernel_rfl)
    (of_decide_eq_true (by kernel_rfl)) (by unfold Func.isWrapper; first | (rw [if_pos (by decide +kernel)]; kernel_rfl) | (rw [if_neg (by decide +kernel)]; exact ⟨rfl, rfl⟩))
    (fun os started H enc _ => lifted os started H enc)

/-- The statement. -/
theorem proved : Rows.HeapRunsSaid := over
#print axioms proved
end Go.Proofs.Ytdolchlhphoggaa.heapRuns
