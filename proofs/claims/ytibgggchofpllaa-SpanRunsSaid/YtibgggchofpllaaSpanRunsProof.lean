/-
  For every input the law SpanRuns of rickyard/rickyardlaw6 returns true, and its arguments read afterwards as before. The law's own sentence: Whatever is added and removed: each code, all spans, how many, which one any page is of, are the document's; of no other number of pages is there a table. No further conditions.
-/
import Derived.Test.YtibgggchofpllaaRows
import Derived.Test.YtibgggchofpllaaKept
import Derived.Test.YtibgggchofpllaaShell
import Derived.Test.YtibgggchofpllaaShellInts
import Derived.Test.YtibgggchofpllaaSpanMem
import Derived.WalkKit
import Derived.ProofKit
import Derived.OpenShut
import Derived.ChangeOld
import Derived.Below
import Derived.Lib.SmallJoins
import Derived.Test.YtibgggchofpllaaSpanSt
import Derived.Test.YtibgggchofpllaaSpanAwake
import Derived.Test.YtibgggchofpllaaSpanRef
import Derived.Test.YtibgggchofpllaaSpanOne
import Derived.RegionTactic
import Derived.Deep.CutRange
namespace Go.Proofs.Ytibgggchofpllaa.spanRuns
open Go.ChangeShapes Go.WideShapes Go.ChangeAt Go.RowKit
set_option linter.unusedVariables false
set_option maxRecDepth 100000

theorem own : ownKnob Try.prog.godebug = none := by kernel_rfl
theorem laidOut : laidOutB Try.prog = true := by kernel_rfl
/-- What the four pages are. -/
theorem four (a b c d : Int) {j : Nat} (h : j < 4) : ∃ z : Int, ([.int .i64 a, .int .i64 b, .int .i64 c, .int .i64 d] : List Value)[j]? = some (.int .i64 z) := by
  match j, h with
  | 0, _ => exact ⟨a, rfl⟩
  | 1, _ => exact ⟨b, rfl⟩
  | 2, _ => exact ⟨c, rfl⟩
  | 3, _ => exact ⟨d, rfl⟩

set_option maxHeartbeats 8000000 in
/-- The walk: the Go text returns true, and nothing that was there has turned. -/
theorem walk (a0 : Int) (a1 : Option Addr) (len1 cap1 : Nat) (l1 : List S) (a2 : Option Addr) (len2 cap2 : Nat) (z2 : Nat → Int) (a3 : Int) (w : World) (w0 : (Lit.int .i64 a0).wf = true) (w1 : len1 ≤ cap1 ∧ cap1 ≤ maxLen ∧ (a1 = none → cap1 = 0) ∧ Rs w a1 len1 l1) (w2 : len2 ≤ cap2 ∧ cap2 ≤ maxLen ∧ (∀ i, i < len2 → (Lit.int .i64 (z2 i)).wf = true) ∧ Sl w a2 1 len2 fun i _ => .int .i64 (z2 i)) (w3 : (Lit.int .i64 a3).wf = true) :
    Calls Try.prog 3 #[.int .i64 a0, .slice a1 len1 cap1, .slice a2 len2 cap2, .int .i64 a3] w fun e w' => e = .returned (.bool true) ∧ Kept Old w w' := by
  obtain ⟨u0, u1, u2, u3⟩ := w1
  obtain ⟨v0, v1, v2, v3⟩ := w2
  have hl1 : len1 ≤ 9223372036854775807 := by unfold maxLen at u1; omega
  have hl2 : len2 ≤ 9223372036854775807 := by unfold maxLen at v1; omega
  have HR := Lib.hid u3
  have HS := Lib.hid v3
  clear u0 u1 u2 u3 v0 v1 v2 v3
  by_cases hp : 1 ≤ a0 ∧ a0 ≤ 256
  · obtain ⟨p1, p2⟩ := hp
    have hT := Lib.hid (st_new w a0 (FA none 0) w p1 p2 (Kept.refl _ _) (fun _ h => absurd h.1 (Nat.lt_irrefl 0)))
    have t1 : ¬ a0 < 1 := by omega
    have t2 : ¬ 256 < a0 := by omega
    go_enter Try.func3, Try.ntmps3
    go_wp2_with fail
    refine hT.out.mono ?_
    rintro e W ⟨p, rfl, T, -⟩
    have T := Lib.hid T
    clear hT
    go_wp2_with fail
    go_loopw [10, 11] (fun s i wr => ∃ (k : Nat) (l : List S) (A : Option Addr) (n c : Nat), k ≤ 200 ∧ i = .int .i64 (k : Int) ∧ s = .slice A n c ∧ Hid (Ls wr A n c l) ∧ Hid (St w wr p a0 l (FA A n))) (fun _ i _ => 200 - (intOf i).toNat)
    case atStart => exact ⟨0, [], none, 0, 0, by omega, rfl, rfl, Lib.hid ⟨Rs.nil _ _, Nat.le_refl _, .inl ⟨rfl, rfl⟩⟩, T⟩
    case round =>
      obtain ⟨k, l, A, n, c, hk, rfl, rfl, L1, T1⟩ := hrel
      rename World => V
      clear T
      by_cases cc : k < len1 ∧ k < 200
      · obtain ⟨c1, c2⟩ := cc
        have KV := Lib.hid T1.out.kept
        obtain ⟨g, o, x, rfl, hg, hx, fx, x0, x1, x2⟩ := (HR.out.old KV.out).get c1
        have fx := Lib.hid fx
        have zs := Lib.hid (show k < len2 → ∃ (g : Nat) (o : Nat) (z : Int), a2 = some ⟨g, o, none⟩ ∧ V.cell? ⟨g, o + k, none⟩ = some (.int .i64 z) from fun hi => by
          obtain ⟨g, o, e, hg, hc⟩ := (HS.out.old KV.out).lies (by omega)
          have d0 := hc k 0 hi (by omega)
          simp only [Nat.mul_one, Nat.add_zero] at d0
          exact ⟨g, o, _, e, d0⟩)
        have hx := Lib.hid hx
        go_upto_if 48 with fail
        go_cut [12] from 35 to 120 (fun s wx => ∃ q : Int, s = .int .i64 q ∧ wx = V)
        case first =>
          by_cases z : k < len2
          · obtain ⟨g2, o2, q, rfl, hq⟩ := zs.out z
            have z1 : (k : Int) < (len2 : Int) := by omega
            clear zs
            go_wp2_with fail
            go_meet
            exact ⟨q, rfl, rfl⟩
          · have z1 : ¬ (k : Int) < (len2 : Int) := by omega
            clear zs
            go_wp2_with fail
            go_meet
            exact ⟨_, rfl, rfl⟩
        case rest =>
          obtain ⟨q, rfl, rfl⟩ := hcut
          clear zs
          go_wp2_with fail
          refine (one_any x q T1.out L1.out fx.out).mono ?_
          rintro e W1 ⟨A', n', c', rfl, L2, T2⟩
          generalize remL (addL a0 l x) q = m at *
          have hml := L2.rs.len
          have hm := T2.len
          have KW := Lib.hid T2.kept
          have L2 := Lib.hid L2
          have T2 := Lib.hid T2
          clear L1 T1 x0 x1 x2 fx
          go_wp2_with fail
          refine (st_list T2.out).mono ?_
          rintro e W2 ⟨A5, c5, rfl, R5, k5, -, g5, cs5, rfl, -, -⟩
          rw [hml] at R5 hm ⊢
          have L3 := Lib.hid (L2.out.old k5)
          have T3 := Lib.hid (T2.out.old k5)
          have R5 := Lib.hid R5
          clear L2 T2 KW k5
          go_wp2_with fail
          refine (same_yes _ _ n' _ _ m _ R5.out L3.out.rs (by omega)).mono ?_
          rintro e W3 ⟨rfl, k6⟩
          have L4 := Lib.hid (L3.out.old k6)
          have T4 := Lib.hid (T3.out.old k6)
          clear L3 T3 R5 k6
          go_wp2_with fail
          refine (st_len T4.out).mono ?_
          rintro e W4 ⟨rfl, rfl⟩
          rw [hml]
          have KW := Lib.hid T4.out.kept
          obtain ⟨g', o', x', e', _, hx', _, x0, x1, x2⟩ := (HR.out.old KW.out).get c1
          obtain ⟨rfl, rfl⟩ : g = g' ∧ o = o' := by injection e' with e'; injection e' with e1 e2; exact ⟨e1, e2⟩
          obtain rfl : x = x' := by have := hx.out; rw [hx'] at this; exact (Option.some.inj this).symm
          clear hx' e'
          go_wp2_with fail
          go_region
          all_goals
            have B7 := Lib.hid (Blk.drew (Blk.new W3 3 [.int .i64 a3, .int .i64 q, .int .i64 x.a, .int .i64 x.n]))
            have k7 := ((Kept.refl Old W3).alloc (.cells #[.int .i64 a3, .int .i64 q, .int .i64 x.a, .int .i64 x.n] 3)).drew
            have L7 := Lib.hid (L4.out.old k7)
            have T7 := Lib.hid (T4.out.old k7)
            clear k7 x0 x1 x2 L4 T4 KW
            generalize hb : W3.heap.size = b at *
            generalize (W3.alloc (.cells #[.int .i64 a3, .int .i64 q, .int .i64 x.a, .int .i64 x.n] 3)).drew = V7 at *
            go_wp2_with fail
            go_loopw [96] (fun i wr => ∃ j : Nat, j ≤ 4 ∧ i = .int .i64 (j : Int) ∧ Hid (Kept Old V7 wr)) (fun i _ => 4 - (intOf i).toNat)
            case atStart => exact ⟨0, by omega, rfl, Lib.hid (Kept.refl _ _)⟩
            case round =>
              obtain ⟨j, hj, rfl, K8⟩ := hrel
              rename World => V8
              by_cases cj : j < 4
              · obtain ⟨z, hz⟩ := four a3 q x.a x.n cj
                have cz : V8.cell? ⟨b, j, none⟩ = some (.int .i64 z) := (Blk.cell (B7.out.kept K8.out (fun h => h)) j).trans hz
                have L8 := Lib.hid (L7.out.old K8.out)
                have T8 := Lib.hid (T7.out.old K8.out)
                clear hz
                go_wp2_with fail
                refine (st_of z T8.out).mono ?_
                rintro e V9 ⟨rfl, k9⟩
                have L9 := Lib.hid (L8.out.old k9)
                have T9 := Lib.hid T8.out.good
                have P9 := Lib.hid T8.out.pages
                generalize hX : ofX m z = y at *
                generalize hY : ofB m z = yb at *
                have hX := Lib.hid hX
                have hY := Lib.hid hY
                have B9 := Lib.hid (Bx.new V9 y)
                have k9' := Lib.hid (K8.out.trans k9)
                have k10 := Lib.hid ((Kept.refl Old V9).alloc (.cells #[.int .i64 y.a, .int .i64 y.n, .int .i64 y.c] 30))
                clear k9 T8 L8
                go_wp2_with fail
                refine (rof_any A' n' c' a0 m z _ (L9.out.old k10.out).rs T9.out P9.out).mono ?_
                rintro e V11 ⟨rfl, k11⟩
                rw [hX.out, hY.out]
                have B11 := B9.out.old k11
                have y0 := B11.c0
                have y1 := B11.c1
                have y2 := B11.c2
                have hlt := Blk.lt B11
                have K11 := Lib.hid (((k9'.out.trans k10.out).trans k11).alloc (.cells #[.int .i64 y.a, .int .i64 y.n, .int .i64 y.c] 30))
                clear k11 L9 T9 P9 B9 B11 k9' k10
                go_wp2
                refine ⟨⟨j + 1, by omega, by go_num, K11⟩, ?_⟩
                simp [intOf]; omega
              · have L8 := Lib.hid (L7.out.old K8.out)
                have T8 := Lib.hid (T7.out.old K8.out)
                go_wp2
                refine ⟨⟨k + 1, m, A', n', c', by omega, by go_num, rfl, L8, T8⟩, ?_⟩
                simp [intOf]; omega
      · have cc' : ¬ (k : Int) < (len1 : Int) ∨ ((k : Int) < (len1 : Int) ∧ ¬ (k : Int) < 200) := by omega
        clear cc
        rcases cc' with ca | ⟨ca, cb⟩
        all_goals
          go_wp2_with fail
          refine (awake_any _).mono ?_
          rintro e W17 ⟨rfl, k17⟩
          have K17 := Lib.hid (T1.out.kept.trans k17)
          clear k17
          go_wp2_with fail
          go_ret
          exact ⟨rfl, K17.out⟩
  · have hp' : a0 < 1 ∨ 256 < a0 := by omega
    have hT := Lib.hid (new_no a0 w hp')
    clear hp
    rcases hp' with hp | hp
    · go_enter Try.func3, Try.ntmps3
      go_wp2_with fail
      refine hT.out.mono ?_
      rintro e W ⟨rfl, rfl⟩
      go_wp2_with fail
      refine (awake_any _).mono ?_
      rintro e W ⟨rfl, k⟩
      have k := Lib.hid k
      go_wp2_with fail
      go_ret
      exact ⟨rfl, k.out⟩
    · have hp' : ¬ a0 < 1 := by omega
      go_enter Try.func3, Try.ntmps3
      go_wp2_with fail
      refine hT.out.mono ?_
      rintro e W ⟨rfl, rfl⟩
      go_wp2_with fail
      refine (awake_any _).mono ?_
      rintro e W ⟨rfl, k⟩
      have k := Lib.hid k
      go_wp2_with fail
      go_ret
      exact ⟨rfl, k.out⟩

/-- The row's step. -/
theorem lifted (os : Os) (started : os.Started) (H : Type) (enc : TypeId × Value → H) :
    ReturnsInHanded {} Try.checked os 3 .any (Rows.spanRunsSpec.pre6 enc Try.prog Try.f3 Rows.spanRunsRow.domain false) (Rows.spanRunsSpec.post enc Try.prog Try.f3 false true false false) := by
  refine returnsInHanded_of_change (C := Try.checked) own started (by kernel_rfl) Try.func3
    (ChangeSpec.witness6 (enc := enc) (C := Try.checked) false ⟨#[], #[.int .i64 0, .slice none 0 0, .slice none 0 0, .int .i64 0], []⟩ 8 (by kernel_rfl) (by kernel_rfl) (by kernel_rfl) (by kernel_rfl)) ?_
  intro W base args ds gs before hval0 hW hcnd _
  have hval : ∀ (j : Nat) t v, Try.f3.params[j]? = some t → args[j]? = some v → Value.okWide Try.prog W .any base t v := hval0
  have hW' := hW
  obtain ⟨p, q, hA0, hV, rfl, hfz, hnd⟩ := hW
  have hA : DataW.TrodAll enc Try.prog W 0 (fun _ => true) true Try.f3.params.toList args.toList ds p := hA0
  rw [Try.params3] at hA hval
  obtain ⟨v0, vs0, d0, ds0, p0, q0, hargs, rfl, rfl, h0, r0⟩ := trodAll_cons hA
  obtain ⟨v1, vs1, d1, ds1, p1, q1, rfl, rfl, rfl, h1, r1⟩ := trodAll_cons r0
  obtain ⟨v2, vs2, d2, ds2, p2, q2, rfl, rfl, rfl, h2, r2⟩ := trodAll_cons r1
  obtain ⟨v3, vs3, d3, ds3, p3, q3, rfl, rfl, rfl, h3, r3⟩ := trodAll_cons r2
  obtain ⟨rfl, rfl, rfl⟩ := trodAll_nil r3
  obtain rfl : args = #[v0, v1, v2, v3] := by cases args; simp_all
  obtain ⟨rfl, rfl⟩ := trodVars_none hV
  obtain ⟨a0, rfl, rfl, rfl, w0⟩ := open_int Try.underlying3 (hval 0 3 v0 rfl rfl) h0
  have k1 := h1
  have lt1 : ∀ x ∈ p1, x.block < W.heap.size := by obtain ⟨m, hm⟩ := k1; exact DataW.trod_lt m _ _ _ hm
  obtain ⟨a1, len1, cap1, rfl⟩ := okWide_slice Try.underlying22 (hval 1 22 v1 rfl rfl)
  obtain ⟨l1, w1⟩ := triples_in h1
  have k2 := h2
  have lt2 : ∀ x ∈ p2, x.block < W.heap.size := by obtain ⟨m, hm⟩ := k2; exact DataW.trod_lt m _ _ _ hm
  obtain ⟨a2, len2, cap2, rfl⟩ := okWide_slice Try.underlying23 (hval 2 23 v2 rfl rfl)
  obtain ⟨z2, w2⟩ := ints_in Try.underlying23 Try.underlying3 (by kernel_rfl) h2
  obtain ⟨a3, rfl, rfl, rfl, w3⟩ := open_int Try.underlying3 (hval 3 3 v3 rfl rfl) h3
  clear hA0 hval0
  refine (walk a0 a1 len1 cap1 l1 a2 len2 cap2 z2 a3 W w0 w1 w2 w3).mono fun e W' ⟨he, kept⟩ => ?_
  subst he
  have bel : Below W.heap.size W W' := kept.toBelow (Nat.le_refl _) (fun _ x => x.elim)
  exact ⟨_, rfl, _, _, _, [], _, [], hW', trodAll_mk1 (shut_bool Try.underlying4 _), (trodAll_cons_mk (shut_int Try.underlying3 w0) (trodAll_cons_mk (Below.trod laidOut (by kernel_rfl) (of_decide_eq_true (by kernel_rfl)) k1 bel lt1) (trodAll_cons_mk (Below.trod laidOut (by kernel_rfl) (of_decide_eq_true (by kernel_rfl)) k2 bel lt2) (trodAll_cons_mk (shut_int Try.underlying3 w3) trodAll_mk0)))), rfl, bel.frame _, fun h => by cases h⟩

theorem over : Rows.SpanRunsSaid :=
  OpenClaim.holds_of_wide 3 Try.f3 rfl rfl rfl rfl rfl rfl rfl ⟨rfl, rfl, rfl, rfl, rfl⟩ rfl rfl rfl rfl rfl (by kernel_rfl) Try.func3 (by kernel_rfl)
    (of_decide_eq_true (by kernel_rfl)) (by unfold Func.isWrapper; first | (rw [if_pos (by decide +kernel)]; kernel_rfl) | (rw [if_neg (by decide +kernel)]; exact ⟨rfl, rfl⟩))
    (fun os started H enc _ => lifted os started H enc)

/-- The statement. -/
theorem proved : Rows.SpanRunsSaid := over
#print axioms proved
end Go.Proofs.Ytibgggchofpllaa.spanRuns
