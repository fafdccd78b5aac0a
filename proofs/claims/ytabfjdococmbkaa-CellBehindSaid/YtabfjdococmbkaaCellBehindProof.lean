/-
  For every input the law CellBehind of rickyard/rickyardlaw4 returns true, and its arguments read afterwards as before. The law's own sentence: Who takes a ticket of any lock has its turn behind just those that took one ahead of it, as each of them leaves. No further conditions.
-/
import Derived.Test.YtabfjdococmbkaaRows
import Derived.Test.YtabfjdococmbkaaKept
import Derived.Test.YtabfjdococmbkaaShell
import Derived.WalkKit
import Derived.ProofKit
import Derived.OpenShut
import Derived.ChangeOld
import Derived.Below
import Derived.Lib.SmallJoins
import Derived.Test.YtabfjdococmbkaaCellSt
namespace Go.Proofs.Ytabfjdococmbkaa.cellBehind
open Go.ChangeShapes Go.WideShapes Go.ChangeAt Go.RowKit
set_option linter.unusedVariables false
set_option maxRecDepth 100000

theorem own : ownKnob Try.prog.godebug = none := by kernel_rfl
theorem laidOut : laidOutB Try.prog = true := by kernel_rfl
theorem guard_ways (n t : Int) : (mayB n t = false ∧ True ∧ True) ∨ (mayB n t = true ∧ 1152921504606846976 < n ∧ True) ∨ (mayB n t = true ∧ ¬ 1152921504606846976 < n ∧ 300 < n - t) ∨ (mayB n t = true ∧ ¬ 1152921504606846976 < n ∧ ¬ 300 < n - t) := by
  cases mayB n t
  · exact .inl ⟨rfl, trivial, trivial⟩
  · by_cases c : 1152921504606846976 < n
    · exact .inr (.inl ⟨rfl, c, trivial⟩)
    · by_cases d : 300 < n - t
      · exact .inr (.inr (.inl ⟨rfl, c, d⟩))
      · exact .inr (.inr (.inr ⟨rfl, c, d⟩))

set_option maxHeartbeats 8000000 in
/-- The walk: the Go text returns true, and nothing that was there has turned. -/
theorem walk (a0_0 : Int) (a0_1 : Int) (a1 : Int) (w : World) (w0_0 : (Lit.int .i64 a0_0).wf = true) (w0_1 : (Lit.int .i64 a0_1).wf = true) (w1 : (Lit.int .u8 a1).wf = true) :
    Calls Try.prog 7 #[.agg #[.int .i64 a0_0, .int .i64 a0_1], .int .u8 a1] w fun e w' => e = .returned (.bool true) ∧ Kept Old w w' := by
  have b1 := bounds_u8 w1
  obtain ⟨m, rfl⟩ : ∃ m : Nat, a1 = m := ⟨a1.toNat, by omega⟩
  have B0 := Lib.hid (bounds_i64 w0_0)
  have B1 := Lib.hid (bounds_i64 w0_1)
  clear w0_0 w0_1 w1
  rcases guard_ways a0_0 a0_1 with ⟨hm, c1, c2⟩ | ⟨hm, c1, c2⟩ | ⟨hm, c1, c2⟩ | ⟨hm, c1, c2⟩
  all_goals
    try
      have hb := of_decide_eq_true hm
      have d0 : 0 ≤ a0_1 := hb.1
      have d1 : a0_1 ≤ a0_0 := hb.2.1
      have d2 : a0_0 ≤ 2305843009213693952 := hb.2.2
      clear hb
    have hm := Lib.hid hm
    go_enter Try.func7, Try.ntmps7
    go_wp2_with fail
    refine (rmay_any _ _ _).mono ?_
    rintro e w1 ⟨rfl, k⟩
    rw [hm.out]
    have b := (Box.new w a0_0 a0_1).old k
    have h0 := b.c0
    have h1 := b.c1
    have l1 := Blk.lt b
    have B := Lib.hid b
    have K := Lib.hid (((Kept.refl Old w).alloc _).trans k)
    clear k b
    go_wp2_with fail
  iterate 3
    refine (awake_any _).mono ?_
    rintro e w2 ⟨rfl, k⟩
    go_wp2_with fail
    go_ret
    exact ⟨rfl, K.out.trans k⟩
  have n2 : a0_0 ≤ 1152921504606846976 := by omega
  have n3 : a0_0 - a0_1 ≤ 300 := by omega
  clear c1 c2 d2 B0 B1
  refine (take_ok _ _ _ hm.out (by omega)).mono ?_
  rintro e w2 ⟨rfl, k⟩
  have S := Lib.hid (show St w w.heap.size w2.heap.size a0_0 a0_1 (a0_0 + 1) a0_1 (w2.alloc (.cells #[.int .i64 (a0_0 + 1), .int .i64 a0_1] 23)) from
    ⟨(K.out.trans k).alloc _, (B.out.old k).alloc _, Box.new _ _ _, (K.out.trans k).size, by have := Blk.lt (B.out.old k); omega⟩)
  clear h0 h1 l1 B K k hm
  go_wp2_with fail
  generalize hbx : w2.heap.size = bx at *
  generalize hbl : w.heap.size = bl at *
  go_loopw [8] (fun i wr => ∃ k : Nat, k ≤ m ∧ i = .int .i64 (k : Int) ∧ Hid (St w bl bx a0_0 a0_1 (a0_0 + 1 + (k : Int)) a0_1 wr)) (fun i _ => m - (intOf i).toNat)
  case atStart => exact ⟨0, by omega, rfl, by rw [show a0_0 + 1 + ((0 : Nat) : Int) = a0_0 + 1 by omega]; exact S⟩
  case round =>
    obtain ⟨k, hk, rfl, H⟩ := hrel
    rename World => W
    by_cases c : k < m
    · have c' : (k : Int) < (m : Int) := by omega
      have x0 := H.out.bx.c0
      have x1 := H.out.bx.c1
      go_wp2_with fail
      refine (take_ok _ _ _ (may_in (by omega) (by omega) (by omega)) (by omega)).mono ?_
      rintro e w3 ⟨rfl, q⟩
      have H1 := Lib.hid (H.out.call q)
      clear x0 x1 q
      have x0 := H1.out.bx.c0
      have x1 := H1.out.bx.c1
      have lx := H1.out.lt
      have f0 := Blk.frozen H1.out.bx 0
      have f1 := Blk.frozen H1.out.bx 1
      go_wp2_with fail
      refine ⟨⟨k + 1, by omega, by go_num, ?_⟩, ?_⟩
      · rw [show a0_0 + 1 + ((k + 1 : Nat) : Int) = a0_0 + 1 + (k : Int) + 1 by omega]
        exact Lib.hid ((H1.out.put _ _).alloc _)
      · simp [intOf]; omega
    · have c' : ¬ (k : Int) < (m : Int) := by omega
      obtain rfl : k = m := by omega
      have y0 := H.out.bl.c0
      have y1 := H.out.bl.c1
      go_wp2_with fail
      clear c c' hk S
      go_loopw [12] (fun i wr => ∃ j : Int, a0_1 ≤ j ∧ j ≤ a0_0 ∧ i = .int .i64 j ∧ Hid (St w bl bx a0_0 a0_1 (a0_0 + 1 + (k : Int)) j wr)) (fun i _ => (a0_0 - intOf i).toNat)
      case atStart => exact ⟨a0_1, by omega, by omega, rfl, H⟩
      case round =>
        obtain ⟨j, j0, j1, rfl, G⟩ := hrel
        rename World => V
        clear y0 y1 H
        have y0 := G.out.bl.c0
        have y1 := G.out.bl.c1
        have x0 := G.out.bx.c0
        have x1 := G.out.bx.c1
        by_cases c : j < a0_0
        · go_wp2_with fail
          refine (mine_no _ (fun _ => by omega)).mono ?_
          rintro e w3 ⟨rfl, q⟩
          have G1 := Lib.hid (G.out.call q)
          clear x0 x1 y0 y1 q G
          have x0 := G1.out.bx.c0
          have x1 := G1.out.bx.c1
          go_wp2_with fail
          refine (mine_yes _ (held_in (by omega) (by omega) (by omega))).mono ?_
          rintro e w4 ⟨rfl, q⟩
          have G2 := Lib.hid (G1.out.call q)
          clear x0 x1 q G1
          have x0 := G2.out.bx.c0
          have x1 := G2.out.bx.c1
          go_wp2_with fail
          refine (leave_ok _ _ _ (held_in (by omega) (by omega) (by omega))).mono ?_
          rintro e w5 ⟨rfl, q⟩
          have G3 := Lib.hid (G2.out.call q)
          clear x0 x1 q G2
          have x0 := G3.out.bx.c0
          have x1 := G3.out.bx.c1
          have lx := G3.out.lt
          have f0 := Blk.frozen G3.out.bx 0
          have f1 := Blk.frozen G3.out.bx 1
          go_wp2_with fail
          refine ⟨⟨j + 1, by omega, by omega, by go_num, Lib.hid ((G3.out.put _ _).alloc _)⟩, ?_⟩
          simp [intOf]; omega
        · obtain rfl : j = a0_0 := by omega
          go_wp2_with fail
          refine (mine_yes _ (held_in (by omega) (by omega) (by omega))).mono ?_
          rintro e w3 ⟨rfl, q⟩
          have G1 := Lib.hid (G.out.call q)
          clear x0 x1 y0 y1 q G
          have x0 := G1.out.bx.c0
          have x1 := G1.out.bx.c1
          have hw := wait_any (j + 1 + (k : Int)) j w3
          rw [wait_in (held_in (by omega) (by omega) (by omega)), show j + 1 + (k : Int) - j - 1 = (k : Int) by omega] at hw
          have HW := Lib.hid hw
          clear hw
          go_wp2_with fail
          refine HW.out.mono ?_
          rintro e w4 ⟨rfl, q⟩
          have K2 := Lib.hid (G1.out.kept.trans q)
          clear x0 x1 q G1 HW
          go_wp2_with fail
          refine (awake_any _).mono ?_
          rintro e w5 ⟨rfl, q⟩
          go_wp2_with fail
          go_ret
          exact ⟨rfl, K2.out.trans q⟩

/-- The row's step. -/
theorem lifted (os : Os) (started : os.Started) (H : Type) (enc : TypeId × Value → H) :
    ReturnsInHanded {} Try.checked os 7 .any (Rows.cellBehindSpec.pre6 enc Try.prog Try.f7 Rows.cellBehindRow.domain false) (Rows.cellBehindSpec.post enc Try.prog Try.f7 false true false false) := by
  refine returnsInHanded_of_change (C := Try.checked) own started (by kernel_rfl) Try.func7
    (ChangeSpec.witness6 (enc := enc) (C := Try.checked) false ⟨#[], #[.agg #[.int .i64 0, .int .i64 0], .int .u8 0], []⟩ 8 (by kernel_rfl) (by kernel_rfl) (by kernel_rfl) (by kernel_rfl)) ?_
  intro W base args ds gs before hval0 hW hcnd _
  have hval : ∀ (j : Nat) t v, Try.f7.params[j]? = some t → args[j]? = some v → Value.okWide Try.prog W .any base t v := hval0
  have hW' := hW
  obtain ⟨p, q, hA0, hV, rfl, hfz, hnd⟩ := hW
  have hA : DataW.TrodAll enc Try.prog W 0 (fun _ => true) true Try.f7.params.toList args.toList ds p := hA0
  rw [Try.params7] at hA hval
  obtain ⟨v0, vs0, d0, ds0, p0, q0, hargs, rfl, rfl, h0, r0⟩ := trodAll_cons hA
  obtain ⟨v1, vs1, d1, ds1, p1, q1, rfl, rfl, rfl, h1, r1⟩ := trodAll_cons r0
  obtain ⟨rfl, rfl, rfl⟩ := trodAll_nil r1
  obtain rfl : args = #[v0, v1] := by cases args; simp_all
  obtain ⟨rfl, rfl⟩ := trodVars_none hV
  have k0 := h0
  have lt0 : ∀ x ∈ p0, x.block < W.heap.size := by obtain ⟨m, hm⟩ := k0; exact DataW.trod_lt m _ _ _ hm
  obtain ⟨u0_0, u0_1, y0_0, y0_1, n0, rfl, _, _, t0_0, t0_1⟩ := Joins.open_agg2 Try.underlying23 (by kernel_rfl) (by kernel_rfl) (hval 0 23 v0 rfl rfl) h0
  obtain ⟨a0_0, e0_0, _, w0_0⟩ := DataW.trod_int Try.underlying3 t0_0
  obtain rfl := List.head_eq_of_cons_eq e0_0
  obtain ⟨a0_1, e0_1, _, w0_1⟩ := DataW.trod_int Try.underlying3 t0_1
  obtain rfl := List.head_eq_of_cons_eq e0_1
  obtain ⟨a1, rfl, rfl, rfl, w1⟩ := open_int Try.underlying5 (hval 1 5 v1 rfl rfl) h1
  clear hA0 hval0
  refine (walk a0_0 a0_1 a1 W w0_0 w0_1 w1).mono fun e W' ⟨he, kept⟩ => ?_
  subst he
  have bel : Below W.heap.size W W' := kept.toBelow (Nat.le_refl _) (fun _ x => x.elim)
  exact ⟨_, rfl, _, _, _, [], _, [], hW', trodAll_mk1 (shut_bool Try.underlying4 _), (trodAll_cons_mk (Below.trod laidOut (by kernel_rfl) (of_decide_eq_true (by kernel_rfl)) k0 bel lt0) (trodAll_cons_mk (shut_int Try.underlying5 w1) trodAll_mk0)), rfl, bel.frame _, fun h => by cases h⟩

theorem over : Rows.CellBehindSaid :=
  OpenClaim.holds_of_wide 7 Try.f7 rfl rfl rfl rfl rfl rfl rfl ⟨rfl, rfl, rfl, rfl, rfl⟩ rfl rfl rfl rfl rfl (by kernel_rfl) Try.func7 (by kernel_rfl)
    (of_decide_eq_true (by kernel_rfl)) (by unfold Func.isWrapper; first | (rw [if_pos (by decide +kernel)]; kernel_rfl) | (rw [if_neg (by decide +kernel)]; exact ⟨rfl, rfl⟩))
    (fun os started H enc _ => lifted os started H enc)

/-- The statement. -/
theorem proved : Rows.CellBehindSaid := over
#print axioms proved
end Go.Proofs.Ytabfjdococmbkaa.cellBehind
