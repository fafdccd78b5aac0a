/-
  For every input the law CellAll of rickyard/rickyardlaw4 returns true, and its arguments read afterwards as before. The law's own sentence: Whether any lock may be, what is taken, whose turn it is, what is left, how many wait, are the document's. No further conditions.
-/
import Derived.Test.YtabfjdococmbkaaRows
import Derived.Test.YtabfjdococmbkaaKept
import Derived.Test.YtabfjdococmbkaaShell
import Derived.WalkKit
import Derived.ProofKit
import Derived.OpenShut
import Derived.ChangeOld
import Derived.Below
import Derived.Lib.SmallJoins
import Derived.Test.YtabfjdococmbkaaCellAwake
import Derived.Deep.RegionHeld3
namespace Go.Proofs.Ytabfjdococmbkaa.cellAll
open Go.ChangeShapes Go.WideShapes Go.ChangeAt Go.RowKit
set_option linter.unusedVariables false
set_option maxRecDepth 100000

theorem own : ownKnob Try.prog.godebug = none := by kernel_rfl
theorem laidOut : laidOutB Try.prog = true := by kernel_rfl
theorem cell_on {w w' : World} (k : Kept Old w w') {p : Addr} {v : Value} (h : w.cell? p = some v) : w'.cell? p = some v := (k.cell (block_lt_of_cell h) (fun x => x)).trans h

set_option maxHeartbeats 8000000 in
/-- The walk: the Go text returns true, and nothing that was there has turned. -/
theorem walk (a0_0 : Int) (a0_1 : Int) (a1 : Int) (w : World) (w0_0 : (Lit.int .i64 a0_0).wf = true) (w0_1 : (Lit.int .i64 a0_1).wf = true) (w1 : (Lit.int .i64 a1).wf = true) :
    Calls Try.prog 3 #[.agg #[.int .i64 a0_0, .int .i64 a0_1], .int .i64 a1] w fun e w' => e = .returned (.bool true) ∧ Kept Old w w' := by
  go_enter Try.func3, Try.ntmps3
  go_wp2_with fail
  refine (take_any _ _ _).mono ?_
  rintro e w1 ⟨rfl, k1⟩
  have b := (Box.new w a0_0 a0_1).old k1
  have B0 := Lib.hid b
  have h0 := b.c0
  have h1 := b.c1
  have l1 := Blk.lt b
  have K1 := Lib.hid ((Kept.refl Old w).alloc (.cells #[.int .i64 a0_0, .int .i64 a0_1] 23) |>.trans k1)
  clear k1 b
  go_wp2_with fail
  refine (rtake_any _ _ _).mono ?_
  rintro e w2 ⟨rfl, k⟩
  have B1 := Lib.hid ((Box.new w1 (takeN a0_0 a0_1) (takeT a0_0 a0_1)).old k)
  have b := (B0.out.alloc _).old k
  clear B0 h0 h1 l1
  have B0 := Lib.hid b
  have h0 := b.c0
  have h1 := b.c1
  have l1 := Blk.lt b
  have K2 := Lib.hid ((K1.out.alloc _).trans k)
  clear k b K1
  go_wp2_with fail
  refine (leave_any _ _ _).mono ?_
  rintro e w3 ⟨rfl, k⟩
  have B2 := Lib.hid ((Box.new w2 (takeN a0_0 a0_1) (takeT a0_0 a0_1)).old k)
  have B1 := Lib.hid ((B1.out.alloc _).old k)
  have b := (B0.out.alloc _).old k
  clear B0 h0 h1 l1
  have B0 := Lib.hid b
  have h0 := b.c0
  have h1 := b.c1
  have l1 := Blk.lt b
  have K3 := Lib.hid ((K2.out.alloc _).trans k)
  clear k b K2
  go_wp2_with fail
  refine (rleave_any _ _ _).mono ?_
  rintro e w4 ⟨rfl, k⟩
  have B3 := Lib.hid ((Box.new w3 (leaveN a0_0 a0_1) (leaveT a0_0 a0_1)).old k)
  have B2 := Lib.hid ((B2.out.alloc _).old k)
  have B1 := Lib.hid ((B1.out.alloc _).old k)
  have B0 := Lib.hid ((B0.out.alloc _).old k)
  have K4 := Lib.hid ((K3.out.alloc _).trans k)
  clear k h0 h1 l1 K3
  go_wp2_with fail
  obtain ⟨W, hW⟩ : ∃ W, W = w4.alloc (.cells #[.int .i64 (leaveN a0_0 a0_1), .int .i64 (leaveT a0_0 a0_1)] 23) := ⟨_, rfl⟩
  rw [← hW]
  have K5 : Kept Old w W := by rw [hW]; exact K4.out.alloc _
  have q : Box W w4.heap.size (leaveN a0_0 a0_1) (leaveT a0_0 a0_1) ∧ Box W w3.heap.size (leaveN a0_0 a0_1) (leaveT a0_0 a0_1) ∧ Box W w2.heap.size (takeN a0_0 a0_1) (takeT a0_0 a0_1) ∧ Box W w1.heap.size (takeN a0_0 a0_1) (takeT a0_0 a0_1) ∧ Box W w.heap.size a0_0 a0_1 := by
    rw [hW]; exact ⟨Box.new _ _ _, B3.out.alloc _, B2.out.alloc _, B1.out.alloc _, B0.out.alloc _⟩
  clear hW B0 B1 B2 B3 K4
  obtain ⟨q4, q3, q2, q1, q0⟩ := q
  have c00 := q0.c0
  have c01 := q0.c1
  have c10 := q1.c0
  have c11 := q1.c1
  have c20 := q2.c0
  have c21 := q2.c1
  have c30 := q3.c0
  have c31 := q3.c1
  have c40 := q4.c0
  have c41 := q4.c1
  clear q4 q3 q2 q1 q0
  generalize w4.heap.size = s4 at *
  generalize w3.heap.size = s3 at *
  generalize w2.heap.size = s2 at *
  generalize w1.heap.size = s1 at *
  generalize hs0 : w.heap.size = s0 at *
  go_region_held3 (fun w' => Kept Old w w' ∧ w'.cell? ⟨s0, 0, none⟩ = some (.int .i64 a0_0) ∧ w'.cell? ⟨s0, 1, none⟩ = some (.int .i64 a0_1) ∧ w'.cell? ⟨s1, 0, none⟩ = some (.int .i64 (takeN a0_0 a0_1)) ∧ w'.cell? ⟨s1, 1, none⟩ = some (.int .i64 (takeT a0_0 a0_1)) ∧
      w'.cell? ⟨s2, 0, none⟩ = some (.int .i64 (takeN a0_0 a0_1)) ∧ w'.cell? ⟨s2, 1, none⟩ = some (.int .i64 (takeT a0_0 a0_1)) ∧ w'.cell? ⟨s3, 0, none⟩ = some (.int .i64 (leaveN a0_0 a0_1)) ∧ w'.cell? ⟨s3, 1, none⟩ = some (.int .i64 (leaveT a0_0 a0_1)) ∧ w'.cell? ⟨s4, 0, none⟩ = some (.int .i64 (leaveN a0_0 a0_1)) ∧ w'.cell? ⟨s4, 1, none⟩ = some (.int .i64 (leaveT a0_0 a0_1)))
    (first
      | (exact ⟨‹_›, ‹_›, ‹_›, ‹_›, ‹_›, ‹_›, ‹_›, ‹_›, ‹_›, ‹_›, ‹_›⟩)
      | (exact ⟨Kept.drew ‹_›, ‹_›, ‹_›, ‹_›, ‹_›, ‹_›, ‹_›, ‹_›, ‹_›, ‹_›, ‹_›⟩)
      | (go_split_ands; exact ⟨Kept.trans ‹_› k, cell_on k ‹_›, cell_on k ‹_›, cell_on k ‹_›, cell_on k ‹_›, cell_on k ‹_›, cell_on k ‹_›, cell_on k ‹_›, cell_on k ‹_›, cell_on k ‹_›, cell_on k ‹_›⟩)
      | go_keep)
    (first
      | (go_at_call 12; refine (may_any _ _ _).mono ?_; rintro e w' ⟨rfl, k⟩)
      | (go_at_call 13; refine (rmay_any _ _ _).mono ?_; rintro e w' ⟨rfl, k⟩)
      | (go_at_call 14; refine (mine_any _ _ _ _).mono ?_; rintro e w' ⟨rfl, k⟩)
      | (go_at_call 15; refine (rmine_any _ _ _ _).mono ?_; rintro e w' ⟨rfl, k⟩)
      | (go_at_call 16; refine (held_any _ _ _).mono ?_; rintro e w' ⟨rfl, k⟩)
      | (go_at_call 17; refine (rheld_any _ _ _).mono ?_; rintro e w' ⟨rfl, k⟩)
      | (go_at_call 18; refine (wait_any _ _ _).mono ?_; rintro e w' ⟨rfl, k⟩)
      | (go_at_call 19; refine (rwait_any _ _ _).mono ?_; rintro e w' ⟨rfl, k⟩)
      | (go_at_call 20; refine (awake_any _).mono ?_; rintro e w' ⟨rfl, k⟩))
  have K6 := Lib.hid (‹Kept Old w _ ∧ _›).1
  go_wp2_with fail
  go_ret
  exact ⟨rfl, K6.out⟩

/-- The row's step. -/
theorem lifted (os : Os) (started : os.Started) (H : Type) (enc : TypeId × Value → H) :
    ReturnsInHanded {} Try.checked os 3 .any (Rows.cellAllSpec.pre6 enc Try.prog Try.f3 Rows.cellAllRow.domain false) (Rows.cellAllSpec.post enc Try.prog Try.f3 false true false false) := by
  refine returnsInHanded_of_change (C := Try.checked) own started (by kernel_rfl) Try.func3
    (ChangeSpec.witness6 (enc := enc) (C := Try.checked) false ⟨#[], #[.agg #[.int .i64 0, .int .i64 0], .int .i64 0], []⟩ 8 (by kernel_rfl) (by kernel_rfl) (by kernel_rfl) (by kernel_rfl)) ?_
  intro W base args ds gs before hval0 hW hcnd _
  have hval : ∀ (j : Nat) t v, Try.f3.params[j]? = some t → args[j]? = some v → Value.okWide Try.prog W .any base t v := hval0
  have hW' := hW
  obtain ⟨p, q, hA0, hV, rfl, hfz, hnd⟩ := hW
  have hA : DataW.TrodAll enc Try.prog W 0 (fun _ => true) true Try.f3.params.toList args.toList ds p := hA0
  rw [Try.params3] at hA hval
  obtain ⟨v0, vs0, d0, ds0, p0, q0, hargs, rfl, rfl, h0, r0⟩ := trodAll_cons hA
  obtain ⟨v1, vs1, d1, ds1, p1, q1, rfl, rfl, rfl, h1, r1⟩ := trodAll_cons r0
  obtain ⟨rfl, rfl, rfl⟩ := trodAll_nil r1
  obtain rfl : args = #[v0, v1] := by cases args; simp_all
  obtain ⟨rfl, rfl⟩ := trodVars_none hV
  have k0 := h0
  have lt0 : ∀ x ∈ p0, x.block < W.heap.size := by obtain ⟨m, hm⟩ := k0; exact DataW.trod_lt m _ _ _ hm
  obtain ⟨u0_0, u0_1, y0_0, y0_1, n0, rfl, _, _, t0_0, t0_1⟩ := Joins.open_agg2 Try.underlying23 (by kernel_rfl) (by kernel_rfl) (hval 0 23 v0 rfl rfl) h0
  obtain ⟨a0_0, e0_0, _, w0_0⟩ := DataW.trod_int Try.underlying3 t0_0
  obtain rfl := List.head_eq_of_cons_eq e0_0
  obtain ⟨a0_1, e0_1, _, w0_1⟩ := DataW.trod_int Try.underlying3 t0_1
  obtain rfl := List.head_eq_of_cons_eq e0_1
  obtain ⟨a1, rfl, rfl, rfl, w1⟩ := open_int Try.underlying3 (hval 1 3 v1 rfl rfl) h1
  clear hA0 hval0
  refine (walk a0_0 a0_1 a1 W w0_0 w0_1 w1).mono fun e W' ⟨he, kept⟩ => ?_
  subst he
  have bel : Below W.heap.size W W' := kept.toBelow (Nat.le_refl _) (fun _ x => x.elim)
  exact ⟨_, rfl, _, _, _, [], _, [], hW', trodAll_mk1 (shut_bool Try.underlying4 _), (trodAll_cons_mk (Below.trod laidOut (by kernel_rfl) (of_decide_eq_true (by kernel_rfl)) k0 bel lt0) (trodAll_cons_mk (shut_int Try.underlying3 w1) trodAll_mk0)), rfl, bel.frame _, fun h => by cases h⟩

theorem over : Rows.CellAllSaid :=
  OpenClaim.holds_of_wide 3 Try.f3 rfl rfl rfl rfl rfl rfl rfl ⟨rfl, rfl, rfl, rfl, rfl⟩ rfl rfl rfl rfl rfl (by kernel_rfl) Try.func3 (by kernel_rfl)
    (of_decide_eq_true (by kernel_rfl)) (by unfold Func.isWrapper; first | (rw [if_pos (by decide +kernel)]; kernel_rfl) | (rw [if_neg (by decide +kernel)]; exact ⟨rfl, rfl⟩))
    (fun os started H enc _ => lifted os started H enc)

/-- The statement. -/
theorem proved : Rows.CellAllSaid := over
#print axioms proved
end Go.Proofs.Ytabfjdococmbkaa.cellAll
