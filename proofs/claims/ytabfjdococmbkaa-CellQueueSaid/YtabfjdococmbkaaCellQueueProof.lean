/-
  For every input the law CellQueue of rickyard/rickyardlaw4 returns true, and its arguments read afterwards as before. The law's own sentence: Whoever takes and leaves: tickets are told in order, each has its turn in that order, as many wait as were told and have not had it. No further conditions.
-/
import Derived.Test.YtabfjdococmbkaaRows
import Derived.Test.YtabfjdococmbkaaKept
import Derived.Test.YtabfjdococmbkaaShell
import Derived.WalkKit
import Derived.ProofKit
import Derived.OpenShut
import Derived.ChangeOld
import Derived.Below
import Derived.Lib.SmallJoins
import Derived.Test.YtabfjdococmbkaaCellSt
namespace Go.Proofs.Ytabfjdococmbkaa.cellQueue
open Go.ChangeShapes Go.WideShapes Go.ChangeAt Go.RowKit
set_option linter.unusedVariables false
set_option maxRecDepth 100000

theorem own : ownKnob Try.prog.godebug = none := by kernel_rfl
theorem laidOut : laidOutB Try.prog = true := by kernel_rfl
/-- In W block l, which the call made itself, is the lock (T, G); what was there in w is as it was. -/
structure Qu (w : World) (l : Nat) (T G : Int) (W : World) : Prop where
  kept : Kept Old w W
  box : Box W l T G
  own : w.heap.size ≤ l
theorem Qu.call {w W W' : World} {l : Nat} {T G : Int} (h : Qu w l T G W) (k : Kept Old W W') : Qu w l T G W' := ⟨h.kept.trans k, h.box.old k, h.own⟩
theorem Qu.put {w W : World} {l : Nat} {T G : Int} (h : Qu w l T G W) (T' G' : Int) : Qu w l T' G' ((W.setCell ⟨l, 0, none⟩ (.int .i64 T')).setCell ⟨l, 1, none⟩ (.int .i64 G')) := ⟨Box.kept2 h.kept h.own _ _, h.box.put2 _ _, h.own⟩
theorem Qu.alloc {w W : World} {l : Nat} {T G : Int} (h : Qu w l T G W) (o : Obj) : Qu w l T G (W.alloc o) := ⟨h.kept.alloc _, h.box.alloc _, h.own⟩
theorem Qu.lt {w W : World} {l : Nat} {T G : Int} (h : Qu w l T G W) : l < W.heap.size := Blk.lt h.box
theorem held_is {T G : Int} (h0 : 0 ≤ G) (h2 : T ≤ 2000) (w : World) : Calls Try.prog 16 #[lock T G] w fun e w' => e = .returned (.bool (decide (G < T))) ∧ Kept Old w w' := by
  have := held_any T G w
  rwa [show heldB T G = decide (G < T) by unfold heldB; by_cases c : G < T <;> simp [c] <;> omega] at this
theorem mine_is {T G : Int} (h0 : 0 ≤ G) (h2 : T ≤ 2000) (w : World) : Calls Try.prog 14 #[lock T G, .int .i64 G] w fun e w' => e = .returned (.bool (decide (G < T))) ∧ Kept Old w w' := by
  have := mine_any T G G w
  rwa [decide_eq_true rfl, Bool.and_true, show heldB T G = decide (G < T) by unfold heldB; by_cases c : G < T <;> simp [c] <;> omega] at this
theorem wait_is {T G : Int} (h0 : 0 ≤ G) (h1 : G ≤ T) (h2 : T ≤ 2000) (w : World) : Calls Try.prog 18 #[lock T G] w fun e w' => e = .returned (.int .i64 (max (T - G - 1) 0)) ∧ Kept Old w w' := by
  have := wait_any T G w
  rwa [show waitN T G = max (T - G - 1) 0 by
    rcases wait_cases T G with ⟨h, e, _⟩ | ⟨_, e, _⟩
    · have := of_decide_eq_false h; omega
    · omega] at this
theorem may_is {T G : Int} (h0 : 0 ≤ G) (h1 : G ≤ T) (h2 : T ≤ 2000) (w : World) : Calls Try.prog 12 #[lock T G] w fun e w' => e = .returned (.bool true) ∧ Kept Old w w' := by
  have := may_any T G w
  rwa [may_in h0 h1 (by omega)] at this

set_option maxHeartbeats 8000000 in
/-- The walk: the Go text returns true, and nothing that was there has turned. -/
theorem walk (a0 : Option Addr) (len0 cap0 : Nat) (z0 : Nat → Bool) (w : World) (w0 : len0 ≤ cap0 ∧ cap0 ≤ maxLen ∧ Sl w a0 1 len0 fun i _ => .bool (z0 i)) :
    Calls Try.prog 5 #[.slice a0 len0 cap0] w fun e w' => e = .returned (.bool true) ∧ Kept Old w w' := by
  obtain ⟨v0, v1, v2⟩ := w0
  have hl : (len0 : Int) ≤ 9223372036854775807 := by unfold maxLen at v1; omega
  have HS := Lib.hid v2.lies
  clear v0 v1 v2
  go_enter Try.func5, Try.ntmps5
  go_wp2_with fail
  have S := Lib.hid (show Qu w w.heap.size 0 0 (w.alloc (.cells #[.int .i64 0, .int .i64 0] 23)) from ⟨(Kept.refl _ _).alloc _, Box.new _ _ _, Nat.le_refl _⟩)
  generalize hbl : w.heap.size = bl at *
  go_loopw [4, 5, 6] (fun told gone i wr => ∃ T G k : Nat, G ≤ T ∧ T ≤ k ∧ k ≤ 2000 ∧ told = .int .i64 (T : Int) ∧ gone = .int .i64 (G : Int) ∧ i = .int .i64 (k : Int) ∧ Hid (Qu w bl (T : Int) (G : Int) wr)) (fun _ _ i _ => 2000 - (intOf i).toNat)
  case atStart => exact ⟨0, 0, 0, by omega, by omega, by omega, rfl, rfl, rfl, S⟩
  case round =>
    obtain ⟨T, G, k, h1, h2, h3, rfl, rfl, rfl, H⟩ := hrel
    rename World => W
    clear S
    by_cases c : k < len0
    · have c' : (k : Int) < (len0 : Int) := by omega
      by_cases d : k < 2000
      · have d' : (k : Int) < 2000 := by omega
        obtain ⟨g, o, rfl, hg, hc⟩ := HS.out (by omega)
        have zc : W.cell? ⟨g, o + k, none⟩ = some (.bool (z0 k)) := by
          have := hc k 0 c (by omega)
          rw [Nat.mul_one, Nat.add_zero] at this
          exact (H.out.kept.cell (p := ⟨g, o + k, none⟩) (by rw [hbl]; exact hg) (fun x => x)).trans this
        clear hc HS
        have x0 := H.out.box.c0
        have x1 := H.out.box.c1
        cases hz : z0 k
        · rw [hz] at zc
          clear hz
          by_cases e : G < T
          · have e' : (G : Int) < (T : Int) := by omega
            by_cases e2 : (G : Int) + 1 < (T : Int)
            all_goals
              go_wp2_with fail
              refine (leave_ok _ _ _ (held_in (by omega) (by omega) (by omega))).mono ?_
              rintro e w1 ⟨rfl, q⟩
              have H1 := Lib.hid (H.out.call q)
              clear x0 x1 q H zc
              have x0 := H1.out.box.c0
              have x1 := H1.out.box.c1
              have lx := H1.out.lt
              have f0 := Blk.frozen H1.out.box 0
              have f1 := Blk.frozen H1.out.box 1
              go_wp2_with fail
              refine (held_is (by omega) (by omega) _).mono ?_
              rintro e w2 ⟨rfl, q⟩
              have H3 := Lib.hid (((H1.out.put (T : Int) ((G : Int) + 1)).alloc _).call q)
              clear H1 q x0 x1 lx f0 f1
              have x0 := H3.out.box.c0
              have x1 := H3.out.box.c1
              go_wp2_with fail
              refine (mine_is (by omega) (by omega) _).mono ?_
              rintro e w3 ⟨rfl, q⟩
              have H4 := Lib.hid (H3.out.call q)
              clear H3 q x0 x1
              have x0 := H4.out.box.c0
              have x1 := H4.out.box.c1
              go_wp2_with fail
              refine (mine_no _ (fun _ => by omega)).mono ?_
              rintro e w4 ⟨rfl, q⟩
              have H5 := Lib.hid (H4.out.call q)
              clear H4 q x0 x1
              have x0 := H5.out.box.c0
              have x1 := H5.out.box.c1
              go_wp2_with fail
              refine (mine_no _ (fun _ => by omega)).mono ?_
              rintro e w5 ⟨rfl, q⟩
              have H6 := Lib.hid (H5.out.call q)
              clear H5 q x0 x1
              have x0 := H6.out.box.c0
              have x1 := H6.out.box.c1
              go_wp2_with fail
              refine (wait_is (by omega) (by omega) (by omega) _).mono ?_
              rintro e w6 ⟨rfl, q⟩
              have H7 := Lib.hid (H6.out.call q)
              clear H6 q x0 x1
              have x0 := H7.out.box.c0
              have x1 := H7.out.box.c1
              go_wp2_with fail
              refine (may_is (by omega) (by omega) (by omega) _).mono ?_
              rintro e w7 ⟨rfl, q⟩
              have H8 := Lib.hid (H7.out.call q)
              clear H7 q x0 x1
              go_wp2_with fail
              refine ⟨⟨T, G + 1, k + 1, by omega, by omega, by omega, by go_num, by go_num, by go_num, H8⟩, ?_⟩
              simp [intOf]; omega
          · have e' : ¬ (G : Int) < (T : Int) := by omega
            have hh : heldB (T : Int) (G : Int) = false := decide_eq_false (by omega)
            have HH := Lib.hid hh
            clear hh
            go_wp2_with fail
            refine (leave_no _ _ _ HH.out).mono ?_
            rintro e w1 ⟨rfl, q⟩
            have H1 := Lib.hid (H.out.call q)
            clear x0 x1 q H zc
            have x0 := H1.out.box.c0
            have x1 := H1.out.box.c1
            have lx := H1.out.lt
            have f0 := Blk.frozen H1.out.box 0
            have f1 := Blk.frozen H1.out.box 1
            go_wp2_with fail
            refine (held_is (by omega) (by omega) _).mono ?_
            rintro e w2 ⟨rfl, q⟩
            have H3 := Lib.hid ((H1.out.alloc _).call q)
            clear H1 q x0 x1 lx f0 f1
            have x0 := H3.out.box.c0
            have x1 := H3.out.box.c1
            go_wp2_with fail
            refine (mine_is (by omega) (by omega) _).mono ?_
            rintro e w3 ⟨rfl, q⟩
            have H4 := Lib.hid (H3.out.call q)
            clear H3 q x0 x1
            have x0 := H4.out.box.c0
            have x1 := H4.out.box.c1
            go_wp2_with fail
            refine (mine_no _ (fun _ => by omega)).mono ?_
            rintro e w4 ⟨rfl, q⟩
            have H5 := Lib.hid (H4.out.call q)
            clear H4 q x0 x1
            have x0 := H5.out.box.c0
            have x1 := H5.out.box.c1
            go_wp2_with fail
            refine (mine_no _ (fun _ => by omega)).mono ?_
            rintro e w5 ⟨rfl, q⟩
            have H6 := Lib.hid (H5.out.call q)
            clear H5 q x0 x1
            have x0 := H6.out.box.c0
            have x1 := H6.out.box.c1
            go_wp2_with fail
            refine (wait_is (by omega) (by omega) (by omega) _).mono ?_
            rintro e w6 ⟨rfl, q⟩
            have H7 := Lib.hid (H6.out.call q)
            clear H6 q x0 x1
            have x0 := H7.out.box.c0
            have x1 := H7.out.box.c1
            go_wp2_with fail
            refine (may_is (by omega) (by omega) (by omega) _).mono ?_
            rintro e w7 ⟨rfl, q⟩
            have H8 := Lib.hid (H7.out.call q)
            clear H7 q x0 x1
            go_wp2_with fail
            refine ⟨⟨T, G, k + 1, by omega, by omega, by omega, by go_num, by go_num, by go_num, H8⟩, ?_⟩
            simp [intOf]; omega
        · rw [hz] at zc
          clear hz
          go_wp2_with fail
          refine (take_ok _ _ _ (may_in (by omega) (by omega) (by omega)) (by omega)).mono ?_
          rintro e w1 ⟨rfl, q⟩
          have H1 := Lib.hid (H.out.call q)
          clear x0 x1 q H zc
          have x0 := H1.out.box.c0
          have x1 := H1.out.box.c1
          have lx := H1.out.lt
          have f0 := Blk.frozen H1.out.box 0
          have f1 := Blk.frozen H1.out.box 1
          go_wp2_with fail
          refine (held_is (by omega) (by omega) _).mono ?_
          rintro e w2 ⟨rfl, q⟩
          have H3 := Lib.hid (((H1.out.put ((T : Int) + 1) (G : Int)).alloc _).call q)
          clear H1 q x0 x1 lx f0 f1
          have x0 := H3.out.box.c0
          have x1 := H3.out.box.c1
          go_wp2_with fail
          refine (mine_is (by omega) (by omega) _).mono ?_
          rintro e w3 ⟨rfl, q⟩
          have H4 := Lib.hid (H3.out.call q)
          clear H3 q x0 x1
          have x0 := H4.out.box.c0
          have x1 := H4.out.box.c1
          go_wp2_with fail
          refine (mine_no _ (fun _ => by omega)).mono ?_
          rintro e w4 ⟨rfl, q⟩
          have H5 := Lib.hid (H4.out.call q)
          clear H4 q x0 x1
          have x0 := H5.out.box.c0
          have x1 := H5.out.box.c1
          go_wp2_with fail
          refine (mine_no _ (fun _ => by omega)).mono ?_
          rintro e w5 ⟨rfl, q⟩
          have H6 := Lib.hid (H5.out.call q)
          clear H5 q x0 x1
          have x0 := H6.out.box.c0
          have x1 := H6.out.box.c1
          go_wp2_with fail
          refine (wait_is (by omega) (by omega) (by omega) _).mono ?_
          rintro e w6 ⟨rfl, q⟩
          have H7 := Lib.hid (H6.out.call q)
          clear H6 q x0 x1
          have x0 := H7.out.box.c0
          have x1 := H7.out.box.c1
          go_wp2_with fail
          refine (may_is (by omega) (by omega) (by omega) _).mono ?_
          rintro e w7 ⟨rfl, q⟩
          have H8 := Lib.hid (H7.out.call q)
          clear H7 q x0 x1
          go_wp2_with fail
          refine ⟨⟨T + 1, G, k + 1, by omega, by omega, by omega, by go_num, by go_num, by go_num, H8⟩, ?_⟩
          simp [intOf]; omega
      · have d' : ¬ (k : Int) < 2000 := by omega
        go_wp2_with fail
        refine (awake_any _).mono ?_
        rintro e w1 ⟨rfl, q⟩
        go_wp2_with fail
        go_ret
        exact ⟨rfl, H.out.kept.trans q⟩
    · have c' : ¬ (k : Int) < (len0 : Int) := by omega
      go_wp2_with fail
      refine (awake_any _).mono ?_
      rintro e w1 ⟨rfl, q⟩
      go_wp2_with fail
      go_ret
      exact ⟨rfl, H.out.kept.trans q⟩

/-- The row's step. -/
theorem lifted (os : Os) (started : os.Started) (H : Type) (enc : TypeId × Value → H) :
    ReturnsInHanded {} Try.checked os 5 .any (Rows.cellQueueSpec.pre6 enc Try.prog Try.f5 Rows.cellQueueRow.domain false) (Rows.cellQueueSpec.post enc Try.prog Try.f5 false true false false) := by
  refine returnsInHanded_of_change (C := Try.checked) own started (by kernel_rfl) Try.func5
    (ChangeSpec.witness6 (enc := enc) (C := Try.checked) false ⟨#[], #[.slice none 0 0], []⟩ 8 (by kernel_rfl) (by kernel_rfl) (by kernel_rfl) (by kernel_rfl)) ?_
  intro W base args ds gs before hval0 hW hcnd _
  have hval : ∀ (j : Nat) t v, Try.f5.params[j]? = some t → args[j]? = some v → Value.okWide Try.prog W .any base t v := hval0
  have hW' := hW
  obtain ⟨p, q, hA0, hV, rfl, hfz, hnd⟩ := hW
  have hA : DataW.TrodAll enc Try.prog W 0 (fun _ => true) true Try.f5.params.toList args.toList ds p := hA0
  rw [Try.params5] at hA hval
  obtain ⟨v0, vs0, d0, ds0, p0, q0, hargs, rfl, rfl, h0, r0⟩ := trodAll_cons hA
  obtain ⟨rfl, rfl, rfl⟩ := trodAll_nil r0
  obtain rfl : args = #[v0] := by cases args; simp_all
  obtain ⟨rfl, rfl⟩ := trodVars_none hV
  have k0 := h0
  have lt0 : ∀ x ∈ p0, x.block < W.heap.size := by obtain ⟨m, hm⟩ := k0; exact DataW.trod_lt m _ _ _ hm
  obtain ⟨a0, len0, cap0, rfl⟩ := okWide_slice Try.underlying35 (hval 0 35 v0 rfl rfl)
  obtain ⟨z0, w0⟩ := bools_in Try.underlying35 Try.underlying4 (by kernel_rfl) h0
  clear hA0 hval0
  refine (walk a0 len0 cap0 z0 W w0).mono fun e W' ⟨he, kept⟩ => ?_
  subst he
  have bel : Below W.heap.size W W' := kept.toBelow (Nat.le_refl _) (fun _ x => x.elim)
  exact ⟨_, rfl, _, _, _, [], _, [], hW', trodAll_mk1 (shut_bool Try.underlying4 _), (trodAll_cons_mk (Below.trod laidOut (by kernel_rfl) (of_decide_eq_true (by kernel_rfl)) k0 bel lt0) trodAll_mk0), rfl, bel.frame _, fun h => by cases h⟩

theorem over : Rows.CellQueueSaid :=
  OpenClaim.holds_of_wide 5 Try.f5 rfl rfl rfl rfl rfl rfl rfl ⟨rfl, rfl, rfl, rfl, rfl⟩ rfl rfl rfl rfl rfl (by kernel_rfl) Try.func5 (by kernel_rfl)
    (of_decide_eq_true (by kernel_rfl)) (by unfold Func.isWrapper; first | (rw [if_pos (by decide +kernel)]; kernel_rfl) | (rw [if_neg (by decide +kernel)]; exact ⟨rfl, rfl⟩))
    (fun os started H enc _ => lifted os started H enc)

/-- The statement. -/
theorem proved : Rows.CellQueueSaid := over
#print axioms proved
end Go.Proofs.Ytabfjdococmbkaa.cellQueue
