/-
  For every input the law RunsWalk of rickyard/rickyardlaw5 returns true, and its arguments read afterwards as before. The law's own sentence: Whatever is taken and put, one behind the other: each answer, and all runs, are the document's; they stay right. No further conditions.
-/
import Derived.Test.YtlicfegpdegamaaRows
import Derived.Test.YtlicfegpdegamaaKept
import Derived.Test.YtlicfegpdegamaaShell
import Derived.Test.YtlicfegpdegamaaShellInts
import Derived.WalkKit
import Derived.ProofKit
import Derived.OpenShut
import Derived.ChangeOld
import Derived.Below
import Derived.Lib.SmallJoins
import Derived.Test.YtlicfegpdegamaaRunsAwake
import Derived.Test.YtlicfegpdegamaaRunsBoth
namespace Go.Proofs.Ytlicfegpdegamaa.runsWalk
open Go.ChangeShapes Go.WideShapes Go.ChangeAt Go.RowKit
set_option linter.unusedVariables false
set_option maxRecDepth 100000

theorem own : ownKnob Try.prog.godebug = none := by kernel_rfl
theorem laidOut : laidOutB Try.prog = true := by kernel_rfl
theorem right_true {l : List R} (h : Right 256 0 l) : rightL 256 l = true := by
  unfold rightL
  rw [(right_iff _ _ _).2 h]
  rfl
/-- Both lists, as a round finds them. -/
structure Rd2 (w W : World) (A B : Option Addr) (n c : Nat) (l : List R) : Prop where
  a : Rs W A n l
  b : Rs W B n l
  right : Right 256 0 l
  cap : n ≤ c
  none : A = none → c = 0
  kept : Kept Old w W
theorem Rd2.old {w W W' : World} {A B : Option Addr} {n c : Nat} {l : List R} (h : Rd2 w W A B n c l) (q : Kept Old W W') : Rd2 w W' A B n c l := ⟨h.a.old q, h.b.old q, h.right, h.cap, h.none, h.kept.trans q⟩
theorem r256 : Right 256 0 [(0, 256)] := by simp [Right]

set_option maxHeartbeats 8000000 in
/-- The walk: the Go text returns true, and nothing that was there has turned. -/
theorem walk (a0 : Option Addr) (len0 cap0 : Nat) (z0 : Nat → Int) (w : World) (w0 : len0 ≤ cap0 ∧ cap0 ≤ maxLen ∧ (∀ i, i < len0 → (Lit.int .u8 (z0 i)).wf = true) ∧ Sl w a0 1 len0 fun i _ => .int .u8 (z0 i)) :
    Calls Try.prog 4 #[.slice a0 len0 cap0] w fun e w' => e = .returned (.bool true) ∧ Kept Old w w' := by
  obtain ⟨v0, v1, v2, v3⟩ := w0
  have hl : len0 ≤ 9223372036854775807 := by unfold maxLen at v1; omega
  have HZ := Lib.hid (show ∀ i, i < len0 → 0 ≤ z0 i ∧ z0 i ≤ 255 from fun i hi => bounds_u8 (v2 i hi))
  have HS := Lib.hid v3
  clear v0 v1 v2 v3
  go_enter Try.func4, Try.ntmps4
  go_wp2_with fail
  have S0 := Lib.hid (show Rd2 w (w.alloc (.cells #[.int .i64 0, .int .i64 256] 24)) (some ⟨w.heap.size, 0, none⟩) (some ⟨w.heap.size, 0, none⟩) 1 1 [(0, 256)] from
    ⟨Rs.lit w _ _ rfl (fit64 r256) 1 _ rfl rfl, Rs.lit w _ _ rfl (fit64 r256) 1 _ rfl rfl, r256, by omega, (fun h => by cases h), (Kept.refl Old w).alloc _⟩)
  go_loopw [3, 4, 5] (fun a b i wr => ∃ (A B : Option Addr) (n c d k : Nat) (l : List R), k ≤ 602 ∧ a = .slice A n c ∧ b = .slice B n d ∧ i = .int .i64 (k : Int) ∧ Hid (Rd2 w wr A B n c l)) (fun _ _ i _ => 700 - (intOf i).toNat)
  case atStart => exact ⟨_, _, 1, 1, 1, 0, _, by omega, rfl, rfl, rfl, S0⟩
  case round =>
    clear S0
    obtain ⟨A, B, n, c, d, k, l, hk, rfl, rfl, rfl, S⟩ := hrel
    rename World => W
    by_cases h1 : k + 2 < len0
    · have h1' : (k : Int) + 2 < (len0 : Int) := by omega
      by_cases h2 : k < 600
      · have h2' : (k : Int) < 600 := by omega
        obtain ⟨g, o, rfl, hg, hc⟩ := HS.out.lies (by omega)
        have q0 := HZ.out k (by omega)
        have q1 := HZ.out (k + 1) (by omega)
        have q2 := HZ.out (k + 2) (by omega)
        have cell : ∀ j, j < len0 → W.cell? ⟨g, o + j, none⟩ = some (.int .u8 (z0 j)) := by
          intro j hj
          have := hc j 0 hj (by omega)
          rw [Nat.mul_one, Nat.add_zero] at this
          exact (S.out.kept.cell (p := ⟨g, o + j, none⟩) hg (fun x => x)).trans this
        have y0 := cell k (by omega)
        have y1 := cell (k + 1) (by omega)
        have y2 := cell (k + 2) (by omega)
        have cap := S.out.cap
        clear cell hc
        by_cases e : z0 k % 2 = 0
        · have e' : (z0 k % 2 == 0) = true := by simp [e]
          obtain ⟨L1, x1, code1, R1, T1, T2⟩ := take_both l (1 + z0 (k + 1) % 40) S.out.right
          have T1 := Lib.hid T1
          have T2 := Lib.hid T2
          have R1 := Lib.hid R1
          go_wp2_with fail
          refine (T1.out _ _ _ _ S.out.a cap).mono ?_
          rintro e w3 ⟨v1, rfl, A1, n1, c1, rfl, S1, hc1, hA1, q⟩
          have S := Lib.hid (S.out.old q)
          have S1 := Lib.hid S1
          have hA1 := Lib.hid hA1
          clear q y0 y1 y2
          go_wp2_with fail
          refine (T2.out _ _ _ _ S.out.b).mono ?_
          rintro e w4 ⟨v2, rfl, A2, n2, c2, rfl, S2, _, _, q⟩
          have S := Lib.hid (S.out.old q)
          have S1 := Lib.hid (S1.out.old q)
          have S2 := Lib.hid S2
          clear q T1 T2
          obtain rfl : n2 = n1 := by have := S1.out.len; have := S2.out.len; omega
          by_cases z : code1 = 0
          · have N := Lib.hid (show Rd2 w w4 A1 A2 n2 c1 L1 from ⟨S1.out, S2.out, R1.out, hc1, hA1.out, S.out.kept⟩)
            have nb := right_n S1.out R1.out
            subst z
            clear S S1 S2 hA1
            go_wp2_with fail
            refine (same_yes A1 A2 n2 c1 c2 L1 _ N.out.a N.out.b (by omega)).mono ?_
            rintro e w5 ⟨rfl, q⟩
            have N := Lib.hid (N.out.old q)
            clear q
            have rr := right_any A1 n2 c1 L1 256 w5 N.out.a (by omega)
            rw [right_true R1.out] at rr
            have rr := Lib.hid rr
            go_wp2_with fail
            refine rr.out.mono ?_
            rintro e w6 ⟨rfl, q⟩
            have N := Lib.hid (N.out.old q)
            clear q rr
            go_wp2_with fail
            refine ⟨⟨A1, A2, n2, c1, c2, k + 3, L1, by omega, rfl, rfl, by go_num, N⟩, ?_⟩
            simp [intOf]; omega
          · have z' : (code1 == 0) = false := by simp [z]
            have nb := right_n S.out.a S.out.right
            clear S1 S2 hA1 z
            go_wp2_with fail
            refine (same_yes A B n c d l _ S.out.a S.out.b (by omega)).mono ?_
            rintro e w5 ⟨rfl, q⟩
            have S := Lib.hid (S.out.old q)
            clear q
            have rr := right_any A n c l 256 w5 S.out.a (by omega)
            rw [right_true S.out.right] at rr
            have rr := Lib.hid rr
            go_wp2_with fail
            refine rr.out.mono ?_
            rintro e w6 ⟨rfl, q⟩
            have S := Lib.hid (S.out.old q)
            clear q rr
            go_wp2_with fail
            refine ⟨⟨A, B, n, c, d, k + 3, l, by omega, rfl, rfl, by go_num, S⟩, ?_⟩
            simp [intOf]; omega
        · have e' : (z0 k % 2 == 0) = false := by simp [e]
          obtain ⟨L1, code1, R1, T1, T2⟩ := put_both l (z0 (k + 2), 1 + z0 (k + 1) % 40) S.out.right ⟨by show _ ≤ 1 + z0 (k + 1) % 40; omega, by show 1 + z0 (k + 1) % 40 ≤ _; omega⟩
          have T1 := Lib.hid T1
          have T2 := Lib.hid T2
          have R1 := Lib.hid R1
          clear e
          go_wp2_with fail
          refine (T1.out _ _ _ _ (S.out.a.old ((Kept.refl Old W).alloc _)) cap S.out.none).mono ?_
          rintro e w3 ⟨v1, rfl, A1, n1, c1, rfl, S1, hc1, hA1, q⟩
          have X := Lib.hid ((Bx.new W (z0 (k + 2), 1 + z0 (k + 1) % 40)).old q)
          have S := Lib.hid ((S.out.old ((Kept.refl Old W).alloc _)).old q)
          have S1 := Lib.hid S1
          have hA1 := Lib.hid hA1
          clear q y0 y1 y2
          have x0 : w3.cell? ⟨W.heap.size, 0, none⟩ = some (.int .i64 (z0 (k + 2))) := X.out.c0
          have x1 : w3.cell? ⟨W.heap.size, 1, none⟩ = some (.int .i64 (1 + z0 (k + 1) % 40)) := X.out.c1
          go_wp2_with fail
          refine (T2.out _ _ _ _ S.out.b).mono ?_
          rintro e w4 ⟨v2, rfl, A2, n2, c2, rfl, S2, _, _, q⟩
          have S := Lib.hid (S.out.old q)
          have S1 := Lib.hid (S1.out.old q)
          have S2 := Lib.hid S2
          clear q T1 T2 x0 x1 X
          obtain rfl : n2 = n1 := by have := S1.out.len; have := S2.out.len; omega
          by_cases z : code1 = 0
          · have N := Lib.hid (show Rd2 w w4 A1 A2 n2 c1 L1 from ⟨S1.out, S2.out, R1.out, hc1, hA1.out, S.out.kept⟩)
            have nb := right_n S1.out R1.out
            subst z
            clear S S1 S2 hA1
            go_wp2_with fail
            refine (same_yes A1 A2 n2 c1 c2 L1 _ N.out.a N.out.b (by omega)).mono ?_
            rintro e w5 ⟨rfl, q⟩
            have N := Lib.hid (N.out.old q)
            clear q
            have rr := right_any A1 n2 c1 L1 256 w5 N.out.a (by omega)
            rw [right_true R1.out] at rr
            have rr := Lib.hid rr
            go_wp2_with fail
            refine rr.out.mono ?_
            rintro e w6 ⟨rfl, q⟩
            have N := Lib.hid (N.out.old q)
            clear q rr
            go_wp2_with fail
            refine ⟨⟨A1, A2, n2, c1, c2, k + 3, L1, by omega, rfl, rfl, by go_num, N⟩, ?_⟩
            simp [intOf]; omega
          · have z' : (code1 == 0) = false := by simp [z]
            have nb := right_n S.out.a S.out.right
            clear S1 S2 hA1 z
            go_wp2_with fail
            refine (same_yes A B n c d l _ S.out.a S.out.b (by omega)).mono ?_
            rintro e w5 ⟨rfl, q⟩
            have S := Lib.hid (S.out.old q)
            clear q
            have rr := right_any A n c l 256 w5 S.out.a (by omega)
            rw [right_true S.out.right] at rr
            have rr := Lib.hid rr
            go_wp2_with fail
            refine rr.out.mono ?_
            rintro e w6 ⟨rfl, q⟩
            have S := Lib.hid (S.out.old q)
            clear q rr
            go_wp2_with fail
            refine ⟨⟨A, B, n, c, d, k + 3, l, by omega, rfl, rfl, by go_num, S⟩, ?_⟩
            simp [intOf]; omega
      · have h2' : ¬ (k : Int) < 600 := by omega
        go_wp2_with fail
        refine (awake_any _).mono ?_
        rintro e w5 ⟨rfl, q⟩
        go_wp2_with fail
        go_ret
        exact ⟨rfl, S.out.kept.trans q⟩
    · have h1' : ¬ (k : Int) + 2 < (len0 : Int) := by omega
      go_wp2_with fail
      refine (awake_any _).mono ?_
      rintro e w5 ⟨rfl, q⟩
      go_wp2_with fail
      go_ret
      exact ⟨rfl, S.out.kept.trans q⟩

/-- The row's step. -/
theorem lifted (os : Os) (started : os.Started) (H : Type) (enc : TypeId × Value → H) :
    ReturnsInHanded {} Try.checked os 4 .any (Rows.runsWalkSpec.pre6 enc Try.prog Try.f4 Rows.runsWalkRow.domain false) (Rows.runsWalkSpec.post enc Try.prog Try.f4 false true false false) := by
  refine returnsInHanded_of_change (C := Try.checked) own started (by kernel_rfl) Try.func4
    (ChangeSpec.witness6 (enc := enc) (C := Try.checked) false ⟨#[], #[.slice none 0 0], []⟩ 8 (by kernel_rfl) (by kernel_rfl) (by kernel_rfl) (by kernel_rfl)) ?_
  intro W base args ds gs before hval0 hW hcnd _
  have hval : ∀ (j : Nat) t v, Try.f4.params[j]? = some t → args[j]? = some v → Value.okWide Try.prog W .any base t v := hval0
  have hW' := hW
  obtain ⟨p, q, hA0, hV, rfl, hfz, hnd⟩ := hW
  have hA : DataW.TrodAll enc Try.prog W 0 (fun _ => true) true Try.f4.params.toList args.toList ds p := hA0
  rw [Try.params4] at hA hval
  obtain ⟨v0, vs0, d0, ds0, p0, q0, hargs, rfl, rfl, h0, r0⟩ := trodAll_cons hA
  obtain ⟨rfl, rfl, rfl⟩ := trodAll_nil r0
  obtain rfl : args = #[v0] := by cases args; simp_all
  obtain ⟨rfl, rfl⟩ := trodVars_none hV
  have k0 := h0
  have lt0 : ∀ x ∈ p0, x.block < W.heap.size := by obtain ⟨m, hm⟩ := k0; exact DataW.trod_lt m _ _ _ hm
  obtain ⟨a0, len0, cap0, rfl⟩ := okWide_slice Try.underlying29 (hval 0 29 v0 rfl rfl)
  obtain ⟨z0, w0⟩ := ints_in Try.underlying29 Try.underlying5 (by kernel_rfl) h0
  clear hA0 hval0
  refine (walk a0 len0 cap0 z0 W w0).mono fun e W' ⟨he, kept⟩ => ?_
  subst he
  have bel : Below W.heap.size W W' := kept.toBelow (Nat.le_refl _) (fun _ x => x.elim)
  exact ⟨_, rfl, _, _, _, [], _, [], hW', trodAll_mk1 (shut_bool Try.underlying4 _), (trodAll_cons_mk (Below.trod laidOut (by kernel_rfl) (of_decide_eq_true (by kernel_rfl)) k0 bel lt0) trodAll_mk0), rfl, bel.frame _, fun h => by cases h⟩

theorem over : Rows.RunsWalkSaid :=
  OpenClaim.holds_of_wide 4 Try.f4 rfl rfl rfl rfl rfl rfl rfl ⟨rfl, rfl, rfl, rfl, rfl⟩ rfl rfl rfl rfl rfl (by kernel_rfl) Try.func4 (by kernel_rfl)
    (of_decide_eq_true (by kernel_rfl)) (by unfold Func.isWrapper; first | (rw [if_pos (by decide +kernel)]; kernel_rfl) | (rw [if_neg (by decide +kernel)]; exact ⟨rfl, rfl⟩))
    (fun os started H enc _ => lifted os started H enc)

/-- The statement. -/
theorem proved : Rows.RunsWalkSaid := over
#print axioms proved
end Go.Proofs.Ytlicfegpdegamaa.runsWalk
