/-
  For every input the law HeapFull of rickyard/rickyardlaw7 returns true, and its arguments read afterwards as before. The law's own sentence: An Alloc that may be is refused just if no run is long enough; else its span has just so many pages, none of which was another one's, and is of its class. No further conditions.
-/
import Derived.Test.YtdolchlhphoggaaRows
import Derived.Test.YtdolchlhphoggaaKept
import Derived.Test.YtdolchlhphoggaaShell
import Derived.Test.YtdolchlhphoggaaShellInts
import Derived.WalkKit
import Derived.ProofKit
import Derived.OpenShut
import Derived.ChangeOld
import Derived.Below
import Derived.Lib.SmallJoins
import Derived.Test.YtdolchlhphoggaaHeapAwake
import Derived.Deep.CutRange
namespace Go.Proofs.Ytdolchlhphoggaa.heapFull
open Go.ChangeShapes Go.WideShapes Go.ChangeAt Go.RowKit
set_option linter.unusedVariables false
set_option maxRecDepth 100000

theorem own : ownKnob Try.prog.godebug = none := by kernel_rfl
theorem laidOut : laidOutB Try.prog = true := by kernel_rfl
theorem rs_only {W W' : World} {g m : Nat} {l : List R} (h : Rs W (some ⟨g, 0, none⟩) m l) (k : Kept (Fr fun b => b = g) W W') : Rs W' (some ⟨g, 0, none⟩) m l :=
  h.fr k (fun b hb e => e (by obtain ⟨_, ad, e', rfl⟩ := hb; injection e' with e'; subst e'; rfl))
/-- Of what was allocated: the span that its first page is of. -/
theorem of_new {P : Int} {rl : List R} {sl : List S} {n cl : Int} {x : R} (wh : Whole P rl (insL sl ⟨x.1, n, cl⟩)) (hn : 1 ≤ n) : ofX (insL sl ⟨x.1, n, cl⟩) x.1 = ⟨x.1, n, cl⟩ ∧ ofB (insL sl ⟨x.1, n, cl⟩) x.1 = true := by
  obtain ⟨i, hi⟩ := List.mem_iff_getElem?.1 (mem_ins (l := sl) (x := ⟨x.1, n, cl⟩) (y := ⟨x.1, n, cl⟩) |>.2 (.inl rfl))
  have := of_at wh.good hi (p := x.1) (Int.le_refl _) (by show x.1 < x.1 + n; omega)
  unfold ofX ofB
  rw [this]
  exact ⟨rfl, rfl⟩

set_option maxHeartbeats 8000000 in
/-- The walk: the Go text returns true, and nothing that was there has turned. -/
theorem walk (a0 : Int) (a1 : Option Addr) (len1 cap1 : Nat) (z1 : Nat → Int) (a2 : Int) (a3 : Int) (w : World) (w0 : (Lit.int .u8 a0).wf = true) (w1 : len1 ≤ cap1 ∧ cap1 ≤ maxLen ∧ (∀ i, i < len1 → (Lit.int .u8 (z1 i)).wf = true) ∧ Sl w a1 1 len1 fun i _ => .int .u8 (z1 i)) (w2 : (Lit.int .u8 a2).wf = true) (w3 : (Lit.int .u8 a3).wf = true) :
    Calls Try.prog 6 #[.int .u8 a0, .slice a1 len1 cap1, .int .u8 a2, .int .u8 a3] w fun e w' => e = .returned (.bool true) ∧ Kept Old w w' := by
  obtain ⟨v0, v1, v2, v3⟩ := w1
  have hl : len1 ≤ 9223372036854775807 := by unfold maxLen at v1; omega
  have hz := Lib.hid (show ∀ i, i < len1 → 0 ≤ z1 i ∧ z1 i ≤ 255 from fun i hi => bounds_u8 (v2 i hi))
  have HS := Lib.hid v3
  obtain ⟨p1, p2⟩ := bounds_u8 w0
  obtain ⟨n1, n2⟩ := bounds_u8 w2
  obtain ⟨m1, m2⟩ := bounds_u8 w3
  clear v0 v1 v2 v3 w0 w2 w3
  obtain ⟨P, hP⟩ : ∃ P, 1 + a0 = P := ⟨_, rfl⟩
  have P1 : 1 ≤ P := by omega
  have P2 : P ≤ 256 := by omega
  go_enter Try.func6, Try.ntmps6
  go_wp2_with fail
  refine (hp_new w P F0 w P1 P2 (Kept.refl _ _) (fun _ h => h.elim)).mono ?_
  rintro e W ⟨h, rfl, T, -⟩
  have T := Lib.hid T
  go_wp2_with fail
  go_loopw [10] (fun i wr => ∃ (k : Nat) (rl : List R) (sl : List S), k ≤ 301 ∧ i = .int .i64 (k : Int) ∧ Hid (Hp w wr h P rl sl F0)) (fun i _ => 302 - (intOf i).toNat)
  case atStart => exact ⟨0, _, _, by omega, rfl, T⟩
  case round =>
    obtain ⟨k, rl, sl, hk, rfl, T1⟩ := hrel
    rename World => V
    clear T
    have wk : IntKind.i64.wrap ((k : Int) + 1) = (k : Int) + 1 := IntWalk.i64_in _ (by omega)
    by_cases c : k + 1 < len1 ∧ k < 300
    · obtain ⟨c1, c2⟩ := c
      obtain ⟨g, o, rfl, hg, hc⟩ := (HS.out.old T1.out.kept).lies (by omega)
      have d0 := hc k 0 (by omega) (by omega)
      have d1 := hc (k + 1) 0 (by omega) (by omega)
      simp only [Nat.mul_one, Nat.add_zero] at d0 d1
      have y0 := hz.out k (by omega)
      have y1 := hz.out (k + 1) (by omega)
      generalize z1 k = u at *
      generalize z1 (k + 1) = v at *
      have fu : u.tmod 3 = u % 3 := Int.tmod_eq_emod_of_nonneg (by omega)
      have fv : v.tmod 20 = v % 20 := Int.tmod_eq_emod_of_nonneg (by omega)
      have fr : u.tmod 8 = u % 8 := Int.tmod_eq_emod_of_nonneg (by omega)
      have q0 : IntKind.u8.wrap (u % 3) = u % 3 := IntWalk.u8_in _ (by omega)
      clear hc hz HS
      by_cases cu : 0 < u % 3
      · go_wp2_with fail
        have cd0 : World.cell? { heap := V.heap, tape := V.tape, drawn := V.drawn + 1, os := V.os, output := V.output } ⟨g, o + k, none⟩ = some (.int .u8 u) := d0
        have cd1 : World.cell? { heap := V.heap, tape := V.tape, drawn := V.drawn + 1, os := V.os, output := V.output } ⟨g, o + (k + 1), none⟩ = some (.int .u8 v) := d1
        have j0 : (k : Int) < (len1 : Int) := by omega
        have j1 : (k : Int) + 1 < (len1 : Int) := by omega
        have j2 : (0 : Int) ≤ (k : Int) + 1 := by omega
        have j3 : ((k : Int) + 1).toNat = k + 1 := by omega
        have j4 : IntKind.i64.wrap u = u := IntWalk.i64_in _ (by omega)
        have j5 : IntKind.i64.wrap v = v := IntWalk.i64_in _ (by omega)
        have j6 : IntKind.i64.wrap (u % 8) = u % 8 := IntWalk.i64_in _ (by omega)
        have j7 : IntKind.i64.wrap (v % 20) = v % 20 := IntWalk.i64_in _ (by omega)
        have j8 : IntKind.i64.wrap (1 + v % 20) = 1 + v % 20 := IntWalk.i64_in _ (by omega)
        have T2 := Lib.hid (T1.out.old ((Kept.refl Old V).drew))
        go_still_tail 15, (by kernel_rfl)
        change wpList _ _ _ _ _ V.drew
        go_wp2_with fail
        refine (hp_alloc _ _ T2.out).mono ?_
        rintro e V2 ⟨rfl, T3, -⟩
        have T3 := Lib.hid T3
        go_wp2
        refine ⟨⟨k + 2, _, _, by omega, by go_num, T3⟩, ?_⟩
        simp [intOf]; omega
      · go_wp2_with fail
        refine (hp_free _ T1.out).mono ?_
        rintro e V2 ⟨rfl, T3, -⟩
        have T3 := Lib.hid T3
        go_wp2
        refine ⟨⟨k + 2, _, _, by omega, by go_num, T3⟩, ?_⟩
        simp [intOf]; omega
    · have cc : ¬ (k : Int) + 1 < (len1 : Int) ∨ ((k : Int) + 1 < (len1 : Int) ∧ ¬ (k : Int) < 300) := by omega
      clear c hz HS
      have fn : a2.tmod 40 = a2 % 40 := Int.tmod_eq_emod_of_nonneg (by omega)
      have fc : a3.tmod 8 = a3 % 8 := Int.tmod_eq_emod_of_nonneg (by omega)
      obtain ⟨n, hn⟩ : ∃ n, 1 + a2 % 40 = n := ⟨_, rfl⟩
      obtain ⟨cl, hcl⟩ : ∃ cl, a3 % 8 = cl := ⟨_, rfl⟩
      have n0 : 1 ≤ n := by omega
      have n9 : n ≤ 40 := by omega
      have cl0 : 0 ≤ cl := by omega
      have cl7 : cl < 8 := by omega
      rcases cc with ca | ⟨ca, cb⟩
      all_goals
        go_wp2_with fail
        refine (hp_runs T1.out).mono ?_
        rintro e W1 ⟨g, rfl, R1, k1, hg, hg'⟩
        have wl := T1.out.whole.len
        have T2 := Lib.hid (T1.out.more (G := fun b => b = g) k1 (fun b e => .inr (by rw [e]; exact ⟨hg, hg'⟩)))
        have R1 := Lib.hid R1
        have WH := Lib.hid T1.out.whole
        clear k1 T1 hg hg'
        obtain ⟨m, hlm⟩ : ∃ m, rl.length = m := ⟨_, rfl⟩
        rw [hlm] at R1 wl
        rw [hlm]
        have hlm := Lib.hid hlm
        go_wp2_with fail
        refine (hp_fits _ T2.out).mono ?_
        rintro e W2 ⟨rfl, k2⟩
        have T3 := Lib.hid (T2.out.old k2)
        have R2 := Lib.hid (R1.out.old k2)
        clear k2 T2 R1
        cases f : fitAt rl n with
        | none =>
          have fb := fit_at_none f
          have e1 : fitsB rl n = false := by unfold fitsB; rw [fb, Bool.and_false]
          have ml := most_lt (fit_none fb) n0
          have eA := allocA_full (sl := sl) ⟨cl0, cl7, n0⟩ f
          rw [e1]
          clear f fb e1
          go_wp2_with fail
          refine (hp_alloc _ _ T3.out).mono ?_
          rw [eA]
          rintro e W3 ⟨rfl, T4, k3⟩
          have R3 := Lib.hid (rs_only R2.out k3)
          have T4 := Lib.hid T4
          clear k3 T3 R2 eA
          go_wp2_with fail
          refine (most_any _ _ _ rl _ R3.out WH.out.wide).mono ?_
          rintro e W4 ⟨rfl, k4⟩
          have T5 := Lib.hid (T4.out.old k4)
          have R4 := Lib.hid (R3.out.old k4)
          clear k4 T4 R3
          generalize mostL rl = mm at *
          go_wp2_with fail
          refine (hp_runs T5.out).mono ?_
          rintro e W5 ⟨g5, rfl, R5, k5, -, -⟩
          rw [hlm.out] at R5 ⊢
          have R6 := Lib.hid (R4.out.old k5)
          have R5 := Lib.hid R5
          have K5 := Lib.hid (T5.out.kept.trans k5)
          clear k5 T5 R4
          go_wp2_with fail
          refine (same_yes _ _ m _ _ rl _ R5.out R6.out (by omega)).mono ?_
          rintro e W6 ⟨rfl, k6⟩
          have K6 := Lib.hid (K5.out.trans k6)
          clear k6 R5 R6 K5
          go_wp2_with fail
          refine (awakeH_any _).mono ?_
          rintro e W7 ⟨rfl, k7⟩
          have K7 := Lib.hid (K6.out.trans k7)
          clear k7
          go_wp2
          go_ret
          exact ⟨rfl, K7.out⟩
        | some q =>
          obtain ⟨i, x⟩ := q
          have ft := fit_at_some f
          have e1 : fitsB rl n = true := by unfold fitsB; rw [ft.yes, decide_eq_true n0]; rfl
          have eA := allocA_ok (sl := sl) ⟨cl0, cl7, n0⟩ f
          have xb := WH.out.right.at ft.at_
          have xg := ft.big
          have wa := (WH.out.alloc ft n0 cl0 cl7).2.2
          obtain ⟨o1, o2⟩ := of_new wa n0
          have ht := Lib.hid (show ∀ p, x.1 ≤ p → p < x.1 + n → hasB rl p = true ∧ hasB (takeL rl n i x) p = false from fun p h1 h2 => ⟨has_taken ft ⟨h1, h2⟩, by rw [has_take WH.out.right ft n0, decide_eq_true ⟨h1, h2⟩]; simp⟩)
          have WA := Lib.hid wa
          rw [e1]
          have o1 := Lib.hid o1
          have o2 := Lib.hid o2
          clear f ft e1 wa
          go_wp2_with fail
          refine (hp_alloc _ _ T3.out).mono ?_
          rw [eA]
          rintro e W3 ⟨rfl, T4, k3⟩
          have R3 := Lib.hid (rs_only R2.out k3)
          have T4 := Lib.hid T4
          clear k3 T3 R2 eA
          go_wp2_with fail
          refine (hp_of _ T4.out).mono ?_
          rintro e W4 ⟨rfl, k4⟩
          rw [o1.out, o2.out]
          have k5 := k4.alloc (.cells #[.int .i64 x.1, .int .i64 n, .int .i64 cl] 44)
          have T5 := Lib.hid (T4.out.old k5)
          have R5 := Lib.hid (R3.out.old k5)
          have B5 := Lib.hid (BxS.new W4 ⟨x.1, n, cl⟩)
          clear k4 k5 T4 R3 o1 o2
          go_wp2_with fail
          generalize hW5 : W4.alloc (.cells #[.int .i64 x.1, .int .i64 n, .int .i64 cl] 44) = W5 at *
          generalize hs4 : W4.heap.size = s4 at *
          clear hW5 hs4
          go_loopw [19] (fun v wr => ∃ p : Int, x.1 ≤ p ∧ p ≤ x.1 + n ∧ v = .int .i64 p ∧ Hid (Kept Old W5 wr)) (fun v _ => (x.1 + n - intOf v).toNat)
          case atStart => exact ⟨x.1, by omega, by omega, rfl, Lib.hid (Kept.refl _ _)⟩
          case round =>
            obtain ⟨p, hp1, hp2, rfl, K6⟩ := hrel
            rename World => Y
            by_cases c3 : p < x.1 + n
            · obtain ⟨t1, t2⟩ := ht.out p hp1 c3
              go_wp2_with fail
              refine (has_any _ _ _ rl p _ (R5.out.old K6.out) WH.out.wide).mono ?_
              rw [t1]
              rintro e Y1 ⟨rfl, k7⟩
              have K7 := Lib.hid (K6.out.trans k7)
              clear k7
              go_wp2_with fail
              refine (hp_runs (T5.out.old K7.out)).mono ?_
              rintro e Y2 ⟨g8, rfl, R8, k8, -, -⟩
              have K8 := Lib.hid (K7.out.trans k8)
              have R8 := Lib.hid R8
              clear k8
              go_wp2_with fail
              refine (has_any _ _ _ _ p _ R8.out WA.out.wide).mono ?_
              rw [t2]
              rintro e Y3 ⟨rfl, k9⟩
              have K9 := Lib.hid (K8.out.trans k9)
              clear k9 R8
              go_wp2
              refine ⟨⟨p + 1, by omega, by omega, by go_num, K9⟩, ?_⟩
              simp [intOf]; omega
            · have B6 := B5.out.old K6.out
              have b0 := B6.c0
              have b1 := B6.c1
              have b2 := B6.c2
              have KK := Lib.hid (T5.out.kept.trans K6.out)
              clear B6
              go_wp2_with fail
              refine (awakeH_any _).mono ?_
              rintro e Y7 ⟨rfl, k7⟩
              have K7 := Lib.hid (KK.out.trans k7)
              clear k7
              go_wp2
              go_ret
              exact ⟨rfl, K7.out⟩

/-- The row's step. -/
theorem lifted (os : Os) (started : os.Started) (H : Type) (enc : TypeId × Value → H) :
    ReturnsInHanded {} Try.checked os 6 .any (Rows.heapFullSpec.pre6 enc Try.prog Try.f6 Rows.heapFullRow.domain false) (Rows.heapFullSpec.post enc Try.prog Try.f6 false true false false) := by
  refine returnsInHanded_of_change (C := Try.checked) own started (by kernel_rfl) Try.func6
    (ChangeSpec.witness6 (enc := enc) (C := Try.checked) false ⟨#[], #[.int .u8 0, .slice none 0 0, .int .u8 0, .int .u8 0], []⟩ 8 (by kernel_rfl) (by kernel_rfl) (by kernel_rfl) (by kernel_rfl)) ?_
  intro W base args ds gs before hval0 hW hcnd _
  have hval : ∀ (j : Nat) t v, Try.f6.params[j]? = some t → args[j]? = some v → Value.okWide Try.prog W .any base t v := hval0
  have hW' := hW
  obtain ⟨p, q, hA0, hV, rfl, hfz, hnd⟩ := hW
  have hA : DataW.TrodAll enc Try.prog W 0 (fun _ => true) true Try.f6.params.toList args.toList ds p := hA0
  rw [Try.params6] at hA hval
  obtain ⟨v0, vs0, d0, ds0, p0, q0, hargs, rfl, rfl, h0, r0⟩ := trodAll_cons hA
  obtain ⟨v1, vs1, d1, ds1, p1, q1, rfl, rfl, rfl, h1, r1⟩ := trodAll_cons r0
  obtain ⟨v2, vs2, d2, ds2, p2, q2, rfl, rfl, rfl, h2, r2⟩ := trodAll_cons r1
  obtain ⟨v3, vs3, d3, ds3, p3, q3, rfl, rfl, rfl, h3, r3⟩ := trodAll_cons r2
  obtain ⟨rfl, rfl, rfl⟩ := trodAll_nil r3
  obtain rfl : args = #[v0, v1, v2, v3] := by cases args; simp_all
  obtain ⟨rfl, rfl⟩ := trodVars_none hV
  obtain ⟨a0, rfl, rfl, rfl, w0⟩ := open_int Try.underlying5 (hval 0 5 v0 rfl rfl) h0
  have k1 := h1
  have lt1 : ∀ x ∈ p1, x.block < W.heap.size := by obtain ⟨m, hm⟩ := k1; exact DataW.trod_lt m _ _ _ hm
  obtain ⟨a1, len1, cap1, rfl⟩ := okWide_slice Try.underlying50 (hval 1 50 v1 rfl rfl)
  obtain ⟨z1, w1⟩ := ints_in Try.underlying50 Try.underlying5 (by kernel_rfl) h1
  obtain ⟨a2, rfl, rfl, rfl, w2⟩ := open_int Try.underlying5 (hval 2 5 v2 rfl rfl) h2
  obtain ⟨a3, rfl, rfl, rfl, w3⟩ := open_int Try.underlying5 (hval 3 5 v3 rfl rfl) h3
  clear hA0 hval0
  refine (walk a0 a1 len1 cap1 z1 a2 a3 W w0 w1 w2 w3).mono fun e W' ⟨he, kept⟩ => ?_
  subst he
  have bel : Below W.heap.size W W' := kept.toBelow (Nat.le_refl _) (fun _ x => x.elim)
  exact ⟨_, rfl, _, _, _, [], _, [], hW', trodAll_mk1 (shut_bool Try.underlying4 _), (trodAll_cons_mk (shut_int Try.underlying5 w0) (trodAll_cons_mk (Below.trod laidOut (by kernel_rfl) (of_decide_eq_true (by kernel_rfl)) k1 bel lt1) (trodAll_cons_mk (shut_int Try.underlying5 w2) (trodAll_cons_mk (shut_int Try.underlying5 w3) trodAll_mk0)))), rfl, bel.frame _, fun h => by cases h⟩

theorem over : Rows.HeapFullSaid :=
  OpenClaim.holds_of_wide 6 Try.f6 rfl rfl rfl rfl rfl rfl rfl ⟨rfl, rfl, rfl, rfl, rfl⟩ rfl rfl rfl rfl rfl (by kernel_rfl) Try.func6 (by kernel_rfl)
    (of_decide_eq_true (by kernel_rfl)) (by unfold Func.isWrapper; first | (rw [if_pos (by decide +kernel)]; kernel_rfl) | (rw [if_neg (by decide +kernel)]; exact ⟨rfl, rfl⟩))
    (fun os started H enc _ => lifted os started H enc)

/-- The statement. -/
theorem proved : Rows.HeapFullSaid := over
#print axioms proved
end Go.Proofs.Ytdolchlhphoggaa.heapFull
