/-
  For every input the law RunsPages of rickyard/rickyardlaw5 returns true, and its arguments read afterwards as before. The law's own sentence: Behind a take just those pages are gone that were taken; behind a put just those have come that were put; all others are as they were. No further conditions.
-/
import Derived.Test.YtlicfegpdegamaaRows
import Derived.Test.YtlicfegpdegamaaKept
import Derived.Test.YtlicfegpdegamaaShell
import Derived.Test.YtlicfegpdegamaaShellInts
import Derived.WalkKit
import Derived.ProofKit
import Derived.OpenShut
import Derived.ChangeOld
import Derived.Below
import Derived.Lib.SmallJoins
import Derived.Test.YtlicfegpdegamaaRunsMade
import Derived.Test.YtlicfegpdegamaaRunsAwake
import Derived.Test.YtlicfegpdegamaaRunsBoth
import Derived.Deep.CutRange
namespace Go.Proofs.Ytlicfegpdegamaa.runsPages
open Go.ChangeShapes Go.WideShapes Go.ChangeAt Go.RowKit
set_option linter.unusedVariables false
set_option maxRecDepth 100000

theorem own : ownKnob Try.prog.godebug = none := by kernel_rfl
theorem laidOut : laidOutB Try.prog = true := by kernel_rfl
theorem take_out (l : List R) (m : Int) (hr : Right 256 0 l) (hm : 1 ≤ m) : ∃ (L : List R) (x code : Int), Right 256 0 L ∧ 0 ≤ x ∧ x ≤ 256 ∧ (code = 0 ∨ code = 3) ∧
    (code = 0 → ∀ p, hasB L p = (hasB l p && !decide (x ≤ p ∧ p < x + m)) ∧ (decide (x ≤ p ∧ p < x + m) = true → hasB l p = true)) ∧
    (∀ A n c w, Rs w A n l → n ≤ c → Calls Try.prog 13 #[.slice A n c, .int .i64 m] w (Out3 L x code w)) := by
  cases hf : fitB l m with
  | false => exact ⟨[], 0, 3, trivial, by omega, by omega, .inr rfl, (fun h => by omega), fun A n c w h _ => (take_full A n c l m w h hm hf (by have := right_n h hr; omega)).mono fun e w' h => ⟨_, h.1, none_made h.2⟩⟩
  | true =>
    obtain ⟨i, x, f⟩ := fits_of hf
    have bx := hr.at f.at_
    exact ⟨takeL l m i x, x.1, 0, right_take hr f hm, by omega, by omega, .inl rfl, (fun _ p => ⟨has_take hr f hm p, fun h => has_taken f (of_decide_eq_true h)⟩), fun A n c w h hc => take_ok A n c l m i x w h hr hc hm f (by have := right_n h hr; omega)⟩
theorem put_out (l : List R) (r : R) (hr : Right 256 0 l) (h0 : 0 ≤ r.1) (h1 : 1 ≤ r.2) (h64 : in64 r.2) : ∃ (L : List R) (code : Int), Right 256 0 L ∧ (code = 0 ∨ code = 4 ∨ (code = 1 ∧ 256 - r.1 < r.2)) ∧
    (code = 0 → ∀ p, hasB L p = (hasB l p || decide (r.1 ≤ p ∧ p < r.1 + r.2)) ∧ (decide (r.1 ≤ p ∧ p < r.1 + r.2) = true → hasB l p = false)) ∧
    (∀ A n c w, Rs w A n l → n ≤ c → (A = none → c = 0) → Calls Try.prog 15 #[.slice A n c, run r] w (Out2 L code w)) := by
  cases hb : liesB r 256 with
  | false => exact ⟨[], 1, trivial, .inr (.inr ⟨rfl, by have := of_decide_eq_false hb; omega⟩), (fun h => by omega), fun A n c w _ _ _ => (put_bad A n c r w h64 hb).mono fun e w' h => ⟨_, h.1, none_made h.2⟩⟩
  | true =>
    obtain ⟨_, _, h2⟩ := of_decide_eq_true hb
    cases hf : freeB l r.1 r.2 with
    | false => exact ⟨[], 4, trivial, .inr (.inl rfl), (fun h => by omega), fun A n c w h _ _ => (put_twice A n c l r w h hr (by have := right_n h hr; omega) h0 h1 h2 hf).mono fun e w' h => ⟨_, h.1, none_made h.2⟩⟩
    | true =>
      refine ⟨putL l r.1 r.2, 0, right_put hr h0 h0 h1 h2 (free_mem hf), .inl rfl, (fun _ p => ⟨has_put hr h1, fun h => ?_⟩), fun A n c w h hc hA => put_ok A n c l r w h hr hc hA (by have := right_n h hr; omega) h0 h1 h2 hf⟩
      have q := of_decide_eq_true h
      simp only [hasB, List.any_eq_false, inR, decide_eq_true_eq]
      intro x hx
      have := free_mem hf x hx
      omega
/-- The three lists and the run, as a round finds them. -/
structure Pg (w W : World) (A A1 A2 : Option Addr) (n n1 n2 b : Nat) (l La Lb : List R) (r : R) : Prop where
  a : Rs W A n l
  la : Rs W A1 n1 La
  lb : Rs W A2 n2 Lb
  x : Bx W b r
  kept : Kept Old w W
theorem Pg.old {w W W' : World} {A A1 A2 : Option Addr} {n n1 n2 b : Nat} {l La Lb : List R} {r : R} (h : Pg w W A A1 A2 n n1 n2 b l La Lb r) (q : Kept Old W W') : Pg w W' A A1 A2 n n1 n2 b l La Lb r := ⟨h.a.old q, h.la.old q, h.lb.old q, h.x.old q, h.kept.trans q⟩

set_option maxHeartbeats 8000000 in
/-- The walk: the Go text returns true, and nothing that was there has turned. -/
theorem walk (a0 : Option Addr) (len0 cap0 : Nat) (z0 : Nat → Int) (a1 : Int) (a2 : Int) (a3 : Int) (w : World) (w0 : len0 ≤ cap0 ∧ cap0 ≤ maxLen ∧ (∀ i, i < len0 → (Lit.int .u8 (z0 i)).wf = true) ∧ Sl w a0 1 len0 fun i _ => .int .u8 (z0 i)) (w1 : (Lit.int .u8 a1).wf = true) (w2 : (Lit.int .u8 a2).wf = true) (w3 : (Lit.int .u8 a3).wf = true) :
    Calls Try.prog 6 #[.slice a0 len0 cap0, .int .u8 a1, .int .u8 a2, .int .u8 a3] w fun e w' => e = .returned (.bool true) ∧ Kept Old w w' := by
  obtain ⟨v0, v1, v2, v3⟩ := w0
  have b1 := bounds_u8 w1
  have b2 := bounds_u8 w2
  have b3 := bounds_u8 w3
  have hl : len0 ≤ 9223372036854775807 := by unfold maxLen at v1; omega
  have hz := Lib.hid (show ∀ i, i < len0 → 0 ≤ z0 i ∧ z0 i ≤ 255 from fun i hi => bounds_u8 (v2 i hi))
  have HS := Lib.hid v3
  clear v0 v1 v2 v3 w1 w2 w3
  go_enter Try.func6, Try.ntmps6
  go_wp2_with fail
  refine (made_any a0 len0 cap0 z0 w hl hz.out HS.out).mono ?_
  rintro e w1 ⟨v, rfl, ⟨A, n, c, rfl, R1, hc, hA, k1⟩, hr⟩
  generalize madeL z0 len0 = l at *
  have m1 : 1 ≤ 1 + a1 % 24 := by omega
  have m2 : 1 + a1 % 24 ≤ 24 := by omega
  have t1 : 1 ≤ 1 + a3 % 24 := by omega
  have t2 : 1 + a3 % 24 ≤ 24 := by omega
  obtain ⟨La, x, ec, RA, x0, x1, hec, PE, T⟩ := take_out l (1 + a1 % 24) hr m1
  obtain ⟨Lb, fc, RB, hfc, PF, P⟩ := put_out l (a2, 1 + a3 % 24) hr (by show 0 ≤ a2; omega) t1 ⟨by show _ ≤ 1 + a3 % 24; omega, by show 1 + a3 % 24 ≤ _; omega⟩
  have HR := Lib.hid R1
  have HT := Lib.hid hr
  have HA := Lib.hid hA
  have K := Lib.hid k1
  have RA := Lib.hid RA
  have RB := Lib.hid RB
  have PE := Lib.hid PE
  have PF := Lib.hid PF
  have T := Lib.hid T
  have P := Lib.hid P
  have hec := Lib.hid hec
  have hfc := Lib.hid (show fc = 0 ∨ fc = 4 ∨ (fc = 1 ∧ 256 - a2 < 1 + a3 % 24) from hfc)
  clear R1 hr hA k1 hz HS
  go_wp2_with fail
  refine (T.out _ _ _ _ HR.out hc).mono ?_
  rintro e w2 ⟨v1, rfl, A1, n1, c1, rfl, S1, _, _, q⟩
  have HR := Lib.hid (HR.out.old q)
  have S1 := Lib.hid S1
  have K := Lib.hid (K.out.trans q)
  clear q T
  go_wp2_with fail
  refine (P.out _ _ _ _ (HR.out.old ((Kept.refl Old w2).alloc _)) hc HA.out).mono ?_
  rintro e w3 ⟨v2, rfl, A2, n2, c2, rfl, S2, _, _, q⟩
  have S := Lib.hid (show Pg w w3 A A1 A2 n n1 n2 w2.heap.size l La Lb (a2, 1 + a3 % 24) from
    ⟨(HR.out.old ((Kept.refl Old w2).alloc _)).old q, (S1.out.old ((Kept.refl Old w2).alloc _)).old q, S2, (Bx.new w2 (a2, 1 + a3 % 24)).old q, (K.out.alloc _).trans q⟩)
  clear q P HR S1 S2 K HA
  go_wp2_with fail
  generalize w2.heap.size = bb at *
  generalize hmm : 1 + a1 % 24 = m at *
  generalize hmt : 1 + a3 % 24 = t at *
  clear hmm hmt
  go_loopw [17] (fun i wr => ∃ p : Nat, p ≤ 256 ∧ i = .int .i64 (p : Int) ∧ Hid (Pg w wr A A1 A2 n n1 n2 bb l La Lb (a2, t))) (fun i _ => 300 - (intOf i).toNat)
  case atStart => exact ⟨0, by omega, rfl, S⟩
  case round =>
    clear S
    obtain ⟨p, hp, rfl, S⟩ := hrel
    rename World => W
    by_cases h1 : p < 256
    · have h1' : (p : Int) < 256 := by omega
      go_wp2_with fail
      refine (has_any A n c l (p : Int) _ S.out.a HT.out).mono ?_
      rintro e w5 ⟨rfl, q⟩
      have S := Lib.hid (S.out.old q)
      clear q
      obtain ⟨tk, htk0⟩ : ∃ tk, tk = decide (x ≤ (p : Int) ∧ (p : Int) < x + m) := ⟨_, rfl⟩
      have PE := Lib.hid (show ec = 0 → hasB La (p : Int) = (hasB l (p : Int) && !tk) ∧ (tk = true → hasB l (p : Int) = true) from by rw [htk0]; exact fun h => PE.out h (p : Int))
      have htk := Lib.hid htk0
      clear htk0
      go_upto_region 10 with fail
      go_cut [19] from 47 to 114 (fun s19 wx => s19 = .bool tk ∧ wx = w5)
      case first =>
        by_cases d1 : x ≤ (p : Int)
        · by_cases d2 : (p : Int) < x + m
          · have e : tk = true := by rw [htk.out]; exact decide_eq_true ⟨d1, d2⟩
            go_wp2
            go_meet
            case rel => exact ⟨by first | rfl | rw [e], rfl⟩
          · have e : tk = false := by rw [htk.out]; exact decide_eq_false (by omega)
            go_wp2
            go_meet
            case rel => exact ⟨by first | rfl | rw [e], rfl⟩
        · have e : tk = false := by rw [htk.out]; exact decide_eq_false (by omega)
          go_wp2
          go_meet
          case rel => exact ⟨by first | rfl | rw [e], rfl⟩
      case rest =>
        obtain ⟨hs, hw⟩ := hcut
        subst hs
        subst hw
        have E : (ec = 3 ∧ True) ∨ (ec = 0 ∧ tk = true ∧ hasB l (p : Int) = true ∧ hasB La (p : Int) = false) ∨ (ec = 0 ∧ tk = false ∧ hasB La (p : Int) = hasB l (p : Int)) := by
          rcases hec.out with h | h
          · have q := PE.out h
            cases tk with
            | true => exact .inr (.inl ⟨h, rfl, q.2 rfl, by rw [q.1]; simp⟩)
            | false => exact .inr (.inr ⟨h, rfl, by rw [q.1]; simp⟩)
          · exact .inl ⟨h, trivial⟩
        clear PE htk
        rcases E with ⟨rfl, _⟩ | ⟨rfl, rfl, hw, ha⟩ | ⟨rfl, rfl, ha⟩
        · cases hw : hasB l (p : Int)
          · have hw := Lib.hid hw
            rename World => V
            have x0' : V.cell? ⟨bb, 0, none⟩ = some (.int .i64 a2) := S.out.x.c0
            have x1' : V.cell? ⟨bb, 1, none⟩ = some (.int .i64 t) := S.out.x.c1
            obtain ⟨pt, hpt0⟩ : ∃ pt, pt = decide (a2 ≤ (p : Int) ∧ (p : Int) < a2 + t) := ⟨_, rfl⟩
            have PG := Lib.hid (show fc = 0 → hasB Lb (p : Int) = (hasB l (p : Int) || pt) ∧ (pt = true → hasB l (p : Int) = false) from by rw [hpt0]; exact fun h => PF.out h (p : Int))
            have hpt := Lib.hid hpt0
            clear hpt0
            go_upto_region 13 with fail
            go_cut [20] from 47 to 114 (fun s20 wx => s20 = .bool pt ∧ wx = V)
            case first =>
              by_cases d1 : a2 ≤ (p : Int)
              · by_cases d2 : (p : Int) < a2 + t
                · have e : pt = true := by rw [hpt.out]; exact decide_eq_true ⟨d1, d2⟩
                  go_wp2
                  go_meet
                  case rel => exact ⟨by first | rfl | rw [e], rfl⟩
                · have e : pt = false := by rw [hpt.out]; exact decide_eq_false (by omega)
                  go_wp2
                  go_meet
                  case rel => exact ⟨by first | rfl | rw [e], rfl⟩
              · have e : pt = false := by rw [hpt.out]; exact decide_eq_false (by omega)
                go_wp2
                go_meet
                case rel => exact ⟨by first | rfl | rw [e], rfl⟩
            case rest =>
              obtain ⟨hs, hv⟩ := hcut
              subst hs
              subst hv
              have F : (fc = 4 ∧ True) ∨ (fc = 1 ∧ True) ∨ (fc = 0 ∧ pt = true ∧ hasB l (p : Int) = false ∧ hasB Lb (p : Int) = true) ∨ (fc = 0 ∧ pt = false ∧ hasB Lb (p : Int) = false) := by
                rcases hfc.out with h | h | h
                · have q := PG.out h
                  cases pt with
                  | true => exact .inr (.inr (.inl ⟨h, rfl, q.2 rfl, by rw [q.1]; simp⟩))
                  | false => exact .inr (.inr (.inr ⟨h, rfl, by rw [q.1, hw.out]; rfl⟩))
                · exact .inl ⟨h, trivial⟩
                · exact .inr (.inl ⟨h.1, trivial⟩)
              clear PG hpt x0' x1'
              rcases F with ⟨rfl, _⟩ | ⟨rfl, _⟩ | ⟨rfl, rfl, f2, f3⟩ | ⟨rfl, rfl, f3⟩
              · go_wp2
                refine ⟨⟨p + 1, by omega, by go_num, S⟩, ?_⟩
                simp [intOf]; omega
              · go_wp2
                refine ⟨⟨p + 1, by omega, by go_num, S⟩, ?_⟩
                simp [intOf]; omega
              · go_wp2_with fail
                refine (has_any A2 n2 c2 Lb (p : Int) _ S.out.lb RB.out).mono ?_
                rintro e V2 ⟨rfl, q⟩
                rw [f3]
                have S := Lib.hid (S.out.old q)
                clear q
                go_wp2
                refine ⟨⟨p + 1, by omega, by go_num, S⟩, ?_⟩
                simp [intOf]; omega
              · go_wp2_with fail
                refine (has_any A2 n2 c2 Lb (p : Int) _ S.out.lb RB.out).mono ?_
                rintro e V2 ⟨rfl, q⟩
                rw [f3]
                have S := Lib.hid (S.out.old q)
                clear q
                go_wp2
                refine ⟨⟨p + 1, by omega, by go_num, S⟩, ?_⟩
                simp [intOf]; omega
          · have hw := Lib.hid hw
            rename World => V
            have x0' : V.cell? ⟨bb, 0, none⟩ = some (.int .i64 a2) := S.out.x.c0
            have x1' : V.cell? ⟨bb, 1, none⟩ = some (.int .i64 t) := S.out.x.c1
            obtain ⟨pt, hpt0⟩ : ∃ pt, pt = decide (a2 ≤ (p : Int) ∧ (p : Int) < a2 + t) := ⟨_, rfl⟩
            have PG := Lib.hid (show fc = 0 → hasB Lb (p : Int) = (hasB l (p : Int) || pt) ∧ (pt = true → hasB l (p : Int) = false) from by rw [hpt0]; exact fun h => PF.out h (p : Int))
            have hpt := Lib.hid hpt0
            clear hpt0
            go_upto_region 13 with fail
            go_cut [20] from 47 to 114 (fun s20 wx => s20 = .bool pt ∧ wx = V)
            case first =>
              by_cases d1 : a2 ≤ (p : Int)
              · by_cases d2 : (p : Int) < a2 + t
                · have e : pt = true := by rw [hpt.out]; exact decide_eq_true ⟨d1, d2⟩
                  go_wp2
                  go_meet
                  case rel => exact ⟨by first | rfl | rw [e], rfl⟩
                · have e : pt = false := by rw [hpt.out]; exact decide_eq_false (by omega)
                  go_wp2
                  go_meet
                  case rel => exact ⟨by first | rfl | rw [e], rfl⟩
              · have e : pt = false := by rw [hpt.out]; exact decide_eq_false (by omega)
                go_wp2
                go_meet
                case rel => exact ⟨by first | rfl | rw [e], rfl⟩
            case rest =>
              obtain ⟨hs, hv⟩ := hcut
              subst hs
              subst hv
              have F : (fc = 4 ∧ True) ∨ (fc = 1 ∧ True) ∨ (fc = 0 ∧ pt = true ∧ hasB l (p : Int) = false ∧ hasB Lb (p : Int) = true) ∨ (fc = 0 ∧ pt = false ∧ hasB Lb (p : Int) = true) := by
                rcases hfc.out with h | h | h
                · have q := PG.out h
                  cases pt with
                  | true => exact .inr (.inr (.inl ⟨h, rfl, q.2 rfl, by rw [q.1]; simp⟩))
                  | false => exact .inr (.inr (.inr ⟨h, rfl, by rw [q.1, hw.out]; rfl⟩))
                · exact .inl ⟨h, trivial⟩
                · exact .inr (.inl ⟨h.1, trivial⟩)
              clear PG hpt x0' x1'
              rcases F with ⟨rfl, _⟩ | ⟨rfl, _⟩ | ⟨rfl, rfl, f2, f3⟩ | ⟨rfl, rfl, f3⟩
              · go_wp2
                refine ⟨⟨p + 1, by omega, by go_num, S⟩, ?_⟩
                simp [intOf]; omega
              · go_wp2
                refine ⟨⟨p + 1, by omega, by go_num, S⟩, ?_⟩
                simp [intOf]; omega
              · exact absurd (hw.out.symm.trans f2) (by decide)
              · go_wp2_with fail
                refine (has_any A2 n2 c2 Lb (p : Int) _ S.out.lb RB.out).mono ?_
                rintro e V2 ⟨rfl, q⟩
                rw [f3]
                have S := Lib.hid (S.out.old q)
                clear q
                go_wp2
                refine ⟨⟨p + 1, by omega, by go_num, S⟩, ?_⟩
                simp [intOf]; omega
        · rw [hw]
          have hw := Lib.hid hw
          go_wp2_with fail
          refine (has_any A1 n1 c1 La (p : Int) _ S.out.la RA.out).mono ?_
          rintro e V ⟨rfl, q⟩
          rw [ha]
          have S := Lib.hid (S.out.old q)
          clear q ha
          have x0' : V.cell? ⟨bb, 0, none⟩ = some (.int .i64 a2) := S.out.x.c0
          have x1' : V.cell? ⟨bb, 1, none⟩ = some (.int .i64 t) := S.out.x.c1
          obtain ⟨pt, hpt0⟩ : ∃ pt, pt = decide (a2 ≤ (p : Int) ∧ (p : Int) < a2 + t) := ⟨_, rfl⟩
          have PG := Lib.hid (show fc = 0 → hasB Lb (p : Int) = (hasB l (p : Int) || pt) ∧ (pt = true → hasB l (p : Int) = false) from by rw [hpt0]; exact fun h => PF.out h (p : Int))
          have hpt := Lib.hid hpt0
          clear hpt0
          go_upto_region 13 with fail
          go_cut [20] from 47 to 114 (fun s20 wx => s20 = .bool pt ∧ wx = V)
          case first =>
            by_cases d1 : a2 ≤ (p : Int)
            · by_cases d2 : (p : Int) < a2 + t
              · have e : pt = true := by rw [hpt.out]; exact decide_eq_true ⟨d1, d2⟩
                go_wp2
                go_meet
                case rel => exact ⟨by first | rfl | rw [e], rfl⟩
              · have e : pt = false := by rw [hpt.out]; exact decide_eq_false (by omega)
                go_wp2
                go_meet
                case rel => exact ⟨by first | rfl | rw [e], rfl⟩
            · have e : pt = false := by rw [hpt.out]; exact decide_eq_false (by omega)
              go_wp2
              go_meet
              case rel => exact ⟨by first | rfl | rw [e], rfl⟩
          case rest =>
            obtain ⟨hs, hv⟩ := hcut
            subst hs
            subst hv
            have F : (fc = 4 ∧ True) ∨ (fc = 1 ∧ True) ∨ (fc = 0 ∧ pt = true ∧ hasB l (p : Int) = false ∧ hasB Lb (p : Int) = true) ∨ (fc = 0 ∧ pt = false ∧ hasB Lb (p : Int) = true) := by
              rcases hfc.out with h | h | h
              · have q := PG.out h
                cases pt with
                | true => exact .inr (.inr (.inl ⟨h, rfl, q.2 rfl, by rw [q.1]; simp⟩))
                | false => exact .inr (.inr (.inr ⟨h, rfl, by rw [q.1, hw.out]; rfl⟩))
              · exact .inl ⟨h, trivial⟩
              · exact .inr (.inl ⟨h.1, trivial⟩)
            clear PG hpt x0' x1'
            rcases F with ⟨rfl, _⟩ | ⟨rfl, _⟩ | ⟨rfl, rfl, f2, f3⟩ | ⟨rfl, rfl, f3⟩
            · go_wp2
              refine ⟨⟨p + 1, by omega, by go_num, S⟩, ?_⟩
              simp [intOf]; omega
            · go_wp2
              refine ⟨⟨p + 1, by omega, by go_num, S⟩, ?_⟩
              simp [intOf]; omega
            · exact absurd (hw.out.symm.trans f2) (by decide)
            · go_wp2_with fail
              refine (has_any A2 n2 c2 Lb (p : Int) _ S.out.lb RB.out).mono ?_
              rintro e V2 ⟨rfl, q⟩
              rw [f3]
              have S := Lib.hid (S.out.old q)
              clear q
              go_wp2
              refine ⟨⟨p + 1, by omega, by go_num, S⟩, ?_⟩
              simp [intOf]; omega
        · cases hw : hasB l (p : Int)
          · rw [hw] at ha
            have hw := Lib.hid hw
            go_wp2_with fail
            refine (has_any A1 n1 c1 La (p : Int) _ S.out.la RA.out).mono ?_
            rintro e V ⟨rfl, q⟩
            rw [ha]
            have S := Lib.hid (S.out.old q)
            clear q ha
            have x0' : V.cell? ⟨bb, 0, none⟩ = some (.int .i64 a2) := S.out.x.c0
            have x1' : V.cell? ⟨bb, 1, none⟩ = some (.int .i64 t) := S.out.x.c1
            obtain ⟨pt, hpt0⟩ : ∃ pt, pt = decide (a2 ≤ (p : Int) ∧ (p : Int) < a2 + t) := ⟨_, rfl⟩
            have PG := Lib.hid (show fc = 0 → hasB Lb (p : Int) = (hasB l (p : Int) || pt) ∧ (pt = true → hasB l (p : Int) = false) from by rw [hpt0]; exact fun h => PF.out h (p : Int))
            have hpt := Lib.hid hpt0
            clear hpt0
            go_upto_region 13 with fail
            go_cut [20] from 47 to 114 (fun s20 wx => s20 = .bool pt ∧ wx = V)
            case first =>
              by_cases d1 : a2 ≤ (p : Int)
              · by_cases d2 : (p : Int) < a2 + t
                · have e : pt = true := by rw [hpt.out]; exact decide_eq_true ⟨d1, d2⟩
                  go_wp2
                  go_meet
                  case rel => exact ⟨by first | rfl | rw [e], rfl⟩
                · have e : pt = false := by rw [hpt.out]; exact decide_eq_false (by omega)
                  go_wp2
                  go_meet
                  case rel => exact ⟨by first | rfl | rw [e], rfl⟩
              · have e : pt = false := by rw [hpt.out]; exact decide_eq_false (by omega)
                go_wp2
                go_meet
                case rel => exact ⟨by first | rfl | rw [e], rfl⟩
            case rest =>
              obtain ⟨hs, hv⟩ := hcut
              subst hs
              subst hv
              have F : (fc = 4 ∧ True) ∨ (fc = 1 ∧ True) ∨ (fc = 0 ∧ pt = true ∧ hasB l (p : Int) = false ∧ hasB Lb (p : Int) = true) ∨ (fc = 0 ∧ pt = false ∧ hasB Lb (p : Int) = false) := by
                rcases hfc.out with h | h | h
                · have q := PG.out h
                  cases pt with
                  | true => exact .inr (.inr (.inl ⟨h, rfl, q.2 rfl, by rw [q.1]; simp⟩))
                  | false => exact .inr (.inr (.inr ⟨h, rfl, by rw [q.1, hw.out]; rfl⟩))
                · exact .inl ⟨h, trivial⟩
                · exact .inr (.inl ⟨h.1, trivial⟩)
              clear PG hpt x0' x1'
              rcases F with ⟨rfl, _⟩ | ⟨rfl, _⟩ | ⟨rfl, rfl, f2, f3⟩ | ⟨rfl, rfl, f3⟩
              · go_wp2
                refine ⟨⟨p + 1, by omega, by go_num, S⟩, ?_⟩
                simp [intOf]; omega
              · go_wp2
                refine ⟨⟨p + 1, by omega, by go_num, S⟩, ?_⟩
                simp [intOf]; omega
              · go_wp2_with fail
                refine (has_any A2 n2 c2 Lb (p : Int) _ S.out.lb RB.out).mono ?_
                rintro e V2 ⟨rfl, q⟩
                rw [f3]
                have S := Lib.hid (S.out.old q)
                clear q
                go_wp2
                refine ⟨⟨p + 1, by omega, by go_num, S⟩, ?_⟩
                simp [intOf]; omega
              · go_wp2_with fail
                refine (has_any A2 n2 c2 Lb (p : Int) _ S.out.lb RB.out).mono ?_
                rintro e V2 ⟨rfl, q⟩
                rw [f3]
                have S := Lib.hid (S.out.old q)
                clear q
                go_wp2
                refine ⟨⟨p + 1, by omega, by go_num, S⟩, ?_⟩
                simp [intOf]; omega
          · rw [hw] at ha
            have hw := Lib.hid hw
            go_wp2_with fail
            refine (has_any A1 n1 c1 La (p : Int) _ S.out.la RA.out).mono ?_
            rintro e V ⟨rfl, q⟩
            rw [ha]
            have S := Lib.hid (S.out.old q)
            clear q ha
            have x0' : V.cell? ⟨bb, 0, none⟩ = some (.int .i64 a2) := S.out.x.c0
            have x1' : V.cell? ⟨bb, 1, none⟩ = some (.int .i64 t) := S.out.x.c1
            obtain ⟨pt, hpt0⟩ : ∃ pt, pt = decide (a2 ≤ (p : Int) ∧ (p : Int) < a2 + t) := ⟨_, rfl⟩
            have PG := Lib.hid (show fc = 0 → hasB Lb (p : Int) = (hasB l (p : Int) || pt) ∧ (pt = true → hasB l (p : Int) = false) from by rw [hpt0]; exact fun h => PF.out h (p : Int))
            have hpt := Lib.hid hpt0
            clear hpt0
            go_upto_region 13 with fail
            go_cut [20] from 47 to 114 (fun s20 wx => s20 = .bool pt ∧ wx = V)
            case first =>
              by_cases d1 : a2 ≤ (p : Int)
              · by_cases d2 : (p : Int) < a2 + t
                · have e : pt = true := by rw [hpt.out]; exact decide_eq_true ⟨d1, d2⟩
                  go_wp2
                  go_meet
                  case rel => exact ⟨by first | rfl | rw [e], rfl⟩
                · have e : pt = false := by rw [hpt.out]; exact decide_eq_false (by omega)
                  go_wp2
                  go_meet
                  case rel => exact ⟨by first | rfl | rw [e], rfl⟩
              · have e : pt = false := by rw [hpt.out]; exact decide_eq_false (by omega)
                go_wp2
                go_meet
                case rel => exact ⟨by first | rfl | rw [e], rfl⟩
            case rest =>
              obtain ⟨hs, hv⟩ := hcut
              subst hs
              subst hv
              have F : (fc = 4 ∧ True) ∨ (fc = 1 ∧ True) ∨ (fc = 0 ∧ pt = true ∧ hasB l (p : Int) = false ∧ hasB Lb (p : Int) = true) ∨ (fc = 0 ∧ pt = false ∧ hasB Lb (p : Int) = true) := by
                rcases hfc.out with h | h | h
                · have q := PG.out h
                  cases pt with
                  | true => exact .inr (.inr (.inl ⟨h, rfl, q.2 rfl, by rw [q.1]; simp⟩))
                  | false => exact .inr (.inr (.inr ⟨h, rfl, by rw [q.1, hw.out]; rfl⟩))
                · exact .inl ⟨h, trivial⟩
                · exact .inr (.inl ⟨h.1, trivial⟩)
              clear PG hpt x0' x1'
              rcases F with ⟨rfl, _⟩ | ⟨rfl, _⟩ | ⟨rfl, rfl, f2, f3⟩ | ⟨rfl, rfl, f3⟩
              · go_wp2
                refine ⟨⟨p + 1, by omega, by go_num, S⟩, ?_⟩
                simp [intOf]; omega
              · go_wp2
                refine ⟨⟨p + 1, by omega, by go_num, S⟩, ?_⟩
                simp [intOf]; omega
              · exact absurd (hw.out.symm.trans f2) (by decide)
              · go_wp2_with fail
                refine (has_any A2 n2 c2 Lb (p : Int) _ S.out.lb RB.out).mono ?_
                rintro e V2 ⟨rfl, q⟩
                rw [f3]
                have S := Lib.hid (S.out.old q)
                clear q
                go_wp2
                refine ⟨⟨p + 1, by omega, by go_num, S⟩, ?_⟩
                simp [intOf]; omega
    · have h1' : ¬ (p : Int) < 256 := by omega
      have x0' : W.cell? ⟨bb, 0, none⟩ = some (.int .i64 a2) := S.out.x.c0
      have x1' : W.cell? ⟨bb, 1, none⟩ = some (.int .i64 t) := S.out.x.c1
      rcases hec.out with rfl | rfl
      all_goals
        rcases hfc.out with rfl | rfl | ⟨rfl, hh⟩
        all_goals
          go_wp2_with fail
          refine (awake_any _).mono ?_
          rintro e w6 ⟨rfl, q⟩
          go_wp2_with fail
          go_ret
          exact ⟨rfl, S.out.kept.trans q⟩

/-- The row's step. -/
theorem lifted (os : Os) (started : os.Started) (H : Type) (enc : TypeId × Value → H) :
    ReturnsInHanded {} Try.checked os 6 .any (Rows.runsPagesSpec.pre6 enc Try.prog Try.f6 Rows.runsPagesRow.domain false) (Rows.runsPagesSpec.post enc Try.prog Try.f6 false true false false) := by
  refine returnsInHanded_of_change (C := Try.checked) own started (by kernel_rfl) Try.func6
    (ChangeSpec.witness6 (enc := enc) (C := Try.checked) false ⟨#[], #[.slice none 0 0, .int .u8 0, .int .u8 0, .int .u8 0], []⟩ 8 (by kernel_rfl) (by kernel_rfl) (by kernel_rfl) (by kernel_rfl)) ?_
  intro W base args ds gs before hval0 hW hcnd _
  have hval : ∀ (j : Nat) t v, Try.f6.params[j]? = some t → args[j]? = some v → Value.okWide Try.prog W .any base t v := hval0
  have hW' := hW
  obtain ⟨p, q, hA0, hV, rfl, hfz, hnd⟩ := hW
  have hA : DataW.TrodAll enc Try.prog W 0 (fun _ => true) true Try.f6.params.toList args.toList ds p := hA0
  rw [Try.params6] at hA hval
  obtain ⟨v0, vs0, d0, ds0, p0, q0, hargs, rfl, rfl, h0, r0⟩ := trodAll_cons hA
  obtain ⟨v1, vs1, d1, ds1, p1, q1, rfl, rfl, rfl, h1, r1⟩ := trodAll_cons r0
  obtain ⟨v2, vs2, d2, ds2, p2, q2, rfl, rfl, rfl, h2, r2⟩ := trodAll_cons r1
  obtain ⟨v3, vs3, d3, ds3, p3, q3, rfl, rfl, rfl, h3, r3⟩ := trodAll_cons r2
  obtain ⟨rfl, rfl, rfl⟩ := trodAll_nil r3
  obtain rfl : args = #[v0, v1, v2, v3] := by cases args; simp_all
  obtain ⟨rfl, rfl⟩ := trodVars_none hV
  have k0 := h0
  have lt0 : ∀ x ∈ p0, x.block < W.heap.size := by obtain ⟨m, hm⟩ := k0; exact DataW.trod_lt m _ _ _ hm
  obtain ⟨a0, len0, cap0, rfl⟩ := okWide_slice Try.underlying29 (hval 0 29 v0 rfl rfl)
  obtain ⟨z0, w0⟩ := ints_in Try.underlying29 Try.underlying5 (by kernel_rfl) h0
  obtain ⟨a1, rfl, rfl, rfl, w1⟩ := open_int Try.underlying5 (hval 1 5 v1 rfl rfl) h1
  obtain ⟨a2, rfl, rfl, rfl, w2⟩ := open_int Try.underlying5 (hval 2 5 v2 rfl rfl) h2
  obtain ⟨a3, rfl, rfl, rfl, w3⟩ := open_int Try.underlying5 (hval 3 5 v3 rfl rfl) h3
  clear hA0 hval0
  refine (walk a0 len0 cap0 z0 a1 a2 a3 W w0 w1 w2 w3).mono fun e W' ⟨he, kept⟩ => ?_
  subst he
  have bel : Below W.heap.size W W' := kept.toBelow (Nat.le_refl _) (fun _ x => x.elim)
  exact ⟨_, rfl, _, _, _, [], _, [], hW', trodAll_mk1 (shut_bool Try.underlying4 _), (trodAll_cons_mk (Below.trod laidOut (by kernel_rfl) (of_decide_eq_true (by kernel_rfl)) k0 bel lt0) (trodAll_cons_mk (shut_int Try.underlying5 w1) (trodAll_cons_mk (shut_int Try.underlying5 w2) (trodAll_cons_mk (shut_int Try.underlying5 w3) trodAll_mk0)))), rfl, bel.frame _, fun h => by cases h⟩

theorem over : Rows.RunsPagesSaid :=
  OpenClaim.holds_of_wide 6 Try.f6 rfl rfl rfl rfl rfl rfl rfl ⟨rfl, rfl, rfl, rfl, rfl⟩ rfl rfl rfl rfl rfl (by kernel_rfl) Try.func6 (by kernel_rfl)
    (of_decide_eq_true (by kernel_rfl)) (by unfold Func.isWrapper; first | (rw [if_pos (by decide +kernel)]; kernel_rfl) | (rw [if_neg (by decide +kernel)]; exact ⟨rfl, rfl⟩))
    (fun os started H enc _ => lifted os started H enc)

/-- The statement. -/
theorem proved : Rows.RunsPagesSaid := over
#print axioms proved
end Go.Proofs.Ytlicfegpdegamaa.runsPages
