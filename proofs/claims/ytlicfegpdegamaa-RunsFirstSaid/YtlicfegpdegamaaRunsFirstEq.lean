/-
  The law RunsFirst where the first run that is long enough is just as long as what is taken. Own work; each is proved by a walk through the landed text.
-/
import Derived.Test.YtlicfegpdegamaaRows
import Derived.Test.YtlicfegpdegamaaRunsMem
import Derived.Test.YtlicfegpdegamaaRunsCalls
import Derived.Test.YtlicfegpdegamaaRunsMade
import Derived.Test.YtlicfegpdegamaaRunsAwake
import Derived.Test.YtlicfegpdegamaaRunsBoth
import Derived.Test.YtlicfegpdegamaaRunsFirstLem
import Derived.WalkKit
import Derived.ProofKit
import Derived.OpenShut
import Derived.Outline
import Derived.Deep.Light
import Derived.Deep.QuietTactic
import Derived.BigQuiet
import Derived.IntWalk
import Derived.StillTailTactics
import Derived.RegionTactic
import Derived.Deep.RegionLaw
import Derived.ChangeAlike
import Derived.Deep.RegionHeld3
import Derived.Deep.CutRange
namespace Go.Proofs.Ytlicfegpdegamaa
open Go.ChangeShapes Go.WideShapes Go.ChangeAt Go.RowKit
set_option maxRecDepth 100000

set_option linter.unusedVariables false
set_option maxHeartbeats 8000000 in
theorem first_eq (a0 : Option Addr) (len0 cap0 : Nat) (z0 : Nat → Int) (a1 : Int) (w : World) (w0 : len0 ≤ cap0 ∧ cap0 ≤ maxLen ∧ (∀ i, i < len0 → (Lit.int .u8 (z0 i)).wf = true) ∧ Sl w a0 1 len0 fun i _ => .int .u8 (z0 i)) (w1 : (Lit.int .u8 a1).wf = true) (i : Nat) (x : R) (f : Fits (madeL z0 len0) (1 + a1 % 24) i x) (z : x.2 = 1 + a1 % 24) :
    Calls Try.prog 7 #[.slice a0 len0 cap0, .int .u8 a1] w fun e w' => e = .returned (.bool true) ∧ Kept Old w w' := by
  have zz := Lib.hid z
  clear z
  obtain ⟨v0, v1, v2, v3⟩ := w0
  have bn := bounds_u8 w1
  have hl : len0 ≤ 9223372036854775807 := by unfold maxLen at v1; omega
  have hz := Lib.hid (show ∀ i, i < len0 → 0 ≤ z0 i ∧ z0 i ≤ 255 from fun i hi => bounds_u8 (v2 i hi))
  have HS := Lib.hid v3
  clear v0 v1 v2 v3 w1
  go_enter Try.func7, Try.ntmps7
  go_wp2_with fail
  refine (made_any a0 len0 cap0 z0 w hl hz.out HS.out).mono ?_
  rintro e w1 ⟨v, rfl, ⟨A, n, c, rfl, R1, hc, hA, k1⟩, hr⟩
  generalize madeL z0 len0 = l at *
  have HR := Lib.hid R1
  have HT := Lib.hid hr
  have K := Lib.hid k1
  have hn := right_n R1 hr
  clear R1 hr hA k1 hz HS
  have m1 : 1 ≤ 1 + a1 % 24 := by omega
  have m2 : 1 + a1 % 24 ≤ 24 := by omega
  have bx := HT.out.at f.at_
  have big := f.big
  have hi : i < n := by have := f.lt; have := HR.out.len; omega
  have tl := Lib.hid (take_len f)
  have rt := Lib.hid (right_take HT.out f m1)
  have HF := Lib.hid f
  generalize hm : 1 + a1 % 24 = m at *
  clear f
  go_wp2_with fail
  refine (fit_ok A n c l m i x _ HR.out m1 HF.out (by omega)).mono ?_
  rintro e w2 ⟨rfl, q⟩
  have K := Lib.hid (K.out.trans q)
  have HR := Lib.hid (HR.out.old q)
  clear q
  go_wp2_with fail
  refine (take_ok A n c l m i x _ HR.out HT.out hc m1 HF.out (by omega)).mono ?_
  rintro e w3 ⟨v2, rfl, A1, n1, c1, rfl, S1, hc1, hA1, q⟩
  have S := Lib.hid (show Fi w w3 A A1 n n1 l (takeL l m i x) from ⟨HR.out.old q, S1, K.out.trans q⟩)
  have n1b := right_n S1 rt.out
  have hA1 := Lib.hid hA1
  have tl2 := Lib.hid (show n1 + (if x.2 - m = 0 then 1 else 0) = n from by have := tl.out; have := S1.len; have := HR.out.len; omega)
  clear q S1 HR K tl
  obtain ⟨g, o, y, rfl, _, hx, f1, f2, c0, c1'⟩ := S.out.a.get hi
  obtain rfl : y = x := by have := HF.out.at_; rw [hx] at this; exact Option.some.inj this
  have hx := Lib.hid hx
  have hi' : (i : Int) < (n : Int) := by omega
  have hi0 : 0 ≤ (i : Int) := by omega
  clear f1 f2
  go_wp2_with fail
  go_loopw [12] (fun j wr => ∃ k : Nat, k ≤ i ∧ j = .int .i64 (k : Int) ∧ Hid (Fi w wr (some ⟨g, o, none⟩) A1 n n1 l (takeL l m i y))) (fun j _ => i - (intOf j).toNat)
  case atStart => exact ⟨0, by omega, rfl, S⟩
  case round =>
    clear S c0 c1'
    obtain ⟨k, hk, rfl, S⟩ := hrel
    rename World => V
    by_cases d : k < i
    · have d' : (k : Int) < (i : Int) := by omega
      obtain ⟨g', o', u, e', _, hu, _, _, u0, u1⟩ := S.out.a.get (k := k) (by omega)
      injection e' with e'
      injection e' with e1 e2
      subst e1
      subst e2
      have lt : u.2 < m := HF.out.below u (List.mem_of_getElem? (i := k) (by rw [List.getElem?_take, if_pos d]; exact hu))
      clear hu
      go_wp2
      refine ⟨⟨k + 1, by omega, by go_num, S⟩, ?_⟩
      simp [intOf]; omega
    · obtain rfl : k = i := by omega
      have d' : ¬ (k : Int) < (k : Int) := by omega
      clear d
      obtain ⟨g', o', u, e', _, hu, _, _, u0, u1⟩ := S.out.a.get hi
      injection e' with e'
      injection e' with e1 e2
      subst e1
      subst e2
      obtain rfl : u = y := by have := hx.out; rw [hu] at this; exact Option.some.inj this
      clear hu
      have z : u.2 = m := zz.out
      have z' : (u.2 == m) = true := by simp [z]
      have z0 : u.2 - m = 0 := by omega
      have tl' : n1 + 1 = n := by have := tl2.out; rw [if_pos z0] at this; exact this
      have ll : k ≤ l.length := by have := S.out.a.len; omega
      obtain ⟨p1, p2⟩ := take_parts (l := l) ll z0
      have TL := Lib.hid (S.out.a.take (i := k) (by omega))
      have DL := Lib.hid (rs_any S.out.a (k + 1) _ rfl)
      have TA := Lib.hid (S.out.la.take (i := k) (by omega))
      rw [p1] at TA
      have t1 : ((n1 : Int) == (n : Int) - 1) = true := by simp; omega
      have wn : IntKind.i64.wrap ((n : Int) - 1) = (n : Int) - 1 := IntWalk.i64_in _ (by omega)
      have wi : IntKind.i64.wrap ((k : Int) + 1) = (k : Int) + 1 := IntWalk.i64_in _ (by omega)
      have hk1 : (k : Int) ≤ (k : Int) + 1 := by omega
      have hle : (k : Int) + 1 ≤ (n : Int) := by omega
      have hge : 0 ≤ (k : Int) + 1 := by omega
      have hlc : (k : Int) ≤ (c : Int) := by omega
      have hla : (k : Int) ≤ (c1 : Int) := by omega
      have hln : (k : Int) ≤ (n1 : Int) := by omega
      have hle' : k + 1 ≤ n := by omega
      have hlc' : k ≤ c := by omega
      have hla' : k ≤ c1 := by omega
      have hln' : k ≤ n1 := by omega
      have tl' := Lib.hid tl'
      have AA : (∃ g1 o1, A1 = some ⟨g1, o1, none⟩) ∨ (n1 = 0 ∧ A1 = none ∧ c1 = 0) ∨ (n1 = 0 ∧ ∃ ad, A1 = some ad) := by
        by_cases q : 0 < n1
        · obtain ⟨g1, o1, e, _⟩ := S.out.la.lies q; exact .inl ⟨g1, o1, e⟩
        · cases A1 with
          | none => exact .inr (.inl ⟨by omega, rfl, hA1.out rfl⟩)
          | some ad => exact .inr (.inr ⟨by omega, ad, rfl⟩)
      clear z0 tl2 p1
      rcases AA with ⟨g1, o1, rfl⟩ | ⟨rfl, rfl, rfl⟩ | ⟨rfl, ad, rfl⟩
      · have DA := Lib.hid (rs_any S.out.la k _ p2)
        clear p2
        by_cases b1 : c1 = k
        all_goals
          by_cases b2 : c = k + 1
          all_goals
            go_wp2_with fail
            have kw := Kept.refl Old V
            go_region_held3 (fun w' => Kept Old V w')
              (first
                | (exact ‹_›)
                | (exact Kept.drew ‹_›)
                | (exact Kept.trans ‹_› k1)
                | go_keep)
              (first
                | (go_at_call 17; refine (same_yes2 _ _ _ _ _ _ _ _ (by first | exact (TA.out.old ‹Kept Old V _›) | exact ((DA.out _ (by intro h; first | rfl | omega)).old ‹Kept Old V _›)) (by first | exact (TL.out.old ‹Kept Old V _›) | exact ((DL.out _ (by intro h; first | rfl | omega)).old ‹Kept Old V _›)) (by omega)).mono ?_; rintro e w' ⟨rfl, k1⟩)
                | (go_at_call 9; refine (awake_any _).mono ?_; rintro e w' ⟨rfl, k1⟩))
            have KK := Lib.hid ‹Kept Old V _›
            go_wp2
            go_ret
            exact ⟨rfl, S.out.kept.trans KK.out⟩
      · obtain rfl : k = 0 := by omega
        obtain rfl : n = 1 := by have := tl'.out; omega
        clear p2 TA TL DL hle hge hlc hla hln hle' hlc' hla' hln' t1 wn wi hk1
        have hc1' : (1 : Int) ≤ (c : Int) := by omega
        have w0 : IntKind.i64.wrap 0 = 0 := IntWalk.i64_in _ (by omega)
        have w1' : IntKind.i64.wrap 1 = 1 := IntWalk.i64_in _ (by omega)
        have w2' : IntKind.i64.wrap (0 + 1) = 1 := IntWalk.i64_in _ (by omega)
        have w3' : IntKind.i64.wrap (1 - 1) = 0 := IntWalk.i64_in _ (by omega)
        clear hi hi' hi0 hk d' n1b
        by_cases b2 : c = 1
        all_goals
          go_wp2_with fail
          have kw := Kept.refl Old V
          go_region_held3 (fun w' => Kept Old V w')
            (first
              | (exact ‹_›)
              | (exact Kept.drew ‹_›)
              | (exact Kept.trans ‹_› k1)
              | go_keep)
            (first
              | (go_at_call 17; refine (same_yes2 _ _ _ _ _ _ [] _ (Rs.nil _ _) (Rs.nil _ _) (by omega)).mono ?_; rintro e w' ⟨rfl, k1⟩)
              | (go_at_call 9; refine (awake_any _).mono ?_; rintro e w' ⟨rfl, k1⟩))
          have KK := Lib.hid ‹Kept Old V _›
          go_wp2
          go_ret
          exact ⟨rfl, S.out.kept.trans KK.out⟩
      · obtain rfl : k = 0 := by omega
        obtain rfl : n = 1 := by have := tl'.out; omega
        clear p2 TA TL DL hle hge hlc hla hln hle' hlc' hla' hln' t1 wn wi hk1
        have hc1' : (1 : Int) ≤ (c : Int) := by omega
        have w0 : IntKind.i64.wrap 0 = 0 := IntWalk.i64_in _ (by omega)
        have w1' : IntKind.i64.wrap 1 = 1 := IntWalk.i64_in _ (by omega)
        have w2' : IntKind.i64.wrap (0 + 1) = 1 := IntWalk.i64_in _ (by omega)
        have w3' : IntKind.i64.wrap (1 - 1) = 0 := IntWalk.i64_in _ (by omega)
        clear hi hi' hi0 hk d' n1b
        by_cases b1 : c1 = 0
        all_goals
          by_cases b2 : c = 1
          all_goals
            go_wp2_with fail
            have kw := Kept.refl Old V
            go_region_held3 (fun w' => Kept Old V w')
              (first
                | (exact ‹_›)
                | (exact Kept.drew ‹_›)
                | (exact Kept.trans ‹_› k1)
                | go_keep)
              (first
                | (go_at_call 17; refine (same_yes2 _ _ _ _ _ _ [] _ (Rs.nil _ _) (Rs.nil _ _) (by omega)).mono ?_; rintro e w' ⟨rfl, k1⟩)
                | (go_at_call 9; refine (awake_any _).mono ?_; rintro e w' ⟨rfl, k1⟩))
            have KK := Lib.hid ‹Kept Old V _›
            go_wp2
            go_ret
            exact ⟨rfl, S.out.kept.trans KK.out⟩
end Go.Proofs.Ytlicfegpdegamaa
