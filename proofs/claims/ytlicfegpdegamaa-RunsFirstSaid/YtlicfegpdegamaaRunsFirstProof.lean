/-
  For every input the law RunsFirst of rickyard/rickyardlaw5 returns true, and its arguments read afterwards as before. The law's own sentence: What is taken is the front of the first run that is long enough: no run below it is; the others stay as they are. No further conditions.
-/
import Derived.Test.YtlicfegpdegamaaRows
import Derived.Test.YtlicfegpdegamaaKept
import Derived.Test.YtlicfegpdegamaaShell
import Derived.Test.YtlicfegpdegamaaShellInts
import Derived.WalkKit
import Derived.ProofKit
import Derived.OpenShut
import Derived.ChangeOld
import Derived.Below
import Derived.Lib.SmallJoins
import Derived.Test.YtlicfegpdegamaaRunsMade
import Derived.Test.YtlicfegpdegamaaRunsAwake
import Derived.Test.YtlicfegpdegamaaRunsBoth
namespace Go.Proofs.Ytlicfegpdegamaa.runsFirst
open Go.ChangeShapes Go.WideShapes Go.ChangeAt Go.RowKit
set_option linter.unusedVariables false
set_option maxRecDepth 100000

theorem own : ownKnob Try.prog.godebug = none := by kernel_rfl
theorem laidOut : laidOutB Try.prog = true := by kernel_rfl
theorem take_len {l : List R} {m : Int} {i : Nat} {x : R} (f : Fits l m i x) : (takeL l m i x).length + (if x.2 - m = 0 then 1 else 0) = l.length := by
  have := f.lt
  unfold takeL rest
  by_cases c : x.2 - m = 0
  · simp [c]; omega
  · simp [c]; omega
theorem same_yes2 (A B : Option Addr) (n n' c d : Nat) (l : List R) (w : World) (ha : Rs w A n l) (hb : Rs w B n' l) (hn : n ≤ 1000) :
    Calls Try.prog 17 #[.slice A n c, .slice B n' d] w fun e w' => e = .returned (.bool true) ∧ Kept Old w w' := by
  obtain rfl : n = n' := by have := ha.len; have := hb.len; omega
  exact same_yes A B n c d l w ha hb hn
theorem take_parts {l : List R} {m : Int} {i : Nat} {x : R} (h : i ≤ l.length) (c : x.2 - m = 0) : (takeL l m i x).take i = l.take i ∧ (takeL l m i x).drop i = l.drop (i + 1) := by
  have lk : (l.take i).length = i := by simp; omega
  unfold takeL rest
  rw [if_pos c, List.nil_append]
  exact ⟨List.take_left' lk, List.drop_left' lk⟩
theorem take_parts2 {l : List R} {m : Int} {i : Nat} {x : R} (h : i ≤ l.length) (c : ¬ x.2 - m = 0) : (takeL l m i x).take i = l.take i ∧ (takeL l m i x)[i]? = some (x.1 + m, x.2 - m) ∧ (takeL l m i x).drop (i + 1) = l.drop (i + 1) := by
  have lk : (l.take i).length = i := by simp; omega
  have lk1 : (l.take i ++ [(x.1 + m, x.2 - m)]).length = i + 1 := by simp; omega
  unfold takeL rest
  rw [if_neg c]
  refine ⟨List.take_left' lk, ?_, ?_⟩
  · rw [List.getElem?_append_right (by omega), lk]; simp
  · rw [← List.append_assoc]
    exact List.drop_left' lk1
theorem rs_any {w : World} {g o n : Nat} {l : List R} (h : Rs w (some ⟨g, o, none⟩) n l) (i : Nat) (L : List R) (hL : l.drop i = L) : ∀ A : Option Addr, (i < n → A = some ⟨g, o + i * 2, none⟩) → Rs w A (n - i) L := by
  subst hL
  exact fun A hA => h.drop A hA
/-- Both lists, as a round finds them. -/
structure Fi (w W : World) (A A1 : Option Addr) (n n1 : Nat) (l La : List R) : Prop where
  a : Rs W A n l
  la : Rs W A1 n1 La
  kept : Kept Old w W
theorem Fi.old {w W W' : World} {A A1 : Option Addr} {n n1 : Nat} {l La : List R} (h : Fi w W A A1 n n1 l La) (q : Kept Old W W') : Fi w W' A A1 n n1 l La := ⟨h.a.old q, h.la.old q, h.kept.trans q⟩

set_option maxHeartbeats 8000000 in
/-- The walk: the Go text returns true, and nothing that was there has turned. -/
theorem walk (a0 : Option Addr) (len0 cap0 : Nat) (z0 : Nat → Int) (a1 : Int) (w : World) (w0 : len0 ≤ cap0 ∧ cap0 ≤ maxLen ∧ (∀ i, i < len0 → (Lit.int .u8 (z0 i)).wf = true) ∧ Sl w a0 1 len0 fun i _ => .int .u8 (z0 i)) (w1 : (Lit.int .u8 a1).wf = true) :
    Calls Try.prog 7 #[.slice a0 len0 cap0, .int .u8 a1] w fun e w' => e = .returned (.bool true) ∧ Kept Old w w' := by
  obtain ⟨v0, v1, v2, v3⟩ := w0
  have bn := bounds_u8 w1
  have hl : len0 ≤ 9223372036854775807 := by unfold maxLen at v1; omega
  have hz := Lib.hid (show ∀ i, i < len0 → 0 ≤ z0 i ∧ z0 i ≤ 255 from fun i hi => bounds_u8 (v2 i hi))
  have HS := Lib.hid v3
  clear v0 v1 v2 v3 w1
  go_enter Try.func7, Try.ntmps7
  go_wp2_with fail
  refine (made_any a0 len0 cap0 z0 w hl hz.out HS.out).mono ?_
  rintro e w1 ⟨v, rfl, ⟨A, n, c, rfl, R1, hc, hA, k1⟩, hr⟩
  generalize madeL z0 len0 = l at *
  have HR := Lib.hid R1
  have HT := Lib.hid hr
  have K := Lib.hid k1
  have hn := right_n R1 hr
  clear R1 hr hA k1 hz HS
  have m1 : 1 ≤ 1 + a1 % 24 := by omega
  have m2 : 1 + a1 % 24 ≤ 24 := by omega
  cases hf : fitB l (1 + a1 % 24) with
  | false =>
    have HF := Lib.hid hf
    clear hf
    go_wp2_with fail
    refine (fit_no A n c l (1 + a1 % 24) _ HR.out m1 HF.out (by omega)).mono ?_
    rintro e w2 ⟨rfl, q⟩
    have K := Lib.hid (K.out.trans q)
    have HR := Lib.hid (HR.out.old q)
    clear q
    go_wp2_with fail
    refine (take_full A n c l (1 + a1 % 24) _ HR.out m1 HF.out (by omega)).mono ?_
    rintro e w3 ⟨rfl, q⟩
    have K := Lib.hid (K.out.trans q)
    clear q
    go_wp2_with fail
    refine (awake_any _).mono ?_
    rintro e w4 ⟨rfl, q⟩
    go_wp2_with fail
    go_ret
    exact ⟨rfl, K.out.trans q⟩
  | true =>
    obtain ⟨i, x, f⟩ := fits_of hf
    clear hf
    have bx := HT.out.at f.at_
    have big := f.big
    have hi : i < n := by have := f.lt; have := HR.out.len; omega
    have tl := Lib.hid (take_len f)
    have rt := Lib.hid (right_take HT.out f m1)
    have HF := Lib.hid f
    generalize hm : 1 + a1 % 24 = m at *
    clear f
    go_wp2_with fail
    refine (fit_ok A n c l m i x _ HR.out m1 HF.out (by omega)).mono ?_
    rintro e w2 ⟨rfl, q⟩
    have K := Lib.hid (K.out.trans q)
    have HR := Lib.hid (HR.out.old q)
    clear q
    go_wp2_with fail
    refine (take_ok A n c l m i x _ HR.out HT.out hc m1 HF.out (by omega)).mono ?_
    rintro e w3 ⟨v2, rfl, A1, n1, c1, rfl, S1, hc1, hA1, q⟩
    have S := Lib.hid (show Fi w w3 A A1 n n1 l (takeL l m i x) from ⟨HR.out.old q, S1, K.out.trans q⟩)
    have n1b := right_n S1 rt.out
    have hA1 := Lib.hid hA1
    have tl2 := Lib.hid (show n1 + (if x.2 - m = 0 then 1 else 0) = n from by have := tl.out; have := S1.len; have := HR.out.len; omega)
    clear q S1 HR K tl
    obtain ⟨g, o, y, rfl, _, hx, f1, f2, c0, c1'⟩ := S.out.a.get hi
    obtain rfl : y = x := by have := HF.out.at_; rw [hx] at this; exact Option.some.inj this
    have hx := Lib.hid hx
    have hi' : (i : Int) < (n : Int) := by omega
    have hi0 : 0 ≤ (i : Int) := by omega
    clear f1 f2
    go_wp2_with fail
    go_loopw [12] (fun j wr => ∃ k : Nat, k ≤ i ∧ j = .int .i64 (k : Int) ∧ Hid (Fi w wr (some ⟨g, o, none⟩) A1 n n1 l (takeL l m i y))) (fun j _ => i - (intOf j).toNat)
    case atStart => exact ⟨0, by omega, rfl, S⟩
    case round =>
      clear S c0 c1'
      obtain ⟨k, hk, rfl, S⟩ := hrel
      rename World => V
      by_cases d : k < i
      · have d' : (k : Int) < (i : Int) := by omega
        obtain ⟨g', o', u, e', _, hu, _, _, u0, u1⟩ := S.out.a.get (k := k) (by omega)
        injection e' with e'
        injection e' with e1 e2
        subst e1
        subst e2
        have lt : u.2 < m := HF.out.below u (List.mem_of_getElem? (i := k) (by rw [List.getElem?_take, if_pos d]; exact hu))
        clear hu
        go_wp2
        refine ⟨⟨k + 1, by omega, by go_num, S⟩, ?_⟩
        simp [intOf]; omega
      · obtain rfl : k = i := by omega
        have d' : ¬ (k : Int) < (k : Int) := by omega
        clear d
        obtain ⟨g', o', u, e', _, hu, _, _, u0, u1⟩ := S.out.a.get hi
        injection e' with e'
        injection e' with e1 e2
        subst e1
        subst e2
        obtain rfl : u = y := by have := hx.out; rw [hu] at this; exact Option.some.inj this
        clear hu
        by_cases z : u.2 = m
        · have z' : (u.2 == m) = true := by simp [z]
          have z0 : u.2 - m = 0 := by omega
          have tl' : n1 + 1 = n := by have := tl2.out; rw [if_pos z0] at this; exact this
          have ll : k ≤ l.length := by have := S.out.a.len; omega
          obtain ⟨p1, p2⟩ := take_parts (l := l) ll z0
          have TL := Lib.hid (S.out.a.take (i := k) (by omega))
          have DL := Lib.hid (rs_any S.out.a (k + 1) _ rfl)
          have TA := Lib.hid (S.out.la.take (i := k) (by omega))
          rw [p1] at TA
          have t1 : ((n1 : Int) == (n : Int) - 1) = true := by simp; omega
          have wn : IntKind.i64.wrap ((n : Int) - 1) = (n : Int) - 1 := IntWalk.i64_in _ (by omega)
          have wi : IntKind.i64.wrap ((k : Int) + 1) = (k : Int) + 1 := IntWalk.i64_in _ (by omega)
          have hk1 : (k : Int) ≤ (k : Int) + 1 := by omega
          have hle : (k : Int) + 1 ≤ (n : Int) := by omega
          have hge : 0 ≤ (k : Int) + 1 := by omega
          have hlc : (k : Int) ≤ (c : Int) := by omega
          have hla : (k : Int) ≤ (c1 : Int) := by omega
          have hln : (k : Int) ≤ (n1 : Int) := by omega
          have hle' : k + 1 ≤ n := by omega
          have hlc' : k ≤ c := by omega
          have hla' : k ≤ c1 := by omega
          have hln' : k ≤ n1 := by omega
          have tl' := Lib.hid tl'
          have AA : (∃ g1 o1, A1 = some ⟨g1, o1, none⟩) ∨ (n1 = 0 ∧ A1 = none ∧ c1 = 0) ∨ (n1 = 0 ∧ ∃ ad, A1 = some ad) := by
            by_cases q : 0 < n1
            · obtain ⟨g1, o1, e, _⟩ := S.out.la.lies q; exact .inl ⟨g1, o1, e⟩
            · cases A1 with
              | none => exact .inr (.inl ⟨by omega, rfl, hA1.out rfl⟩)
              | some ad => exact .inr (.inr ⟨by omega, ad, rfl⟩)
          clear z0 tl2 p1
          rcases AA with ⟨g1, o1, rfl⟩ | ⟨rfl, rfl, rfl⟩ | ⟨rfl, ad, rfl⟩
          · have DA := Lib.hid (rs_any S.out.la k _ p2)
            clear p2
            by_cases b1 : c1 = k
            all_goals
              by_cases b2 : c = k + 1
              all_goals
                go_wp2_with fail
                have kw := Kept.refl Old V
                go_region_held3 (fun w' => Kept Old V w')
                  (first
                    | (exact ‹_›)
                    | (exact Kept.drew ‹_›)
                    | (exact Kept.trans ‹_› k1)
                    | go_keep)
                  (first
                    | (go_at_call 17; refine (same_yes2 _ _ _ _ _ _ _ _ (by first | exact (TA.out.old ‹Kept Old V _›) | exact ((DA.out _ (by intro h; first | rfl | omega)).old ‹Kept Old V _›)) (by first | exact (TL.out.old ‹Kept Old V _›) | exact ((DL.out _ (by intro h; first | rfl | omega)).old ‹Kept Old V _›)) (by omega)).mono ?_; rintro e w' ⟨rfl, k1⟩)
                    | (go_at_call 9; refine (awake_any _).mono ?_; rintro e w' ⟨rfl, k1⟩))
                have KK := Lib.hid ‹Kept Old V _›
                go_wp2
                go_ret
                exact ⟨rfl, S.out.kept.trans KK.out⟩
          · obtain rfl : k = 0 := by omega
            obtain rfl : n = 1 := by have := tl'.out; omega
            clear p2 TA TL DL hle hge hlc hla hln hle' hlc' hla' hln' t1 wn wi hk1
            have hc1' : (1 : Int) ≤ (c : Int) := by omega
            have w0 : IntKind.i64.wrap 0 = 0 := IntWalk.i64_in _ (by omega)
            have w1' : IntKind.i64.wrap 1 = 1 := IntWalk.i64_in _ (by omega)
            have w2' : IntKind.i64.wrap (0 + 1) = 1 := IntWalk.i64_in _ (by omega)
            have w3' : IntKind.i64.wrap (1 - 1) = 0 := IntWalk.i64_in _ (by omega)
            clear hi hi' hi0 hk d' n1b
            by_cases b2 : c = 1
            all_goals
              go_wp2_with fail
              have kw := Kept.refl Old V
              go_region_held3 (fun w' => Kept Old V w')
                (first
                  | (exact ‹_›)
                  | (exact Kept.drew ‹_›)
                  | (exact Kept.trans ‹_› k1)
                  | go_keep)
                (first
                  | (go_at_call 17; refine (same_yes2 _ _ _ _ _ _ [] _ (Rs.nil _ _) (Rs.nil _ _) (by omega)).mono ?_; rintro e w' ⟨rfl, k1⟩)
                  | (go_at_call 9; refine (awake_any _).mono ?_; rintro e w' ⟨rfl, k1⟩))
              have KK := Lib.hid ‹Kept Old V _›
              go_wp2
              go_ret
              exact ⟨rfl, S.out.kept.trans KK.out⟩
          · obtain rfl : k = 0 := by omega
            obtain rfl : n = 1 := by have := tl'.out; omega
            clear p2 TA TL DL hle hge hlc hla hln hle' hlc' hla' hln' t1 wn wi hk1
            have hc1' : (1 : Int) ≤ (c : Int) := by omega
            have w0 : IntKind.i64.wrap 0 = 0 := IntWalk.i64_in _ (by omega)
            have w1' : IntKind.i64.wrap 1 = 1 := IntWalk.i64_in _ (by omega)
            have w2' : IntKind.i64.wrap (0 + 1) = 1 := IntWalk.i64_in _ (by omega)
            have w3' : IntKind.i64.wrap (1 - 1) = 0 := IntWalk.i64_in _ (by omega)
            clear hi hi' hi0 hk d' n1b
            by_cases b1 : c1 = 0
            all_goals
              by_cases b2 : c = 1
              all_goals
                go_wp2_with fail
                have kw := Kept.refl Old V
                go_region_held3 (fun w' => Kept Old V w')
                  (first
                    | (exact ‹_›)
                    | (exact Kept.drew ‹_›)
                    | (exact Kept.trans ‹_› k1)
                    | go_keep)
                  (first
                    | (go_at_call 17; refine (same_yes2 _ _ _ _ _ _ [] _ (Rs.nil _ _) (Rs.nil _ _) (by omega)).mono ?_; rintro e w' ⟨rfl, k1⟩)
                    | (go_at_call 9; refine (awake_any _).mono ?_; rintro e w' ⟨rfl, k1⟩))
                have KK := Lib.hid ‹Kept Old V _›
                go_wp2
                go_ret
                exact ⟨rfl, S.out.kept.trans KK.out⟩
        · have z' : (u.2 == m) = false := by simp [z]
          have z0 : ¬ u.2 - m = 0 := by omega
          have tl' : n1 = n := by have := tl2.out; rw [if_neg z0] at this; omega
          subst tl'
          have ll : k ≤ l.length := by have := S.out.a.len; omega
          obtain ⟨p1, p2, p3⟩ := take_parts2 (l := l) ll z0
          obtain ⟨g1, o1, r1, rfl, _, hr1, _, _, r0', r1'⟩ := S.out.la.get (k := k) hi
          obtain rfl : r1 = (u.1 + m, u.2 - m) := by rw [p2] at hr1; exact (Option.some.inj hr1).symm
          have r0 : V.cell? ⟨g1, o1 + k * 2, none⟩ = some (.int .i64 (u.1 + m)) := r0'
          have r1 : V.cell? ⟨g1, o1 + k * 2 + 1, none⟩ = some (.int .i64 (u.2 - m)) := r1'
          have TL := Lib.hid (S.out.a.take (i := k) (by omega))
          have DL := Lib.hid (rs_any S.out.a (k + 1) _ rfl)
          have TA := Lib.hid (S.out.la.take (i := k) (by omega))
          rw [p1] at TA
          have DA := Lib.hid (rs_any S.out.la (k + 1) _ p3)
          have wa : IntKind.i64.wrap (u.1 + m) = u.1 + m := IntWalk.i64_in _ (by omega)
          have wb : IntKind.i64.wrap (u.2 - m) = u.2 - m := IntWalk.i64_in _ (by omega)
          have wi : IntKind.i64.wrap ((k : Int) + 1) = (k : Int) + 1 := IntWalk.i64_in _ (by omega)
          have hk1 : (k : Int) ≤ (k : Int) + 1 := by omega
          have hle : (k : Int) + 1 ≤ (n1 : Int) := by omega
          have hge : 0 ≤ (k : Int) + 1 := by omega
          have hlc : (k : Int) ≤ (c : Int) := by omega
          have hla : (k : Int) ≤ (c1 : Int) := by omega
          have hln : (k : Int) < (n1 : Int) := by omega
          have hle' : k + 1 ≤ n1 := by omega
          have hlc' : k ≤ c := by omega
          have hla' : k ≤ c1 := by omega
          clear z z0 tl2 p1 p2 p3 hr1 r0' r1'
          by_cases b1 : c1 = k + 1
          all_goals
            by_cases b2 : c = k + 1
            all_goals
              go_wp2_with fail
              have kw := Kept.refl Old V
              go_region_held3 (fun w' => Kept Old V w' ∧ w'.cell? ⟨g1, o1 + k * 2, none⟩ = some (.int .i64 (u.1 + m)) ∧ w'.cell? ⟨g1, o1 + k * 2 + 1, none⟩ = some (.int .i64 (u.2 - m)) ∧ w'.cell? ⟨g, o + k * 2 + 1, none⟩ = some (.int .i64 u.2))
                (first
                  | (exact ⟨‹_›, ‹_›, ‹_›, ‹_›⟩)
                  | (exact ⟨Kept.drew ‹_›, ‹_›, ‹_›, ‹_›⟩)
                  | (go_split_ands; exact ⟨Kept.trans ‹_› k1, cell_on k1 ‹_›, cell_on k1 ‹_›, cell_on k1 ‹_›⟩)
                  | go_keep)
                (first
                  | (go_at_call 17; refine (same_yes2 _ _ _ _ _ _ _ _ (by first | exact (TA.out.old (‹Kept Old V _ ∧ _›).1) | exact ((DA.out _ (by intro h; first | rfl | omega)).old (‹Kept Old V _ ∧ _›).1)) (by first | exact (TL.out.old (‹Kept Old V _ ∧ _›).1) | exact ((DL.out _ (by intro h; first | rfl | omega)).old (‹Kept Old V _ ∧ _›).1)) (by omega)).mono ?_; rintro e w' ⟨rfl, k1⟩)
                  | (go_at_call 9; refine (awake_any _).mono ?_; rintro e w' ⟨rfl, k1⟩))
              have KK := Lib.hid (‹Kept Old V _ ∧ _›).1
              go_wp2
              go_ret
              exact ⟨rfl, S.out.kept.trans KK.out⟩

/-- The row's step. -/
theorem lifted (os : Os) (started : os.Started) (H : Type) (enc : TypeId × Value → H) :
    ReturnsInHanded {} Try.checked os 7 .any (Rows.runsFirstSpec.pre6 enc Try.prog Try.f7 Rows.runsFirstRow.domain false) (Rows.runsFirstSpec.post enc Try.prog Try.f7 false true false false) := by
  refine returnsInHanded_of_change (C := Try.checked) own started (by kernel_rfl) Try.func7
    (ChangeSpec.witness6 (enc := enc) (C := Try.checked) false ⟨#[], #[.slice none 0 0, .int .u8 0], []⟩ 8 (by kernel_rfl) (by kernel_rfl) (by kernel_rfl) (by kernel_rfl)) ?_
  intro W base args ds gs before hval0 hW hcnd _
  have hval : ∀ (j : Nat) t v, Try.f7.params[j]? = some t → args[j]? = some v → Value.okWide Try.prog W .any base t v := hval0
  have hW' := hW
  obtain ⟨p, q, hA0, hV, rfl, hfz, hnd⟩ := hW
  have hA : DataW.TrodAll enc Try.prog W 0 (fun _ => true) true Try.f7.params.toList args.toList ds p := hA0
  rw [Try.params7] at hA hval
  obtain ⟨v0, vs0, d0, ds0, p0, q0, hargs, rfl, rfl, h0, r0⟩ := trodAll_cons hA
  obtain ⟨v1, vs1, d1, ds1, p1, q1, rfl, rfl, rfl, h1, r1⟩ := trodAll_cons r0
  obtain ⟨rfl, rfl, rfl⟩ := trodAll_nil r1
  obtain rfl : args = #[v0, v1] := by cases args; simp_all
  obtain ⟨rfl, rfl⟩ := trodVars_none hV
  have k0 := h0
  have lt0 : ∀ x ∈ p0, x.block < W.heap.size := by obtain ⟨m, hm⟩ := k0; exact DataW.trod_lt m _ _ _ hm
  obtain ⟨a0, len0, cap0, rfl⟩ := okWide_slice Try.underlying29 (hval 0 29 v0 rfl rfl)
  obtain ⟨z0, w0⟩ := ints_in Try.underlying29 Try.underlying5 (by kernel_rfl) h0
  obtain ⟨a1, rfl, rfl, rfl, w1⟩ := open_int Try.underlying5 (hval 1 5 v1 rfl rfl) h1
  clear hA0 hval0
  refine (walk a0 len0 cap0 z0 a1 W w0 w1).mono fun e W' ⟨he, kept⟩ => ?_
  subst he
  have bel : Below W.heap.size W W' := kept.toBelow (Nat.le_refl _) (fun _ x => x.elim)
  exact ⟨_, rfl, _, _, _, [], _, [], hW', trodAll_mk1 (shut_bool Try.underlying4 _), (trodAll_cons_mk (Below.trod laidOut (by kernel_rfl) (of_decide_eq_true (by kernel_rfl)) k0 bel lt0) (trodAll_cons_mk (shut_int Try.underlying5 w1) trodAll_mk0)), rfl, bel.frame _, fun h => by cases h⟩

theorem over : Rows.RunsFirstSaid :=
  OpenClaim.holds_of_wide 7 Try.f7 rfl rfl rfl rfl rfl rfl rfl ⟨rfl, rfl, rfl, rfl, rfl⟩ rfl rfl rfl rfl rfl (by kernel_rfl) Try.func7 (by kernel_rfl)
    (of_decide_eq_true (by kernel_rfl)) (by unfold Func.isWrapper; first | (rw [if_pos (by decide +kernel)]; kernel_rfl) | (rw [if_neg (by decide +kernel)]; exact ⟨rfl, rfl⟩))
    (fun os started H enc _ => lifted os started H enc)

/-- The statement. -/
theorem proved : Rows.RunsFirstSaid := over
#print axioms proved
end Go.Proofs.Ytlicfegpdegamaa.runsFirst
