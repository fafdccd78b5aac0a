/-
  For every input the law PoolRuns of rickyard/rickyardlaw10 returns true, and its arguments read afterwards as before. The law's own sentence: Whatever is added, taken, put: each answer, the spans, the free stacks in their order, how many, are the document's. No further conditions.
-/
import Derived.Test.YtcaongcpfepcjaaRows
import Derived.Test.YtcaongcpfepcjaaKept
import Derived.Test.YtcaongcpfepcjaaShell
import Derived.Test.YtcaongcpfepcjaaShellInts
import Derived.WalkKit
import Derived.ProofKit
import Derived.OpenShut
import Derived.ChangeOld
import Derived.Below
import Derived.Lib.SmallJoins
import Derived.Test.YtcaongcpfepcjaaRefBo
namespace Go.Proofs.Ytcaongcpfepcjaa.poolRuns
open Go.ChangeShapes Go.WideShapes Go.ChangeAt Go.RowKit
set_option linter.unusedVariables false
set_option maxRecDepth 100000

theorem own : ownKnob Try.prog.godebug = none := by kernel_rfl
theorem laidOut : laidOutB Try.prog = true := by kernel_rfl
open Prt

set_option maxHeartbeats 3000000 in
/-- The walk: the Go text returns true, and nothing that was there has turned. -/
theorem walk (a0 : Int) (a1 : Option Addr) (len1 cap1 : Nat) (z1 : Nat → Int) (w : World) (w0 : (Lit.int .u8 a0).wf = true) (w1 : len1 ≤ cap1 ∧ cap1 ≤ maxLen ∧ (∀ i, i < len1 → (Lit.int .u8 (z1 i)).wf = true) ∧ Sl w a1 1 len1 fun i _ => .int .u8 (z1 i)) :
    Calls Try.prog 3 #[.int .u8 a0, .slice a1 len1 cap1] w fun e w' => e = .returned (.bool true) ∧ Kept Old w w' := by
  obtain ⟨v0, v1, v2, v3⟩ := w1
  have hl : len1 ≤ 9223372036854775807 := by unfold maxLen at v1; omega
  have hz := Lib.hid (show ∀ i, i < len1 → 0 ≤ z1 i ∧ z1 i ≤ 255 from fun i hi => bounds_u8 (v2 i hi))
  have HS := Lib.hid v3
  have b2 := bounds_u8 w0
  obtain ⟨u, rfl⟩ : ∃ u : Nat, a0 = (u : Int) := ⟨a0.toNat, by omega⟩
  obtain ⟨c, hcu⟩ : ∃ c : Nat, u % 4 = c := ⟨_, rfl⟩
  have hc : c < 4 := by omega
  have rm : (u : Int) % 4 = (c : Int) := by omega
  have hN := Lib.hid (new_yes 40 w (by omega) (by omega))
  clear v0 v1 v2 v3 w0 hcu
  go_enter Try.func3, Try.ntmps3
  go_wp2_with fail
  refine hN.out.mono ?_
  rintro e w1 ⟨a, g, rfl, a1, k1, ha, hg⟩
  have A1 := Lib.hid a1
  have K1 := Lib.hid k1
  clear a1 k1 hN
  go_wp2_with fail
  refine (pnew_yes w.heap.size c w1 hc K1.out.size).mono ?_
  rintro e w2 ⟨p, rfl, T2, k2, hp⟩
  have S := Lib.hid (Bo.start (StP.new (F := fun _ => False) A1.out K1.out ha hg T2 k2 hc (by omega) (fun b h => h.elim)))
  clear A1 K1 T2 k2
  go_wp2_with fail
  generalize hq : w2.heap.size = q at *
  clear hq
  go_loopw [9, 10] (fun s9 s10 wr => ∃ (i : Nat) (L : List Q) (A : Option Addr) (cp : Nat) (tl : List Int), i ≤ 401 ∧ tl.length ≤ i ∧ s10 = .int .i64 (i : Int) ∧ s9 = .slice A tl.length cp ∧ Hid (Bo w wr p a g q 40 c L L (.slice A tl.length cp) tl)) (fun _ s10 _ => 402 - (intOf s10).toNat)
  case atStart => exact ⟨0, [], none, 0, [], by omega, by simp, rfl, rfl, S⟩
  case round =>
    obtain ⟨k, L, A, cp, tl, hk, htl, rfl, rfl, T⟩ := hrel
    rename World => V
    clear S
    have wk : IntKind.i64.wrap ((k : Int) + 1) = (k : Int) + 1 := IntWalk.i64_in _ (by omega)
    by_cases ck : k + 1 < len1 ∧ k < 400
    · obtain ⟨c1, c2⟩ := ck
      obtain ⟨gn, on, rfl, hgn, hcn⟩ := (HS.out.old T.out.kept).lies (by omega)
      have d0 := hcn k 0 (by omega) (by omega)
      have d1 := hcn (k + 1) 0 (by omega) (by omega)
      simp only [Nat.mul_one, Nat.add_zero] at d0 d1
      have y0 := hz.out k (by omega)
      have y1 := hz.out (k + 1) (by omega)
      obtain ⟨x, hx⟩ : ∃ x : Nat, z1 k = (x : Int) := ⟨(z1 k).toNat, by omega⟩
      obtain ⟨y, hy⟩ : ∃ y : Nat, z1 (k + 1) = (y : Int) := ⟨(z1 (k + 1)).toNat, by omega⟩
      rw [hx] at d0 y0
      rw [hy] at d1 y1
      have wy : IntKind.i64.wrap (y : Int) = (y : Int) := IntWalk.i64_in _ (by omega)
      have wx : IntKind.u8.wrap ((x : Int) % 6) = (x : Int) % 6 := IntWalk.u8_in _ (by omega)
      have wx2 : IntKind.u8.wrap ((x : Int) % 12) = (x : Int) % 12 := IntWalk.u8_in _ (by omega)
      have j1 : (k : Int) + 1 < (len1 : Int) := by omega
      have j2 : (0 : Int) ≤ (k : Int) + 1 := by omega
      have j3 : ((k : Int) + 1).toNat = k + 1 := by omega
      have j4 : (k : Int) < (len1 : Int) := by omega
      clear hcn hx hy
      have hz' := Lib.hid hz
      by_cases e0 : x % 6 = 0
      · have f0 : ((x : Int) % 6 == 0) = true := by simp only [beq_iff_eq]; omega
        have w36 : IntKind.i64.wrap ((y : Int) % 36 - 1) = (y : Int) % 36 - 1 := IntWalk.i64_in _ (by omega)
        clear e0
        go_wp2_with fail
        refine (bo_padd _ T.out).mono ?_
        rintro e V1 ⟨rfl, s1⟩
        have T1 := Lib.hid s1
        clear s1
        go_wp2_with fail
        refine (bo_radd _ T1.out).mono ?_
        rintro e V2 ⟨rfl, s2⟩
        have T2 := Lib.hid s2
        clear s2 T1
        go_wp2_with fail
        refine (bo_same T2.out).mono ?_
        rintro e V3 ⟨rfl, s3⟩
        have T3 := Lib.hid s3
        clear s3 T2
        go_wp2_with fail
        refine ⟨⟨k + 2, _, A, cp, tl, by omega, by omega, by go_num, by first | rfl | trivial, T3⟩, ?_⟩
        simp [intOf]; omega
      · by_cases e3 : x % 6 < 4
        · rcases (show x % 6 = 1 ∨ x % 6 = 2 ∨ x % 6 = 3 by omega) with h | h | h
          · have f0 : ((x : Int) % 6 == 0) = false := by simp only [beq_eq_false_iff_ne, ne_eq]; omega
            have f1 : ((x : Int) % 6 == 1) = true := by simp only [beq_iff_eq]; omega
            clear e0 e3 h
            rcases take_ways L with ⟨_, q2, q3, _⟩ | ⟨j, pg, b, r, _, q2', q2, q3, _, _⟩
            · have Q2 := Lib.hid q2
              have Q3 := Lib.hid q3
              clear q2 q3
              go_wp2_with fail
              refine (bo_ptake T.out).mono ?_
              rintro e V1 ⟨rfl, s1⟩
              have T1 := Lib.hid s1
              rw [Q2.out, Q3.out]
              clear s1
              go_wp2_with fail
              refine (bo_rtake T1.out).mono ?_
              rintro e V2 ⟨rfl, s2⟩
              have T2 := Lib.hid s2
              rw [Q2.out, Q3.out]
              clear s2 T1
              go_wp2_with fail
              refine (bo_same T2.out).mono ?_
              rintro e V3 ⟨rfl, s3⟩
              have T3 := Lib.hid s3
              clear s3 T2
              go_wp2_with fail
              refine ⟨⟨k + 2, _, A, cp, tl, by omega, by omega, by go_num, rfl, T3⟩, ?_⟩
              simp [intOf]; omega
            · have Q2 := Lib.hid q2
              have Q3 := Lib.hid q3
              have blt := T.out.good.lt (List.mem_of_getElem? q2') (List.mem_cons_self (a := b))
              have bI : (b : Int) < 2560 := by omega
              clear q2 q3 q2'
              go_wp2_with fail
              refine (bo_ptake T.out).mono ?_
              rintro e V1 ⟨rfl, s1⟩
              have T1 := Lib.hid s1
              rw [Q2.out, Q3.out]
              clear s1
              go_wp2_with fail
              refine (bo_rtake T1.out).mono ?_
              rintro e V2 ⟨rfl, s2⟩
              have T2 := Lib.hid s2
              rw [Q2.out, Q3.out]
              clear s2 T1
              have OO := Lib.hid (T2.out.tk.alloc (.cells #[.int .i64 (b : Int)] 3))
              have R1 := Lib.hid (RsI.one V2 (b : Int) ⟨by omega, by omega⟩ V2.heap.size rfl)
              have T5 := Lib.hid (T2.out.old ((Kept.refl Old V2).alloc (.cells #[.int .i64 (b : Int)] 3)))
              clear T2
              go_wp2_with (at_builtin; refine app_wpI rfl (.tmp 147) (.tmp 149) rfl rfl w.heap.size (.slice A tl.length cp) tl.length tl rfl OO.out (some ⟨V2.heap.size, 0, none⟩) 1 1 [(b : Int)] rfl R1.out (by intro h; cases h) (by omega) (by omega) T5.out.kept.size (tl.length + 1) rfl (tl ++ [(b : Int)]) rfl ?_; intro v6 w6 O6 k6 a6; obtain ⟨A6, c6, rfl, _⟩ := O6.out.rs; have T6 := Lib.hid (T5.out.app (l' := tl ++ [(b : Int)]) (by rw [List.length_append]; exact O6.out) k6.out a6.out))
              have tle := Lib.hid (show (tl ++ [(b : Int)]).length = tl.length + 1 by simp)
              refine (bo_same T6.out).mono ?_
              rintro e V3 ⟨rfl, s3⟩
              have T3 := Lib.hid s3
              clear s3 T6 O6 k6 a6 T5 OO R1
              go_wp2_with fail
              refine ⟨⟨k + 2, _, A6, c6, tl ++ [(b : Int)], by omega, by rw [tle.out]; omega, by go_num, by rw [tle.out], by rw [tle.out]; exact T3⟩, ?_⟩
              simp [intOf]; omega
          · have f0 : ((x : Int) % 6 == 0) = false := by simp only [beq_eq_false_iff_ne, ne_eq]; omega
            have f1 : ((x : Int) % 6 == 1) = false := by simp only [beq_eq_false_iff_ne, ne_eq]; omega
            have f2 : ((x : Int) % 6 == 2) = true := by simp only [beq_iff_eq]; omega
            clear e0 e3 h
            rcases take_ways L with ⟨_, q2, q3, _⟩ | ⟨j, pg, b, r, _, q2', q2, q3, _, _⟩
            · have Q2 := Lib.hid q2
              have Q3 := Lib.hid q3
              clear q2 q3
              go_wp2_with fail
              refine (bo_ptake T.out).mono ?_
              rintro e V1 ⟨rfl, s1⟩
              have T1 := Lib.hid s1
              rw [Q2.out, Q3.out]
              clear s1
              go_wp2_with fail
              refine (bo_rtake T1.out).mono ?_
              rintro e V2 ⟨rfl, s2⟩
              have T2 := Lib.hid s2
              rw [Q2.out, Q3.out]
              clear s2 T1
              go_wp2_with fail
              refine (bo_same T2.out).mono ?_
              rintro e V3 ⟨rfl, s3⟩
              have T3 := Lib.hid s3
              clear s3 T2
              go_wp2_with fail
              refine ⟨⟨k + 2, _, A, cp, tl, by omega, by omega, by go_num, rfl, T3⟩, ?_⟩
              simp [intOf]; omega
            · have Q2 := Lib.hid q2
              have Q3 := Lib.hid q3
              have blt := T.out.good.lt (List.mem_of_getElem? q2') (List.mem_cons_self (a := b))
              have bI : (b : Int) < 2560 := by omega
              clear q2 q3 q2'
              go_wp2_with fail
              refine (bo_ptake T.out).mono ?_
              rintro e V1 ⟨rfl, s1⟩
              have T1 := Lib.hid s1
              rw [Q2.out, Q3.out]
              clear s1
              go_wp2_with fail
              refine (bo_rtake T1.out).mono ?_
              rintro e V2 ⟨rfl, s2⟩
              have T2 := Lib.hid s2
              rw [Q2.out, Q3.out]
              clear s2 T1
              have OO := Lib.hid (T2.out.tk.alloc (.cells #[.int .i64 (b : Int)] 3))
              have R1 := Lib.hid (RsI.one V2 (b : Int) ⟨by omega, by omega⟩ V2.heap.size rfl)
              have T5 := Lib.hid (T2.out.old ((Kept.refl Old V2).alloc (.cells #[.int .i64 (b : Int)] 3)))
              clear T2
              go_wp2_with (at_builtin; refine app_wpI rfl (.tmp 147) (.tmp 149) rfl rfl w.heap.size (.slice A tl.length cp) tl.length tl rfl OO.out (some ⟨V2.heap.size, 0, none⟩) 1 1 [(b : Int)] rfl R1.out (by intro h; cases h) (by omega) (by omega) T5.out.kept.size (tl.length + 1) rfl (tl ++ [(b : Int)]) rfl ?_; intro v6 w6 O6 k6 a6; obtain ⟨A6, c6, rfl, _⟩ := O6.out.rs; have T6 := Lib.hid (T5.out.app (l' := tl ++ [(b : Int)]) (by rw [List.length_append]; exact O6.out) k6.out a6.out))
              have tle := Lib.hid (show (tl ++ [(b : Int)]).length = tl.length + 1 by simp)
              refine (bo_same T6.out).mono ?_
              rintro e V3 ⟨rfl, s3⟩
              have T3 := Lib.hid s3
              clear s3 T6 O6 k6 a6 T5 OO R1
              go_wp2_with fail
              refine ⟨⟨k + 2, _, A6, c6, tl ++ [(b : Int)], by omega, by rw [tle.out]; omega, by go_num, by rw [tle.out], by rw [tle.out]; exact T3⟩, ?_⟩
              simp [intOf]; omega
          · have f0 : ((x : Int) % 6 == 0) = false := by simp only [beq_eq_false_iff_ne, ne_eq]; omega
            have f1 : ((x : Int) % 6 == 1) = false := by simp only [beq_eq_false_iff_ne, ne_eq]; omega
            have f2 : ((x : Int) % 6 == 2) = false := by simp only [beq_eq_false_iff_ne, ne_eq]; omega
            have f3 : ((x : Int) % 6 == 3) = true := by simp only [beq_iff_eq]; omega
            clear e0 e3 h
            rcases take_ways L with ⟨_, q2, q3, _⟩ | ⟨j, pg, b, r, _, q2', q2, q3, _, _⟩
            · have Q2 := Lib.hid q2
              have Q3 := Lib.hid q3
              clear q2 q3
              go_wp2_with fail
              refine (bo_ptake T.out).mono ?_
              rintro e V1 ⟨rfl, s1⟩
              have T1 := Lib.hid s1
              rw [Q2.out, Q3.out]
              clear s1
              go_wp2_with fail
              refine (bo_rtake T1.out).mono ?_
              rintro e V2 ⟨rfl, s2⟩
              have T2 := Lib.hid s2
              rw [Q2.out, Q3.out]
              clear s2 T1
              go_wp2_with fail
              refine (bo_same T2.out).mono ?_
              rintro e V3 ⟨rfl, s3⟩
              have T3 := Lib.hid s3
              clear s3 T2
              go_wp2_with fail
              refine ⟨⟨k + 2, _, A, cp, tl, by omega, by omega, by go_num, rfl, T3⟩, ?_⟩
              simp [intOf]; omega
            · have Q2 := Lib.hid q2
              have Q3 := Lib.hid q3
              have blt := T.out.good.lt (List.mem_of_getElem? q2') (List.mem_cons_self (a := b))
              have bI : (b : Int) < 2560 := by omega
              clear q2 q3 q2'
              go_wp2_with fail
              refine (bo_ptake T.out).mono ?_
              rintro e V1 ⟨rfl, s1⟩
              have T1 := Lib.hid s1
              rw [Q2.out, Q3.out]
              clear s1
              go_wp2_with fail
              refine (bo_rtake T1.out).mono ?_
              rintro e V2 ⟨rfl, s2⟩
              have T2 := Lib.hid s2
              rw [Q2.out, Q3.out]
              clear s2 T1
              have OO := Lib.hid (T2.out.tk.alloc (.cells #[.int .i64 (b : Int)] 3))
              have R1 := Lib.hid (RsI.one V2 (b : Int) ⟨by omega, by omega⟩ V2.heap.size rfl)
              have T5 := Lib.hid (T2.out.old ((Kept.refl Old V2).alloc (.cells #[.int .i64 (b : Int)] 3)))
              clear T2
              go_wp2_with (at_builtin; refine app_wpI rfl (.tmp 147) (.tmp 149) rfl rfl w.heap.size (.slice A tl.length cp) tl.length tl rfl OO.out (some ⟨V2.heap.size, 0, none⟩) 1 1 [(b : Int)] rfl R1.out (by intro h; cases h) (by omega) (by omega) T5.out.kept.size (tl.length + 1) rfl (tl ++ [(b : Int)]) rfl ?_; intro v6 w6 O6 k6 a6; obtain ⟨A6, c6, rfl, _⟩ := O6.out.rs; have T6 := Lib.hid (T5.out.app (l' := tl ++ [(b : Int)]) (by rw [List.length_append]; exact O6.out) k6.out a6.out))
              have tle := Lib.hid (show (tl ++ [(b : Int)]).length = tl.length + 1 by simp)
              refine (bo_same T6.out).mono ?_
              rintro e V3 ⟨rfl, s3⟩
              have T3 := Lib.hid s3
              clear s3 T6 O6 k6 a6 T5 OO R1
              go_wp2_with fail
              refine ⟨⟨k + 2, _, A6, c6, tl ++ [(b : Int)], by omega, by rw [tle.out]; omega, by go_num, by rw [tle.out], by rw [tle.out]; exact T3⟩, ?_⟩
              simp [intOf]; omega
        · have f0 : ((x : Int) % 6 == 0) = false := by simp only [beq_eq_false_iff_ne, ne_eq]; omega
          have f1 : ((x : Int) % 6 == 1) = false := by simp only [beq_eq_false_iff_ne, ne_eq]; omega
          have f2 : ((x : Int) % 6 == 2) = false := by simp only [beq_eq_false_iff_ne, ne_eq]; omega
          have f3 : ((x : Int) % 6 == 3) = false := by simp only [beq_eq_false_iff_ne, ne_eq]; omega
          have w10 : IntKind.i64.wrap ((y : Int) * 10) = (y : Int) * 10 := IntWalk.i64_in _ (by omega)
          clear e0 e3
          by_cases tz : tl.length = 0
          · have tz' : decide ((tl.length : Int) > 0) = false := decide_eq_false (by omega)
            go_wp2_with fail
            refine (bo_pput ((y : Int) * 10) T.out).mono ?_
            rintro e V1 ⟨rfl, s1⟩
            have T1 := Lib.hid s1
            clear s1
            go_wp2_with fail
            refine (bo_rput ((y : Int) * 10) T1.out).mono ?_
            rintro e V2 ⟨rfl, s2⟩
            have T2 := Lib.hid s2
            clear s2 T1
            generalize putP c L ((y : Int) * 10) = x3 at *
            generalize putG c L ((y : Int) * 10) = x4 at *
            generalize putC c L ((y : Int) * 10) = x5 at *
            generalize putL c L ((y : Int) * 10) = L4 at *
            go_wp2_with fail
            refine (bo_same T2.out).mono ?_
            rintro e V3 ⟨rfl, s3⟩
            have T3 := Lib.hid s3
            clear s3 T2
            go_wp2_with fail
            refine ⟨⟨k + 2, L4, A, cp, tl, by omega, by omega, by go_num, by first | rfl | trivial | rw [tz], T3⟩, ?_⟩
            simp [intOf]; omega
          · have tz' : decide ((tl.length : Int) > 0) = true := decide_eq_true (by omega)
            by_cases e6 : x % 12 < 6
            · have e7 : decide ((x : Int) % 12 < 6) = true := decide_eq_true (by omega)
              obtain ⟨At, ct, et, rt, _, _⟩ := T.out.tk.rs
              injection et with et1 et2 et3
              subst et1
              subst et3
              have ml : y % tl.length < tl.length := Nat.mod_lt _ (by omega)
              obtain ⟨gt, ot, qv, rfl, _, hq, _, cq⟩ := rt.get ml
              have tm : (y : Int) % (tl.length : Int) = ((y % tl.length : Nat) : Int) := by omega
              have tn : ((tl.length : Int) == 0) = false := by simp only [beq_eq_false_iff_ne, ne_eq]; omega
              have tn' : ¬ (tl.length : Int) = 0 := by omega
              generalize y % tl.length = m at *
              have wm : IntKind.i64.wrap (m : Int) = (m : Int) := IntWalk.i64_in _ (by omega)
              have ml' : (m : Int) < (tl.length : Int) := by omega
              clear hq rt e6
              go_wp2_with fail
              refine (bo_pput qv T.out).mono ?_
              rintro e V1 ⟨rfl, s1⟩
              have T1 := Lib.hid s1
              clear s1
              go_wp2_with fail
              refine (bo_rput qv T1.out).mono ?_
              rintro e V2 ⟨rfl, s2⟩
              have T2 := Lib.hid s2
              clear s2 T1
              generalize putP c L qv = x3 at *
              generalize putG c L qv = x4 at *
              generalize putC c L qv = x5 at *
              generalize putL c L qv = L4 at *
              go_wp2_with fail
              refine (bo_same T2.out).mono ?_
              rintro e V3 ⟨rfl, s3⟩
              have T3 := Lib.hid s3
              clear s3 T2
              go_wp2_with fail
              refine ⟨⟨k + 2, L4, _, cp, tl, by omega, by omega, by go_num, by first | rfl | trivial, T3⟩, ?_⟩
              simp [intOf]; omega
            · have e7 : decide ((x : Int) % 12 < 6) = false := decide_eq_false (by omega)
              clear e6
              go_wp2_with fail
              refine (bo_pput ((y : Int) * 10) T.out).mono ?_
              rintro e V1 ⟨rfl, s1⟩
              have T1 := Lib.hid s1
              clear s1
              go_wp2_with fail
              refine (bo_rput ((y : Int) * 10) T1.out).mono ?_
              rintro e V2 ⟨rfl, s2⟩
              have T2 := Lib.hid s2
              clear s2 T1
              generalize putP c L ((y : Int) * 10) = x3 at *
              generalize putG c L ((y : Int) * 10) = x4 at *
              generalize putC c L ((y : Int) * 10) = x5 at *
              generalize putL c L ((y : Int) * 10) = L4 at *
              go_wp2_with fail
              refine (bo_same T2.out).mono ?_
              rintro e V3 ⟨rfl, s3⟩
              have T3 := Lib.hid s3
              clear s3 T2
              go_wp2_with fail
              refine ⟨⟨k + 2, L4, A, cp, tl, by omega, by omega, by go_num, by first | rfl | trivial, T3⟩, ?_⟩
              simp [intOf]; omega
    · have cc : ¬ (k : Int) + 1 < (len1 : Int) ∨ ((k : Int) + 1 < (len1 : Int) ∧ ¬ (k : Int) < 400) := by omega
      have K := Lib.hid T.out.kept
      clear ck hz HS T
      rcases cc with ca | ⟨ca, cb⟩
      all_goals
        go_wp2_with fail
        refine (awake_any _).mono ?_
        rintro e w9 ⟨rfl, k9⟩
        go_wp2_with fail
        go_ret
        exact ⟨rfl, K.out.trans k9⟩

/-- The row's step. -/
theorem lifted (os : Os) (started : os.Started) (H : Type) (enc : TypeId × Value → H) :
    ReturnsInHanded {} Try.checked os 3 .any (Rows.poolRunsSpec.pre6 enc Try.prog Try.f3 Rows.poolRunsRow.domain false) (Rows.poolRunsSpec.post enc Try.prog Try.f3 false true false false) := by
  refine returnsInHanded_of_change (C := Try.checked) own started (by kernel_rfl) Try.func3
    (ChangeSpec.witness6 (enc := enc) (C := Try.checked) false ⟨#[], #[.int .u8 0, .slice none 0 0], []⟩ 8 (by kernel_rfl) (by kernel_rfl) (by kernel_rfl) (by kernel_rfl)) ?_
  intro W base args ds gs before hval0 hW hcnd _
  have hval : ∀ (j : Nat) t v, Try.f3.params[j]? = some t → args[j]? = some v → Value.okWide Try.prog W .any base t v := hval0
  have hW' := hW
  obtain ⟨p, q, hA0, hV, rfl, hfz, hnd⟩ := hW
  have hA : DataW.TrodAll enc Try.prog W 0 (fun _ => true) true Try.f3.params.toList args.toList ds p := hA0
  rw [Try.params3] at hA hval
  obtain ⟨v0, vs0, d0, ds0, p0, q0, hargs, rfl, rfl, h0, r0⟩ := trodAll_cons hA
  obtain ⟨v1, vs1, d1, ds1, p1, q1, rfl, rfl, rfl, h1, r1⟩ := trodAll_cons r0
  obtain ⟨rfl, rfl, rfl⟩ := trodAll_nil r1
  obtain rfl : args = #[v0, v1] := by cases args; simp_all
  obtain ⟨rfl, rfl⟩ := trodVars_none hV
  obtain ⟨a0, rfl, rfl, rfl, w0⟩ := open_int Try.underlying5 (hval 0 5 v0 rfl rfl) h0
  have k1 := h1
  have lt1 : ∀ x ∈ p1, x.block < W.heap.size := by obtain ⟨m, hm⟩ := k1; exact DataW.trod_lt m _ _ _ hm
  obtain ⟨a1, len1, cap1, rfl⟩ := okWide_slice Try.underlying22 (hval 1 22 v1 rfl rfl)
  obtain ⟨z1, w1⟩ := ints_in Try.underlying22 Try.underlying5 (by kernel_rfl) h1
  clear hA0 hval0
  refine (walk a0 a1 len1 cap1 z1 W w0 w1).mono fun e W' ⟨he, kept⟩ => ?_
  subst he
  have bel : Below W.heap.size W W' := kept.toBelow (Nat.le_refl _) (fun _ x => x.elim)
  exact ⟨_, rfl, _, _, _, [], _, [], hW', trodAll_mk1 (shut_bool Try.underlying4 _), (trodAll_cons_mk (shut_int Try.underlying5 w0) (trodAll_cons_mk (Below.trod laidOut (by kernel_rfl) (of_decide_eq_true (by kernel_rfl)) k1 bel lt1) trodAll_mk0)), rfl, bel.frame _, fun h => by cases h⟩

theorem over : Rows.PoolRunsSaid :=
  OpenClaim.holds_of_wide 3 Try.f3 rfl rfl rfl rfl rfl rfl rfl ⟨rfl, rfl, rfl, rfl, rfl⟩ rfl rfl rfl rfl rfl (by kernel_rfl) Try.func3 (by kernel_rfl)
    (of_decide_eq_true (by kernel_rfl)) (by unfold Func.isWrapper; first | (rw [if_pos (by decide +kernel)]; kernel_rfl) | (rw [if_neg (by decide +kernel)]; exact ⟨rfl, rfl⟩))
    (fun os started H enc _ => lifted os started H enc)

/-- The statement. -/
theorem proved : Rows.PoolRunsSaid := over
#print axioms proved
end Go.Proofs.Ytcaongcpfepcjaa.poolRuns
