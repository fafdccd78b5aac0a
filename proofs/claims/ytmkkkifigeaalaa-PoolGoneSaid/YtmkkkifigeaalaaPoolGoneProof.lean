/-
  For every input the law PoolGone of rickyard/rickyardlaw10 returns true, and its arguments read afterwards as before. The law's own sentence: Of what is put back, in any order, just the last stack of a span takes the span with it, by its first page; behind all of them there is none. No further conditions.
-/
import Derived.Test.YtmkkkifigeaalaaRows
import Derived.Test.YtmkkkifigeaalaaKept
import Derived.Test.YtmkkkifigeaalaaShell
import Derived.Test.YtmkkkifigeaalaaShellInts
import Derived.WalkKit
import Derived.ProofKit
import Derived.OpenShut
import Derived.ChangeOld
import Derived.Below
import Derived.Lib.SmallJoins
import Derived.Test.YtmkkkifigeaalaaPoolGoneM
import Derived.Deep.DeepCutAuto
import Derived.RegionTactic
import Derived.Deep.RegionLaw
namespace Go.Proofs.Ytmkkkifigeaalaa.poolGone
open Go.ChangeShapes Go.WideShapes Go.ChangeAt Go.RowKit
set_option linter.unusedVariables false
set_option maxRecDepth 100000

theorem own : ownKnob Try.prog.godebug = none := by kernel_rfl
theorem laidOut : laidOutB Try.prog = true := by kernel_rfl
open Prt
theorem put_at {c P i b : Nat} {L : List Q} {x : Q} (g : GoodP P c L) (hi : L[i]? = some x) (ha : atB c x.page (b : Int) = true) (hn : b ∉ x.free) : putP c L (b : Int) = (x.page : Nat) ∧ putC c L (b : Int) = 0 ∧ (x.free.length + 1 = perN c → putG c L (b : Int) = true ∧ putL c L (b : Int) = L.take i ++ L.drop (i + 1)) ∧ (x.free.length + 1 ≠ perN c → putG c L (b : Int) = false ∧ putL c L (b : Int) = L.set i ⟨x.page, b :: x.free⟩) := by
  have e := putR_at (c := c) (fun y hy => at_no ha (g.other hi (.inl hy))) hi ha
  rw [Int.toNat_natCast, if_neg hn] at e
  unfold putP putC putG putL
  rw [e]
  by_cases d : x.free.length + 1 = perN c
  · rw [if_pos d]; exact ⟨rfl, rfl, fun _ => ⟨rfl, rfl⟩, fun h => absurd d h⟩
  · rw [if_neg d]; exact ⟨rfl, rfl, fun h => absurd h d, fun _ => ⟨rfl, rfl⟩⟩

set_option maxHeartbeats 8000000 in
/-- The walk: the Go text returns true, and nothing that was there has turned. -/
theorem walk (a0 : Int) (a1 : Int) (a2 : Option Addr) (len2 cap2 : Nat) (z2 : Nat → Int) (w : World) (w0 : (Lit.int .u8 a0).wf = true) (w1 : (Lit.int .u8 a1).wf = true) (w2 : len2 ≤ cap2 ∧ cap2 ≤ maxLen ∧ (∀ i, i < len2 → (Lit.int .u8 (z2 i)).wf = true) ∧ Sl w a2 1 len2 fun i _ => .int .u8 (z2 i)) :
    Calls Try.prog 6 #[.int .u8 a0, .int .u8 a1, .slice a2 len2 cap2] w fun e w' => e = .returned (.bool true) ∧ Kept Old w w' := by
  obtain ⟨v0, v1, v2, v3⟩ := w2
  have hl : len2 ≤ 9223372036854775807 := by unfold maxLen at v1; omega
  have hz := Lib.hid (show ∀ i, i < len2 → 0 ≤ z2 i ∧ z2 i ≤ 255 from fun i hi => bounds_u8 (v2 i hi))
  have HS := Lib.hid v3
  have b2 := bounds_u8 w0
  have b3 := bounds_u8 w1
  obtain ⟨u, rfl⟩ : ∃ u : Nat, a0 = (u : Int) := ⟨a0.toNat, by omega⟩
  obtain ⟨u', rfl⟩ : ∃ u' : Nat, a1 = (u' : Int) := ⟨a1.toNat, by omega⟩
  obtain ⟨c, hcu⟩ : ∃ c : Nat, u % 4 = c := ⟨_, rfl⟩
  have hc : c < 4 := by omega
  have rm : (u : Int) % 4 = (c : Int) := by omega
  obtain ⟨n, hnu⟩ : ∃ n : Nat, 1 + u' % 4 = n := ⟨_, rfl⟩
  have n1 : 1 ≤ n := by omega
  have n4 : n ≤ 4 := by omega
  have rn : IntKind.i64.wrap (1 + (u' : Int) % 4) = (n : Int) := by rw [IntWalk.i64_in _ (by omega)]; omega
  have hN := Lib.hid (new_yes 32 w (by omega) (by omega))
  have pp := per_pos hc
  clear v0 v1 v2 v3 w0 w1 hcu hnu
  go_enter Try.func6, Try.ntmps6
  go_wp2_with fail
  refine hN.out.mono ?_
  rintro e w1 ⟨a, g, rfl, a1, k1, ha, hg⟩
  have A1 := Lib.hid a1
  have K1 := Lib.hid k1
  clear a1 k1 hN
  go_wp2_with fail
  refine (pnew_yes w.heap.size c w1 hc K1.out.size).mono ?_
  rintro e w2 ⟨p, rfl, T2, k2, hp⟩
  have S := Lib.hid (show StP w w2 p a g 32 c (fullL c 0) (fun _ => False) from StP.new (F := fun _ => False) A1.out K1.out ha hg T2 k2 hc (by omega) (fun b h => h.elim))
  clear A1 K1 T2 k2
  go_wp2_with fail
  go_loopw [11] (fun s11 wr => ∃ i : Nat, i ≤ n ∧ s11 = .int .i64 (i : Int) ∧ Hid (StP w wr p a g 32 c (fullL c i) (fun _ => False))) (fun s11 _ => n - (intOf s11).toNat)
  case atStart => exact ⟨0, by omega, rfl, S⟩
  case round =>
    obtain ⟨i, hi, rfl, S1⟩ := hrel
    rename World => V
    clear S
    by_cases ci : i < n
    · obtain ⟨q, hq⟩ : ∃ q : Nat, 8 * i = q := ⟨_, rfl⟩
      have w8 : IntKind.i64.wrap (8 * (i : Int)) = (q : Int) := by rw [IntWalk.i64_in _ (by omega)]; omega
      have FA := Lib.hid (full_add (c := c) (i := i) (by omega))
      rw [hq] at FA
      clear hq
      go_wp2_with fail
      refine (st_add _ S1.out).mono ?_
      rintro e V2 ⟨rfl, s2, k2⟩
      rw [FA.out.1]
      rw [FA.out.2] at s2
      have S2 := Lib.hid s2
      clear s2 k2
      go_wp2
      refine ⟨⟨i + 1, by omega, by go_num, S2⟩, ?_⟩
      simp [intOf]; omega
    · obtain rfl : i = n := by omega
      go_upto_region 11 with fail
      go_cut [12] (fun s12 wx => s12 = .int .i64 (perN c : Int) ∧ V = wx)
      case first =>
        rcases (show c = 0 ∨ c = 1 ∨ c = 2 ∨ c = 3 by omega) with rfl | rfl | rfl | rfl
        all_goals
          go_wp2_with fail
          go_meet
          exact ⟨rfl, rfl⟩
      case rest =>
      obtain ⟨rfl, rfl⟩ := hcut
      obtain ⟨w3, m3, N3, k3, l3⟩ := make_row V 4 (by omega)
      have m3 : (Instr.makeSlice 31 (.int .i64 4) (.int .i64 4)).run Try.prog V = .ok (.slice (some ⟨V.heap.size, 0, none⟩) 4 4) w3 := m3
      have s0 := S1.out.kept.size
      have T := Lib.hid (show GS w w3 p a g c (fullL c i) (.slice none 0 0) [] V.heap.size (fun _ => 0) from
        ⟨S1.out.more k3 (fun b e => by
          rcases e with e | e
          · cases e
          · exact .inr ⟨by omega, by omega⟩), OwI.nil _ _, N3, s0, fun e => by cases e⟩)
      generalize V.heap.size = bl at *
      have GI := Lib.hid (GoneInv.start (n := i) hc)
      obtain ⟨tot, htot⟩ : ∃ tot, i * perN c = tot := ⟨_, rfl⟩
      have tb : tot ≤ 64 := by rw [← htot]; exact Nat.mul_le_mul n4 pp.2
      have wt : IntKind.i64.wrap ((i : Int) * ((perN c : Nat) : Int)) = (tot : Int) := by
        rw [show (i : Int) * ((perN c : Nat) : Int) = (tot : Int) by rw [← htot]; simp]
        exact IntWalk.i64_in _ (by omega)
      have HT := Lib.hid htot
      clear S1 N3 k3 l3 s0 hp ha hg rm rn htot
      go_wp2_with fail
      clear m3
      go_loopw [13, 15] (fun s13 s15 wr => ∃ (j : Nat) (L : List Q) (A : Option Addr) (cp : Nat) (ol : List Nat) (lf : Nat → Nat), j ≤ tot ∧ ol.length = j ∧ s15 = .int .i64 (j : Int) ∧ s13 = .slice A j cp ∧ Hid (GS w wr p a g c L (.slice A j cp) ol bl lf) ∧ Hid (GoneInv c i L ol lf) ∧ Hid (L.length = i)) (fun _ s15 _ => tot - (intOf s15).toNat)
      case atStart => exact ⟨0, _, none, 0, [], _, by omega, rfl, rfl, rfl, T, GI, Lib.hid (fullL_length c i)⟩
      case round =>
        obtain ⟨j, L, A, cp, ol, lf, hj, hol, rfl, rfl, T1, G1, LL⟩ := hrel
        rename World => X
        clear T GI
        have sm := G1.out.sum
        rw [LL.out, HT.out, hol] at sm
        by_cases cj : j < tot
        · go_wp2_with fail
          refine (st_take T1.out.st).mono ?_
          rintro e X2 ⟨rfl, s2, k2⟩
          rcases take_ways L with ⟨q1, _, _, _⟩ | ⟨k, pg, b, r, q1, q2, q3, q4, q5, q6⟩
          · exfalso
            unfold lenL at sm
            rw [q1] at sm
            simp at sm
            omega
          · rw [q3, q4]
            rw [q5] at s2
            have T2 := Lib.hid (T1.out.turn s2 k2)
            obtain ⟨f1, f2, f3, iv⟩ := G1.out.takes T1.out.st.good n4 q2
            have IV := Lib.hid iv
            have LL2 := Lib.hid (show (L.set k ⟨pg, r⟩).length = i by rw [List.length_set]; exact LL.out)
            have w5 : IntKind.i64.wrap (512 * (i : Int)) = 512 * (i : Int) := IntWalk.i64_in _ (by omega)
            have bn : ¬ 512 * (i : Int) ≤ (b : Int) := by omega
            have OO := Lib.hid (T2.out.tk.alloc (.cells #[.int .i64 (b : Int)] 3))
            have R1 := Lib.hid (RsI.one X2 (b : Int) ⟨by omega, by omega⟩ X2.heap.size rfl)
            have T3 := Lib.hid (T2.out.old ((Kept.refl Old X2).alloc (.cells #[.int .i64 (b : Int)] 3)))
            obtain ⟨bq, hbq⟩ : ∃ bq, b / 512 = bq := ⟨_, rfl⟩
            rw [hbq] at f2 f3 IV
            have bqi : (b : Int) / 512 = (bq : Int) := by omega
            have wbq : IntKind.i64.wrap (bq : Int) = (bq : Int) := IntWalk.i64_in _ (by omega)
            have bq4 : (bq : Int) < 4 := by omega
            have wlf : IntKind.i64.wrap ((lf bq : Int) + 1) = ((lf bq + 1 : Nat) : Int) := by rw [IntWalk.i64_in _ (by omega)]; omega
            rw [hol] at OO
            clear s2 k2 iv q1 q2 q3 q4 q5 q6 hbq T1 G1 LL sm
            go_wp2_with (at_builtin; refine app_wpI rfl (.tmp 81) (.tmp 83) rfl rfl w.heap.size (.slice A j cp) j (NI ol) rfl OO.out (some ⟨X2.heap.size, 0, none⟩) 1 1 [(b : Int)] rfl R1.out (by intro h; cases h) (by omega) (by omega) T3.out.st.kept.size (j + 1) rfl (NI ol ++ [(b : Int)]) rfl ?_; intro v6 X6 O6 k6 a6; obtain ⟨A6, c6, rfl, _⟩ := O6.out.rs; have T6 := Lib.hid (T3.out.app (ol' := ol ++ [b]) (by rw [List.length_append, hol, NI_append]; exact O6.out) k6.out (a6.out.imp id fun e => ⟨_, e, Nat.le_refl _⟩)); have cl := T6.out.lf.cell f2; have fl := T6.out.lf.frozen bq; have T7 := Lib.hid (T6.out.put bq (lf bq + 1)); clear T6 O6 k6 a6)
            have ole := Lib.hid (show (ol ++ [b]).length = j + 1 by simp [hol])
            refine ⟨⟨j + 1, _, A6, c6, ol ++ [b], _, by omega, ole.out, by go_num, rfl, T7, IV, LL2⟩, ?_⟩
            simp [intOf]; omega
        · obtain rfl : j = tot := by omega
          have PL := Lib.hid (PartL.ofEmpty (L := L) hc (by omega))
          clear sm cj hj
          have HO := Lib.hid hol
          clear hol LL
          go_wp2_with fail
          go_loopw [13, 18] (fun s13 s18 wr => ∃ (m t : Nat) (L : List Q) (A : Option Addr) (cp : Nat) (ol : List Nat) (lf : Nat → Nat), m + t = j ∧ s18 = .int .i64 (t : Int) ∧ s13 = .slice A m cp ∧ Hid (ol.length = m) ∧ Hid (GS w wr p a g c L (.slice A m cp) ol bl lf) ∧ Hid (GoneInv c i L ol lf) ∧ Hid (PartL c L)) (fun _ s18 _ => j - (intOf s18).toNat)
          case atStart => exact ⟨j, 0, L, A, cp, ol, lf, by omega, rfl, rfl, HO, T1, G1, PL⟩
          case round =>
            obtain ⟨m, t, L, A, cp, ol, lf, hm, rfl, rfl, HO, T1, G1, PL⟩ := hrel
            rename World => Y
            by_cases cm : 0 < m
            · have cm' : decide ((m : Int) > 0) = true := decide_eq_true (by omega)
              have mz : ¬ (m : Int) = 0 := by omega
              go_upto_if 100 with fail
              go_cut [19] from 92 to 156 (fun s19 wx => ∃ k : Nat, k < m ∧ s19 = .int .i64 (k : Int) ∧ Y = wx)
              case first =>
                by_cases ct : t < len2
                · obtain ⟨gn, on, rfl, hgn, hcn⟩ := (HS.out.old T1.out.st.kept).lies (by omega)
                  have d0 := hcn t 0 ct (by omega)
                  simp only [Nat.mul_one, Nat.add_zero] at d0
                  have y0 := hz.out t ct
                  obtain ⟨y, hy⟩ : ∃ y : Nat, z2 t = (y : Int) := ⟨(z2 t).toNat, by omega⟩
                  rw [hy] at d0 y0
                  have wy : IntKind.i64.wrap (y : Int) = (y : Int) := IntWalk.i64_in _ (by omega)
                  have ml : y % m < m := Nat.mod_lt _ cm
                  have tm : (y : Int) % (m : Int) = ((y % m : Nat) : Int) := by omega
                  generalize y % m = km at *
                  have wm : IntKind.i64.wrap (km : Int) = (km : Int) := IntWalk.i64_in _ (by omega)
                  have ct' : (t : Int) < (len2 : Int) := by omega
                  clear hcn hy
                  go_wp2_with fail
                  go_meet
                  exact ⟨km, ml, by first | rfl | rw [tm], rfl⟩
                · have ct' : ¬ (t : Int) < (len2 : Int) := by omega
                  go_wp2_with fail
                  go_meet
                  exact ⟨0, cm, rfl, rfl⟩
              case rest =>
              obtain ⟨k, hk, rfl, rfl⟩ := hcut
              obtain ⟨At, ct, et, rt, hct, _⟩ := T1.out.tk.rs
              injection et with et1 et2 et3
              subst et1
              subst et3
              rw [HO.out] at rt hct
              obtain ⟨gt, ot, b, rfl, lgt, hb, _, cb⟩ := rt.getN hk
              obtain ⟨i', x, f1, f2, f3, f4, f5, f6, f7, f8, f9, f10, f11⟩ := G1.out.puts T1.out.st.good PL.out hb
              obtain ⟨p1, p2, p3, p4⟩ := put_at T1.out.st.good f1 f2 f3
              have P12 := Lib.hid (And.intro p1 p2)
              have F4 := Lib.hid f4
              have RT := Lib.hid rt
              have O0 := Lib.hid (show OwI (Y.drew.alloc (.cells #[] 3)) w.heap.size (.slice (some ⟨Y.heap.size, 0, none⟩) 0 0) 0 [] from OwI.made Y.drew w.heap.size 0 #[] T1.out.st.kept.size (by decide) rfl)
              have K0 := Lib.hid (show Kept Old w (Y.drew.alloc (.cells #[] 3)) from T1.out.st.kept.drew.alloc _)
              have KY := Lib.hid (show Kept Old Y (Y.drew.alloc (.cells #[] 3)) from (Kept.refl Old Y).drew.alloc _)
              have kw1 : IntKind.i64.wrap ((k : Int) + 1) = (k : Int) + 1 := IntWalk.i64_in _ (by omega)
              have kt : ((k : Int) + 1).toNat = k + 1 := by omega
              have k0 : (0 : Int) ≤ (k : Int) + 1 := by omega
              have kc : (k : Int) ≤ (cp : Int) := by omega
              have km1 : (k : Int) + 1 ≤ (m : Int) := by omega
              have kI : (k : Int) < (m : Int) := by omega
              have T0 := Lib.hid (NI_take ol k)
              have D0 := Lib.hid (NI_drop ol (k + 1))
              obtain ⟨AD, hAD⟩ : ∃ AD, (if cp = k + 1 then some (⟨gt, ot, none⟩ : Addr) else some ⟨gt, ot + (k + 1), none⟩) = AD := ⟨_, rfl⟩
              have HAD := Lib.hid hAD
              clear rt p1 p2 f4 et2
              go_wp2_with fail
              go_region_law (first
                | (refine app_stepI rfl (.tmp 113) (.tmp 116) rfl rfl w.heap.size (.slice (some ⟨Y.heap.size, 0, none⟩) 0 0) 0 [] (by simp [Act.eval]) O0.out (some ⟨gt, ot, none⟩) k cp ((NI ol).take k) (by simp [Act.eval]) ((RT.out.old KY.out).take (by omega)) (by intro h; cases h) (by omega) (by omega) K0.out.size k (by omega) ((NI ol).take k) rfl ?_; intro v3 Y3 O3 k3 a3; have KY3 := Lib.hid (show Kept Old Y Y3 from KY.out.join k3.out (fun i hi e => by injection e with e; have : i = Y.heap.size := e; omega)); have K3 := Lib.hid (show Kept Old w Y3 from T1.out.st.kept.trans KY3.out))
                | (refine app_stepI rfl (.tmp 117) (.tmp 121) rfl rfl w.heap.size v3 k ((NI ol).take k) (by simp [Act.eval]) O3.out AD (m - (k + 1)) (cp - (k + 1)) ((NI ol).drop (k + 1)) (by simp [Act.eval]) (RsI.dropI (RT.out.old KY3.out) _ (fun h => by rw [← HAD.out]; exact if_neg (by omega))) (by intro h; rw [← HAD.out] at h; split at h <;> cases h) (by omega) (by omega) K3.out.size (m - 1) (by omega) ((NI ol).take k ++ (NI ol).drop (k + 1)) rfl ?_; intro v4 Y4 O4 k4 a4))
              have v3b := Lib.hid (show ∀ q, v3.ownBlock = some q → Y.heap.size ≤ q from fun q e => by
                rcases a3.out with f | f
                · exact Nat.le_of_eq (Option.some.inj (f.symm.trans e))
                · exact Nat.le_trans KY.out.size (Nat.le_of_eq (Option.some.inj (f.symm.trans e))))
              have KY4 := Lib.hid (show Kept Old Y Y4 from KY3.out.join k4.out (fun q hq e => by have := v3b.out q e.symm; omega))
              have v4b := Lib.hid (show v4.ownBlock = (Value.slice (some ⟨gt, ot, none⟩) m cp).ownBlock ∨ ∃ q, v4.ownBlock = some q ∧ Y.heap.size ≤ q from by
                rcases a4.out with f | f
                · rcases a3.out with f' | f'
                  · exact .inr ⟨Y.heap.size, f.trans f', Nat.le_refl _⟩
                  · exact .inr ⟨(Y.drew.alloc (.cells #[] 3)).heap.size, f.trans f', KY.out.size⟩
                · exact .inr ⟨_, f, KY3.out.size⟩)
              have LE := Lib.hid (show (ol.take k ++ ol.drop (k + 1)).length = m - 1 by have := HO.out; simp; omega)
              have T5 := Lib.hid (T1.out.app (v' := v4) (ol' := ol.take k ++ ol.drop (k + 1)) (by rw [LE.out, NI_append, T0.out, D0.out]; exact O4.out) KY4.out.any v4b.out)
              obtain ⟨A4, c4, rfl, _⟩ := O4.out.rs
              obtain ⟨bq, hbq⟩ : ∃ bq, b / 512 = bq := ⟨_, rfl⟩
              rw [hbq] at f5 f7 f8 f9 f10 f11 F4
              have bqi : (b : Int) / 512 = (bq : Int) := by omega
              have wbq : IntKind.i64.wrap (bq : Int) = (bq : Int) := IntWalk.i64_in _ (by omega)
              have bq4 : (bq : Int) < 4 := by omega
              have w8 : IntKind.i64.wrap (8 * (bq : Int)) = 8 * (bq : Int) := IntWalk.i64_in _ (by omega)
              have wlf : IntKind.i64.wrap ((lf bq : Int) - 1) = ((lf bq - 1 : Nat) : Int) := by rw [IntWalk.i64_in _ (by omega)]; omega
              have P1' := Lib.hid (show putP c L (b : Int) = 8 * (bq : Int) by rw [P12.out.1, F4.out]; omega)
              clear O4 k4 a4 a3 O3 k3 K3 KY3 v3b v4b T1 O0 K0 KY RT hb f1 f2 f3 f6 hbq lgt cb hct
              go_wp2_with fail
              refine (st_put (b : Int) T5.out.st).mono ?_
              rintro e Y5 ⟨rfl, s5, k5⟩
              rw [P1'.out, P12.out.2]
              have T6 := Lib.hid (T5.out.turn s5 k5)
              have cl := T6.out.lf.cell f5
              have fl := T6.out.lf.frozen bq
              have T7 := Lib.hid (T6.out.put bq (lf bq - 1))
              clear s5 k5 T5 T6
              by_cases full : x.free.length + 1 = perN c
              · obtain ⟨g1, g2⟩ := p3 full
                obtain ⟨PV, GV⟩ := f11 full
                have PV := Lib.hid PV
                have GV := Lib.hid GV
                rw [g1]
                rw [g2] at T7
                have z1 : (((lf bq - 1 : Nat) : Int) == 0) = true := by have := f9.1 full; simp; omega
                clear g1 g2 p3 p4 f9 f10 f11 full
                have T8 := Lib.hid (T7.out)
                go_wp2_with fail
                refine ⟨⟨m - 1, t + 1, (L.take i' ++ L.drop (i' + 1)), A4, c4, ol.take k ++ ol.drop (k + 1), updN lf bq (lf bq - 1), by omega, by go_num, rfl, LE, T8, GV, PV⟩, ?_⟩
                simp [intOf]; omega
              · obtain ⟨g1, g2⟩ := p4 full
                obtain ⟨PV, GV⟩ := f10 full
                have PV := Lib.hid PV
                have GV := Lib.hid GV
                rw [g1]
                rw [g2] at T7
                have z1 : (((lf bq - 1 : Nat) : Int) == 0) = false := by
                  have : ¬ lf bq - 1 = 0 := fun e => full (f9.2 e)
                  simp only [beq_eq_false_iff_ne, ne_eq]; omega
                clear g1 g2 p3 p4 f9 f10 f11 full
                have T8 := Lib.hid (T7.out)
                go_wp2_with fail
                refine ⟨⟨m - 1, t + 1, (L.set i' ⟨x.page, b :: x.free⟩), A4, c4, ol.take k ++ ol.drop (k + 1), updN lf bq (lf bq - 1), by omega, by go_num, rfl, LE, T8, GV, PV⟩, ?_⟩
                simp [intOf]; omega
            · obtain rfl : m = 0 := by omega
              have ol0 : ol = [] := List.eq_nil_of_length_eq_zero HO.out
              subst ol0
              have L0 := G1.out.done PL.out
              subst L0
              have T1 := Lib.hid T1.out.st
              clear G1 PL HO
              go_wp2_with fail
              refine (st_take T1.out).mono ?_
              rintro e Y2 ⟨rfl, s2, k2⟩
              have s2 : StP w Y2 p a g 32 c [] (fun b => OwnB (.slice A 0 cp) b ∨ b = bl) := s2
              rw [show takeA [] = 0 from rfl, show takeC [] = 2 from rfl]
              have S2 := Lib.hid s2
              clear s2 k2 T1
              go_wp2_with fail
              refine (st_spans S2.out).mono ?_
              rintro e Y3 ⟨v3, rfl, A3, n3, c3, rfl, r3, _, _, k3⟩
              obtain rfl : n3 = 0 := by have := r3.len; exact this.symm
              have S3 := Lib.hid (S2.out.old k3)
              clear k3 r3 S2
              go_wp2_with fail
              refine (st_len S3.out).mono ?_
              rintro e Y4 ⟨rfl, k4⟩
              rw [show ((lenL [] : Nat) : Int) = 0 from rfl]
              have S4 := Lib.hid (S3.out.old k4)
              clear k4 S3
              go_wp2_with fail
              refine (st_free S4.out).mono ?_
              rintro e Y5 ⟨v5, rfl, A5, n5, c5, rfl, r5, _, _, k5⟩
              obtain rfl : n5 = 0 := by have := r5.lenN; exact this.symm
              have K5 := Lib.hid (S4.out.kept.trans k5)
              clear k5 r5 S4
              go_wp2_with fail
              refine (awake_any _).mono ?_
              rintro e Y6 ⟨rfl, k6⟩
              go_wp2_with fail
              go_ret
              exact ⟨rfl, K5.out.trans k6⟩

/-- The row's step. -/
theorem lifted (os : Os) (started : os.Started) (H : Type) (enc : TypeId × Value → H) :
    ReturnsInHanded {} Try.checked os 6 .any (Rows.poolGoneSpec.pre6 enc Try.prog Try.f6 Rows.poolGoneRow.domain false) (Rows.poolGoneSpec.post enc Try.prog Try.f6 false true false false) := by
  refine returnsInHanded_of_change (C := Try.checked) own started (by kernel_rfl) Try.func6
    (ChangeSpec.witness6 (enc := enc) (C := Try.checked) false ⟨#[], #[.int .u8 0, .int .u8 0, .slice none 0 0], []⟩ 8 (by kernel_rfl) (by kernel_rfl) (by kernel_rfl) (by kernel_rfl)) ?_
  intro W base args ds gs before hval0 hW hcnd _
  have hval : ∀ (j : Nat) t v, Try.f6.params[j]? = some t → args[j]? = some v → Value.okWide Try.prog W .any base t v := hval0
  have hW' := hW
  obtain ⟨p, q, hA0, hV, rfl, hfz, hnd⟩ := hW
  have hA : DataW.TrodAll enc Try.prog W 0 (fun _ => true) true Try.f6.params.toList args.toList ds p := hA0
  rw [Try.params6] at hA hval
  obtain ⟨v0, vs0, d0, ds0, p0, q0, hargs, rfl, rfl, h0, r0⟩ := trodAll_cons hA
  obtain ⟨v1, vs1, d1, ds1, p1, q1, rfl, rfl, rfl, h1, r1⟩ := trodAll_cons r0
  obtain ⟨v2, vs2, d2, ds2, p2, q2, rfl, rfl, rfl, h2, r2⟩ := trodAll_cons r1
  obtain ⟨rfl, rfl, rfl⟩ := trodAll_nil r2
  obtain rfl : args = #[v0, v1, v2] := by cases args; simp_all
  obtain ⟨rfl, rfl⟩ := trodVars_none hV
  obtain ⟨a0, rfl, rfl, rfl, w0⟩ := open_int Try.underlying5 (hval 0 5 v0 rfl rfl) h0
  obtain ⟨a1, rfl, rfl, rfl, w1⟩ := open_int Try.underlying5 (hval 1 5 v1 rfl rfl) h1
  have k2 := h2
  have lt2 : ∀ x ∈ p2, x.block < W.heap.size := by obtain ⟨m, hm⟩ := k2; exact DataW.trod_lt m _ _ _ hm
  obtain ⟨a2, len2, cap2, rfl⟩ := okWide_slice Try.underlying22 (hval 2 22 v2 rfl rfl)
  obtain ⟨z2, w2⟩ := ints_in Try.underlying22 Try.underlying5 (by kernel_rfl) h2
  clear hA0 hval0
  refine (walk a0 a1 a2 len2 cap2 z2 W w0 w1 w2).mono fun e W' ⟨he, kept⟩ => ?_
  subst he
  have bel : Below W.heap.size W W' := kept.toBelow (Nat.le_refl _) (fun _ x => x.elim)
  exact ⟨_, rfl, _, _, _, [], _, [], hW', trodAll_mk1 (shut_bool Try.underlying4 _), (trodAll_cons_mk (shut_int Try.underlying5 w0) (trodAll_cons_mk (shut_int Try.underlying5 w1) (trodAll_cons_mk (Below.trod laidOut (by kernel_rfl) (of_decide_eq_true (by kernel_rfl)) k2 bel lt2) trodAll_mk0))), rfl, bel.frame _, fun h => by cases h⟩

theorem over : Rows.PoolGoneSaid :=
  OpenClaim.holds_of_wide 6 Try.f6 rfl rfl rfl rfl rfl rfl rfl ⟨rfl, rfl, rfl, rfl, rfl⟩ rfl rfl rfl rfl rfl (by kernel_rfl) Try.func6 (by kernel_rfl)
    (of_decide_eq_true (by kernel_rfl)) (by unfold Func.isWrapper; first | (rw [if_pos (by decide +kernel)]; kernel_rfl) | (rw [if_neg (by decide +kernel)]; exact ⟨rfl, rfl⟩))
    (fun os started H enc _ => lifted os started H enc)

/-- The statement. -/
theorem proved : Rows.PoolGoneSaid := over
#print axioms proved
end Go.Proofs.Ytmkkkifigeaalaa.poolGone
