/-
  For every input the law PoolLow of rickyard/rickyardlaw10 returns true, and its arguments read afterwards as before. The law's own sentence: What is taken is the first of all that are free, of the lowest span that has one; what is put last is taken first, while no lower span has one. No further conditions.
-/
import Derived.Test.YtmkkkifigeaalaaRows
import Derived.Test.YtmkkkifigeaalaaKept
import Derived.Test.YtmkkkifigeaalaaShell
import Derived.Test.YtmkkkifigeaalaaShellInts
import Derived.WalkKit
import Derived.ProofKit
import Derived.OpenShut
import Derived.ChangeOld
import Derived.Below
import Derived.Lib.SmallJoins
import Derived.Test.YtmkkkifigeaalaaPoolLaw
import Derived.Deep.DeepCutAuto
namespace Go.Proofs.Ytmkkkifigeaalaa.poolLow
open Go.ChangeShapes Go.WideShapes Go.ChangeAt Go.RowKit
set_option linter.unusedVariables false
set_option maxRecDepth 100000

theorem own : ownKnob Try.prog.godebug = none := by kernel_rfl
theorem laidOut : laidOutB Try.prog = true := by kernel_rfl
open Prt
/-- A stack's span, by its page. -/
theorem page_of {c pg b : Nat} (h : atB c pg (b : Int) = true) (h8 : pg % 8 = 0) : ((b : Int) / 64 / 8 * 8) = (pg : Int) := by
  have := at_range h
  omega
theorem spans_get {w : World} {A : Option Addr} {n : Nat} {L : List Q} (h : Pr.Rs w A n (spansL L)) {k : Nat} {x : Q} (hx : L[k]? = some x) : ∃ g o, A = some ⟨g, o, none⟩ ∧ g < w.heap.size ∧ w.cell? ⟨g, o + k * 2, none⟩ = some (.int .i64 (x.page : Int)) ∧ w.cell? ⟨g, o + k * 2 + 1, none⟩ = some (.int .i64 (x.free.length : Int)) := by
  have hk : k < n := by have := (List.getElem?_eq_some_iff.1 hx).1; have := h.len; unfold spansL at this; rw [List.length_map] at this; omega
  obtain ⟨g, o, y, h1, h2, h3, _, _, h4, h5⟩ := h.get hk
  unfold spansL at h3
  rw [List.getElem?_map, hx] at h3
  obtain rfl := Option.some.inj h3
  exact ⟨g, o, h1, h2, h4, h5⟩

set_option maxHeartbeats 8000000 in
/-- The walk: the Go text returns true, and nothing that was there has turned. -/
theorem walk (a0 : Int) (a1 : Option Addr) (len1 cap1 : Nat) (z1 : Nat → Int) (w : World) (w0 : (Lit.int .u8 a0).wf = true) (w1 : len1 ≤ cap1 ∧ cap1 ≤ maxLen ∧ (∀ i, i < len1 → (Lit.int .u8 (z1 i)).wf = true) ∧ Sl w a1 1 len1 fun i _ => .int .u8 (z1 i)) :
    Calls Try.prog 7 #[.int .u8 a0, .slice a1 len1 cap1] w fun e w' => e = .returned (.bool true) ∧ Kept Old w w' := by
  obtain ⟨v0, v1, v2, v3⟩ := w1
  have hl : len1 ≤ 9223372036854775807 := by unfold maxLen at v1; omega
  have hz := Lib.hid (show ∀ i, i < len1 → 0 ≤ z1 i ∧ z1 i ≤ 255 from fun i hi => bounds_u8 (v2 i hi))
  have HS := Lib.hid v3
  have b2 := bounds_u8 w0
  obtain ⟨u, rfl⟩ : ∃ u : Nat, a0 = (u : Int) := ⟨a0.toNat, by omega⟩
  obtain ⟨c, hcu⟩ : ∃ c : Nat, u % 4 = c := ⟨_, rfl⟩
  have hc : c < 4 := by omega
  have rm : (u : Int) % 4 = (c : Int) := by omega
  have hN := Lib.hid (new_yes 40 w (by omega) (by omega))
  clear v0 v1 v2 v3 w0 hcu
  go_enter Try.func7, Try.ntmps7
  go_wp2_with fail
  refine hN.out.mono ?_
  rintro e w1 ⟨a, g, rfl, a1, k1, ha, hg⟩
  have A1 := Lib.hid a1
  have K1 := Lib.hid k1
  clear a1 k1 hN
  go_wp2_with fail
  refine (pnew_yes w.heap.size c w1 hc K1.out.size).mono ?_
  rintro e w2 ⟨p, rfl, T2, k2, hp⟩
  have S := Lib.hid (Tk.start (StP.new (F := fun _ => False) A1.out K1.out ha hg T2 k2 hc (by omega) (fun b h => h.elim)))
  clear A1 K1 T2 k2
  go_wp2_with fail
  go_loopw [8, 9] (fun s8 s9 wr => ∃ (i : Nat) (L : List Q) (A : Option Addr) (cp : Nat) (tl : List Int), i ≤ 301 ∧ tl.length ≤ i ∧ s9 = .int .i64 (i : Int) ∧ s8 = .slice A tl.length cp ∧ Hid (Tk w wr p a g 40 c L (.slice A tl.length cp) tl) ∧ Hid (Mul8 L)) (fun _ s9 _ => 302 - (intOf s9).toNat)
  case atStart => exact ⟨0, [], none, 0, [], by omega, by simp, rfl, rfl, S, Lib.hid (fun _ h => by cases h)⟩
  case round =>
    obtain ⟨k, L, A, cp, tl, hk, htl, rfl, rfl, T, M⟩ := hrel
    rename World => V
    clear S
    have wk : IntKind.i64.wrap ((k : Int) + 1) = (k : Int) + 1 := IntWalk.i64_in _ (by omega)
    by_cases ck : k + 1 < len1 ∧ k < 300
    · obtain ⟨c1, c2⟩ := ck
      obtain ⟨gn, on, rfl, hgn, hcn⟩ := (HS.out.old T.out.kept).lies (by omega)
      have d0 := hcn k 0 (by omega) (by omega)
      have d1 := hcn (k + 1) 0 (by omega) (by omega)
      simp only [Nat.mul_one, Nat.add_zero] at d0 d1
      have y0 := hz.out k (by omega)
      have y1 := hz.out (k + 1) (by omega)
      obtain ⟨x, hx⟩ : ∃ x : Nat, z1 k = (x : Int) := ⟨(z1 k).toNat, by omega⟩
      obtain ⟨y, hy⟩ : ∃ y : Nat, z1 (k + 1) = (y : Int) := ⟨(z1 (k + 1)).toNat, by omega⟩
      rw [hx] at d0 y0
      rw [hy] at d1 y1
      have wy : IntKind.i64.wrap (y : Int) = (y : Int) := IntWalk.i64_in _ (by omega)
      have wx : IntKind.u8.wrap ((x : Int) % 6) = (x : Int) % 6 := IntWalk.u8_in _ (by omega)
      have j1 : (k : Int) + 1 < (len1 : Int) := by omega
      have j2 : (0 : Int) ≤ (k : Int) + 1 := by omega
      have j3 : ((k : Int) + 1).toNat = k + 1 := by omega
      have j4 : (k : Int) < (len1 : Int) := by omega
      clear hcn hx hy
      have hz' := Lib.hid hz
      by_cases e0 : x % 6 = 0
      · have e1 : ((x : Int) % 6 == 0) = true := by simp; omega
        have w8 : IntKind.i64.wrap (8 * ((y : Int) % 5)) = 8 * ((y % 5 : Nat) : Int) := by rw [IntWalk.i64_in _ (by omega)]; omega
        clear e0
        go_wp2_with fail
        refine (st_add _ T.out.st).mono ?_
        rintro e V2 ⟨rfl, s2, k2⟩
        have T2 := Lib.hid (T.out.turn s2 k2)
        have M2 := Lib.hid (M.out.add (P := 40) (c := c) (y % 5))
        clear s2 k2
        go_wp2
        refine ⟨⟨k + 2, _, A, cp, tl, by omega, by omega, by go_num, rfl, T2, M2⟩, ?_⟩
        simp [intOf]; omega
      · have e1 : ((x : Int) % 6 == 0) = false := by simp only [beq_eq_false_iff_ne, ne_eq]; omega
        by_cases e2 : x % 6 < 4
        · have e3 : decide ((x : Int) % 6 < 4) = true := decide_eq_true (by omega)
          clear e0 e2
          go_wp2_with fail
          refine (st_free T.out.st).mono ?_
          rintro e V2 ⟨v2, rfl, A2, n2, c2', rfl, r2, hc2, ⟨_, hnew2⟩, k2⟩
          have T2 := Lib.hid (T.out.old k2)
          have R2 := Lib.hid r2
          have K2 := Lib.hid k2
          have z2 := k2.size
          have rl2 := Lib.hid (show 0 < n2 → ∃ g o, A2 = some ⟨g, o, none⟩ ∧ g < V2.heap.size from fun h => by obtain ⟨g, o, e, l, _⟩ := r2.lies h; exact ⟨g, o, e, l⟩)
          clear k2 r2
          go_wp2_with fail
          refine (st_spans T2.out.st).mono ?_
          rintro e V3 ⟨v3, rfl, A3, n3, c3', rfl, r3, hc3, ⟨_, hnew3⟩, k3⟩
          have T3 := Lib.hid (T2.out.old k3)
          have R2 := Lib.hid (R2.out.old k3)
          have R3 := Lib.hid r3
          have K3 := Lib.hid (K2.out.trans k3)
          have z3 := k3.size
          clear k3 r3
          have nl2 := R2.out.lenN
          have nl3 := R3.out.len
          unfold spansL at nl3
          rw [List.length_map] at nl3
          rcases take_ways L with ⟨q1, q2, q3, q4⟩ | ⟨j, pg, b, r, q1, q2, q3, q4, q5, q6⟩
          · obtain rfl : n2 = 0 := by rw [q1] at nl2; exact nl2.symm
            have Q3 := Lib.hid q3
            have Q4 := Lib.hid q4
            clear q1 q2 q3 q4 nl2
            go_wp2_with fail
            refine (st_take T3.out.st).mono ?_
            rintro e V4 ⟨rfl, s4, k4⟩
            rw [Q3.out]
            have T4 := Lib.hid (T3.out.turn s4 k4)
            have M4 := Lib.hid M.out.take
            clear s4 k4
            go_wp2
            refine ⟨⟨k + 2, _, A, cp, tl, by omega, by omega, by go_num, rfl, T4, M4⟩, ?_⟩
            simp [intOf]; omega
          · have gm := T3.out.st.good
            have xm := List.mem_of_getElem? q2
            have at1 := gm.stks _ xm b List.mem_cons_self
            have blt := gm.lt xm List.mem_cons_self
            have pl := gm.inP _ xm
            have pof := page_of at1 (M.out _ xm)
            have hj := (List.getElem?_eq_some_iff.1 q2).1
            have n2p : 0 < n2 := by have := (List.getElem?_eq_some_iff.1 q6).1; omega
            have lL := T3.out.st.len
            obtain ⟨g2, o2, b', rfl, lg2, hb', _, _⟩ := R2.out.getN n2p
            obtain ⟨g3, o3, rfl, lg3, _, _⟩ := spans_get R3.out q2
            have nw2 := hnew2 _ rfl
            have nw3 := hnew3 _ rfl
            have S3 := Lib.hid (T.out.st.more (G := fun b => OwnB (.slice A tl.length cp) b ∨ b = g2 ∨ b = g3) K3.out (fun b e => by
              rcases e with e | e | e
              · exact .inl e
              · obtain ⟨gx, ox, ex, lx⟩ := rl2.out n2p
                injection ex with ex
                injection ex with ex
                have nw2 : V.heap.size ≤ g2 := nw2
                exact .inr ⟨by omega, by omega⟩
              · have nw3 : V2.heap.size ≤ g3 := nw3
                exact .inr ⟨by omega, by omega⟩))
            have Q1 := Lib.hid q1
            have Q2 := Lib.hid q2
            have Q3 := Lib.hid q3
            have Q4 := Lib.hid q4
            have Q6 := Lib.hid q6
            have n2z : ((n2 : Int) == 0) = false := by simp only [beq_eq_false_iff_ne, ne_eq]; omega
            clear q1 q2 q3 q4 q5 q6 xm at1 gm nl2
            go_wp2_with fail
            refine (st_take S3.out).mono ?_
            rintro e V4 ⟨rfl, s4, k4⟩
            rw [Q3.out, Q4.out]
            have T4 := Lib.hid (show Tk w V4 p a g 40 c (takeL L) (.slice A tl.length cp) tl from ⟨s4.more (Kept.refl _ _) (fun b e => .inl (.inl e)), T3.out.tk.kept k4 (fun b e z => z (.inl e))⟩)
            have M4 := Lib.hid M.out.take
            have R2 := Lib.hid (R2.out.kept k4 (fun ad e z => z (.inr (.inl (by injection e with e; rw [← e])))))
            have R3 := Lib.hid (R3.out.kept k4 (fun ad e z => z (.inr (.inr (by injection e with e; rw [← e])))))
            clear s4 k4 S3 T3 T2 K3 K2 rl2 nw2 nw3 hnew2 hnew3 z2 z3
            have hj3 : j < n3 := by omega
            have hj3' : (j : Int) < (n3 : Int) := by omega
            have bI : (b : Int) < 2560 := by omega
            go_wp2_with fail
            go_loopw [15] (fun s15 wr => ∃ i : Nat, i ≤ j ∧ s15 = .int .i64 (i : Int) ∧ V4 = wr) (fun s15 _ => j - (intOf s15).toNat)
            case atStart => exact ⟨0, by omega, rfl, rfl⟩
            case round =>
              obtain ⟨i, hi, rfl, rfl⟩ := hrel
              by_cases ci : i < j
              · obtain ⟨y', hy'⟩ : ∃ y', L[i]? = some y' := ⟨_, List.getElem?_eq_getElem (by omega)⟩
                have fy : y'.free = [] := Q1.out y' (List.mem_of_getElem? (i := i) (by rw [List.getElem?_take, if_pos ci]; exact hy'))
                obtain ⟨gx, ox, ex, _, _, s1⟩ := spans_get R3.out hy'
                injection ex with ex
                injection ex with ex1 ex2
                subst ex1
                subst ex2
                rw [fy] at s1
                have s1 : V4.cell? ⟨g3, o3 + i * 2 + 1, none⟩ = some (.int .i64 0) := s1
                clear hy' fy
                go_wp2_with fail
                refine ⟨⟨i + 1, by omega, by go_num, by first | trivial | rfl⟩, ?_⟩
                simp [intOf]; omega
              · obtain rfl : i = j := by omega
                obtain ⟨gx, ox, ex, _, s0, s1⟩ := spans_get R3.out Q2.out
                injection ex with ex
                injection ex with ex1 ex2
                subst ex1
                subst ex2
                have s1 : V4.cell? ⟨g3, o3 + i * 2 + 1, none⟩ = some (.int .i64 ((r.length : Int) + 1)) := s1
                have s0 : V4.cell? ⟨g3, o3 + i * 2, none⟩ = some (.int .i64 (pg : Int)) := s0
                have rz : ((r.length : Int) + 1 == 0) = false := by simp only [beq_eq_false_iff_ne, ne_eq]; omega
                obtain ⟨gy, oy, b2', ey, _, hb2, _, l0⟩ := R2.out.getN n2p
                injection ey with ey
                injection ey with ey1 ey2
                subst ey1
                subst ey2
                obtain rfl : b2' = b := by rw [Q6.out] at hb2; exact (Option.some.inj hb2).symm
                rw [Nat.add_zero] at l0
                clear hb2 hb'
                have q1 : IntKind.i64.wrap ((b2' : Int) / 64) = (b2' : Int) / 64 := IntWalk.i64_in _ (by omega)
                have q2 : IntKind.i64.wrap ((b2' : Int) / 64 / 8) = (b2' : Int) / 64 / 8 := IntWalk.i64_in _ (by omega)
                have q3 : IntKind.i64.wrap ((b2' : Int) / 64 / 8 * 8) = (pg : Int) := by rw [IntWalk.i64_in _ (by omega)]; exact pof
                have n3z : ((i : Int) == (n3 : Int)) = false := by simp only [beq_eq_false_iff_ne, ne_eq]; omega
                have OO := Lib.hid (T4.out.tk.alloc (.cells #[.int .i64 (b2' : Int)] 3))
                have R1 := Lib.hid (RsI.one V4 (b2' : Int) ⟨by omega, by omega⟩ V4.heap.size rfl)
                have T5 := Lib.hid (T4.out.old ((Kept.refl Old V4).alloc (.cells #[.int .i64 (b2' : Int)] 3)))
                clear pof rm
                go_wp2_with (at_builtin; refine app_wpI rfl (.tmp 122) (.tmp 124) rfl rfl w.heap.size (.slice A tl.length cp) tl.length tl rfl OO.out (some ⟨V4.heap.size, 0, none⟩) 1 1 [(b2' : Int)] rfl R1.out (by intro h; cases h) (by omega) (by omega) T5.out.kept.size (tl.length + 1) rfl (tl ++ [(b2' : Int)]) rfl ?_; intro v6 w6 O6 k6 a6; obtain ⟨A6, c6, rfl, _⟩ := O6.out.rs; have T6 := Lib.hid (T5.out.app (l' := tl ++ [(b2' : Int)]) (by rw [List.length_append]; exact O6.out) k6.out a6.out))
                have tle := Lib.hid (show (tl ++ [(b2' : Int)]).length = tl.length + 1 by simp)
                refine ⟨⟨k + 2, _, A6, c6, tl ++ [(b2' : Int)], by omega, by rw [tle.out]; omega, by go_num, by rw [tle.out], by rw [tle.out]; exact T6, M4⟩, ?_⟩
                simp [intOf]; omega
        · have e3 : decide ((x : Int) % 6 < 4) = false := decide_eq_false (by omega)
          clear e0 e2
          by_cases tz : tl.length = 0
          · have tz' : decide ((tl.length : Int) > 0) = false := decide_eq_false (by omega)
            go_wp2_with fail
            refine ⟨⟨k + 2, L, A, cp, tl, by omega, by omega, by go_num, by first | rfl | trivial, T, M⟩, ?_⟩
            simp [intOf]; omega
          · obtain ⟨At, ct, et, rt, _, _⟩ := T.out.tk.rs
            injection et with et1 et2 et3
            subst et1
            subst et3
            have ml : y % tl.length < tl.length := Nat.mod_lt _ (by omega)
            obtain ⟨gt, ot, qv, rfl, _, hq, _, cq⟩ := rt.get ml
            have tm : (y : Int) % (tl.length : Int) = ((y % tl.length : Nat) : Int) := by omega
            have tn : ((tl.length : Int) == 0) = false := by simp only [beq_eq_false_iff_ne, ne_eq]; omega
            have tn' : ¬ (tl.length : Int) = 0 := by omega
            generalize y % tl.length = m at *
            have wm : IntKind.i64.wrap (m : Int) = (m : Int) := IntWalk.i64_in _ (by omega)
            have ml' : (m : Int) < (tl.length : Int) := by omega
            have tz' : decide ((tl.length : Int) > 0) = true := decide_eq_true (by omega)
            clear hq rt
            go_wp2_with fail
            refine (st_put qv T.out.st).mono ?_
            rintro e V2 ⟨rfl, s2, k2⟩
            have T2 := Lib.hid (T.out.turn s2 k2)
            have M2 := Lib.hid (M.out.put (c := c) qv)
            clear s2 k2
            go_wp2
            refine ⟨⟨k + 2, _, _, cp, tl, by omega, by omega, by go_num, by first | rfl | trivial, T2, M2⟩, ?_⟩
            simp [intOf]; omega
    · have cc : ¬ (k : Int) + 1 < (len1 : Int) ∨ ((k : Int) + 1 < (len1 : Int) ∧ ¬ (k : Int) < 300) := by omega
      have K := Lib.hid T.out.kept
      clear ck hz HS T
      rcases cc with ca | ⟨ca, cb⟩
      all_goals
        go_wp2_with fail
        refine (awake_any _).mono ?_
        rintro e w9 ⟨rfl, k9⟩
        go_wp2_with fail
        go_ret
        exact ⟨rfl, K.out.trans k9⟩

/-- The row's step. -/
theorem lifted (os : Os) (started : os.Started) (H : Type) (enc : TypeId × Value → H) :
    ReturnsInHanded {} Try.checked os 7 .any (Rows.poolLowSpec.pre6 enc Try.prog Try.f7 Rows.poolLowRow.domain false) (Rows.poolLowSpec.post enc Try.prog Try.f7 false true false false) := by
  refine returnsInHanded_of_change (C := Try.checked) own started (by kernel_rfl) Try.func7
    (ChangeSpec.witness6 (enc := enc) (C := Try.checked) false ⟨#[], #[.int .u8 0, .slice none 0 0], []⟩ 8 (by kernel_rfl) (by kernel_rfl) (by kernel_rfl) (by kernel_rfl)) ?_
  intro W base args ds gs before hval0 hW hcnd _
  have hval : ∀ (j : Nat) t v, Try.f7.params[j]? = some t → args[j]? = some v → Value.okWide Try.prog W .any base t v := hval0
  have hW' := hW
  obtain ⟨p, q, hA0, hV, rfl, hfz, hnd⟩ := hW
  have hA : DataW.TrodAll enc Try.prog W 0 (fun _ => true) true Try.f7.params.toList args.toList ds p := hA0
  rw [Try.params7] at hA hval
  obtain ⟨v0, vs0, d0, ds0, p0, q0, hargs, rfl, rfl, h0, r0⟩ := trodAll_cons hA
  obtain ⟨v1, vs1, d1, ds1, p1, q1, rfl, rfl, rfl, h1, r1⟩ := trodAll_cons r0
  obtain ⟨rfl, rfl, rfl⟩ := trodAll_nil r1
  obtain rfl : args = #[v0, v1] := by cases args; simp_all
  obtain ⟨rfl, rfl⟩ := trodVars_none hV
  obtain ⟨a0, rfl, rfl, rfl, w0⟩ := open_int Try.underlying5 (hval 0 5 v0 rfl rfl) h0
  have k1 := h1
  have lt1 : ∀ x ∈ p1, x.block < W.heap.size := by obtain ⟨m, hm⟩ := k1; exact DataW.trod_lt m _ _ _ hm
  obtain ⟨a1, len1, cap1, rfl⟩ := okWide_slice Try.underlying22 (hval 1 22 v1 rfl rfl)
  obtain ⟨z1, w1⟩ := ints_in Try.underlying22 Try.underlying5 (by kernel_rfl) h1
  clear hA0 hval0
  refine (walk a0 a1 len1 cap1 z1 W w0 w1).mono fun e W' ⟨he, kept⟩ => ?_
  subst he
  have bel : Below W.heap.size W W' := kept.toBelow (Nat.le_refl _) (fun _ x => x.elim)
  exact ⟨_, rfl, _, _, _, [], _, [], hW', trodAll_mk1 (shut_bool Try.underlying4 _), (trodAll_cons_mk (shut_int Try.underlying5 w0) (trodAll_cons_mk (Below.trod laidOut (by kernel_rfl) (of_decide_eq_true (by kernel_rfl)) k1 bel lt1) trodAll_mk0)), rfl, bel.frame _, fun h => by cases h⟩

theorem over : Rows.PoolLowSaid :=
  OpenClaim.holds_of_wide 7 Try.f7 rfl rfl rfl rfl rfl rfl rfl ⟨rfl, rfl, rfl, rfl, rfl⟩ rfl rfl rfl rfl rfl (by kernel_rfl) Try.func7 (by kernel_rfl)
    (of_decide_eq_true (by kernel_rfl)) (by unfold Func.isWrapper; first | (rw [if_pos (by decide +kernel)]; kernel_rfl) | (rw [if_neg (by decide +kernel)]; exact ⟨rfl, rfl⟩))
    (fun os started H enc _ => lifted os started H enc)

/-- The statement. -/
theorem proved : Rows.PoolLowSaid := over
#print axioms proved
end Go.Proofs.Ytmkkkifigeaalaa.poolLow
