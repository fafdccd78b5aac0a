/-
  For every input the law ChainRuns of rickyard/rickyardlaw9 returns true, and its arguments read afterwards as before. The law's own sentence: Whatever is pushed and popped, places twice too: each answer, and all words, are the document's. No further conditions.
-/
import Derived.Test.YtnhgimglefpbaaaRows
import Derived.Test.YtnhgimglefpbaaaKept
import Derived.Test.YtnhgimglefpbaaaShell
import Derived.Test.YtnhgimglefpbaaaShellInts
import Derived.WalkKit
import Derived.ProofKit
import Derived.OpenShut
import Derived.ChangeOld
import Derived.Below
import Derived.Lib.SmallJoins
import Derived.Test.YtnhgimglefpbaaaChainLaw
import Derived.Test.YtnhgimglefpbaaaArenaLaid
import Derived.Test.YtnhgimglefpbaaaRdIn
import Derived.Deep.DeepCutAuto
namespace Go.Proofs.Ytnhgimglefpbaaa.chainRuns
open Go.ChangeShapes Go.WideShapes Go.ChangeAt Go.RowKit
set_option linter.unusedVariables false
set_option maxRecDepth 100000

theorem own : ownKnob Try.prog.godebug = none := by kernel_rfl
theorem laidOut : laidOutB Try.prog = true := by kernel_rfl
/-- The arena, and the document's words beside it. -/
structure Side (w : World) (p g : Nat) (ws : List Nat) (A : Option Addr) (W : World) : Prop where
  ar : Ar W p g ws
  rd : Rd W A 128 ws
  far : ∀ ad, A = some ad → ad.block ≠ g
  kept : Kept Old w W
  gB : w.heap.size ≤ g
theorem Side.len {w : World} {p g : Nat} {ws : List Nat} {A : Option Addr} {W : World} (s : Side w p g ws A W) : ws.length = 128 := s.rd.len

set_option maxHeartbeats 8000000 in
/-- The walk: the Go text returns true, and nothing that was there has turned. -/
theorem walk (a0 : Option Addr) (len0 cap0 : Nat) (z0 : Nat → Int) (a1 : Option Addr) (len1 cap1 : Nat) (z1 : Nat → Int) (w : World) (w0 : len0 ≤ cap0 ∧ cap0 ≤ maxLen ∧ (∀ i, i < len0 → (Lit.int .u64 (z0 i)).wf = true) ∧ Sl w a0 1 len0 fun i _ => .int .u64 (z0 i)) (w1 : len1 ≤ cap1 ∧ cap1 ≤ maxLen ∧ (∀ i, i < len1 → (Lit.int .u8 (z1 i)).wf = true) ∧ Sl w a1 1 len1 fun i _ => .int .u8 (z1 i)) :
    Calls Try.prog 3 #[.slice a0 len0 cap0, .slice a1 len1 cap1] w fun e w' => e = .returned (.bool true) ∧ Kept Old w w' := by
  obtain ⟨xs, rd⟩ := rd_sl w0.2.2.1 w0.2.2.2
  obtain ⟨_, q2, hz, hs⟩ := w1
  have hn : len1 ≤ 9223372036854775807 := by have : len1 ≤ maxLen := by omega
                                             simpa [maxLen] using this
  have HZ := Lib.hid hz
  have HS := Lib.hid hs
  have hL := Lib.hid (laid_any 2 a0 len0 cap0 xs w (by omega) (by omega) rd)
  clear rd w0 hz hs q2
  go_enter Try.func3, Try.ntmps3
  go_wp2_with fail
  refine hL.out.mono ?_
  rintro e w1 ⟨p, g, h, rfl, L⟩
  have S := Lib.hid (show Side w p g (laidL (2 * 64) (min (2 * 64) xs.length) xs) (some ⟨h, 0, none⟩) w1 from
    ⟨L.ar, by have := L.row.rd; rwa [laid_length _ _ _ (by omega)] at this, fun ad e => by injection e with e; subst e; exact fun e => L.ne e.symm, L.kept, L.gB⟩)
  clear L hL
  go_wp2_with fail
  go_loopw [6, 7, 8] (fun s6 s7 s8 wr => ∃ (k hd c : Nat) (ws : List Nat) (A : Option Addr), k ≤ len1 ∧ k ≤ 300 ∧ hd ≤ 128 ∧ s6 = .slice A 128 c ∧ s7 = .int .i64 (hd : Int) ∧ s8 = .int .i64 (k : Int) ∧ Hid (Side w p g ws A wr)) (fun _ _ s8 _ => 300 - (intOf s8).toNat)
  case atStart => exact ⟨0, 0, _, _, _, by omega, by omega, by omega, rfl, rfl, rfl, S⟩
  case round =>
    obtain ⟨k, hd, c, ws, A, hk, hk3, hhd, rfl, rfl, rfl, U⟩ := hrel
    rename World => W
    by_cases d : k < len1 ∧ k < 300
    · obtain ⟨d1, d2⟩ := d
      obtain ⟨b, o, rfl, hb, hc⟩ := (HS.out.old U.out.kept).lies (by omega)
      have c1 := hc k 0 d1 (by omega)
      simp only [Nat.mul_one, Nat.add_zero] at c1
      have bz := bounds_u8 (HZ.out k d1)
      obtain ⟨y, hy⟩ : ∃ y : Nat, z1 k = y := ⟨(z1 k).toNat, by omega⟩
      rw [hy] at c1 bz
      clear hc hy
      have A1 := Lib.hid U.out.ar
      have R1 := Lib.hid U.out.rd
      have HL := Lib.hid U.out.len
      have d3 : decide ((k : Int) < 300) = true := decide_eq_true (by omega)
      by_cases f : y % 3 = 0
      · have em : Int.tmod (y : Int) 3 = 0 := by rw [Int.tmod_eq_emod_of_nonneg (by omega)]; omega
        clear f
        have pv := popV_in ws hd
        rw [HL.out] at pv
        have P1 := Lib.hid (pop_any (hd : Int) W A1.out)
        have P2 := Lib.hid (rpop_any A 128 c ws (hd : Int) W R1.out (by omega))
        obtain ⟨u1, hu1⟩ : ∃ u, (popV ws hd).1 = u := ⟨_, rfl⟩
        obtain ⟨u3, hu3⟩ : ∃ u, (popV ws hd).2.2 = u := ⟨_, rfl⟩
        obtain ⟨u2, hu2⟩ : ∃ u : Nat, (popV ws hd).2.1 = u := ⟨(popV ws hd).2.1.toNat, by omega⟩
        rw [hu1, hu2, hu3] at P1 P2
        rw [hu2] at pv
        clear hu1 hu2 hu3
        go_wp2_with fail
        refine P1.out.mono ?_
        rintro e w' ⟨rfl, rfl⟩
        go_wp2_with fail
        refine P2.out.mono ?_
        rintro e w' ⟨rfl, rfl⟩
        go_wp2_with fail
        refine ⟨⟨k + 1, u2, c, ws, A, by omega, by omega, by omega, rfl, rfl, by go_num, U⟩, ?_⟩
        simp [intOf]; omega
      · have F := Lib.hid f
        have em : ((y : Int) % 3 == 0) = false := by simp; omega
        have ey : IntKind.i64.wrap ((y : Int) - 10) = (y : Int) - 10 := IntWalk.i64_in _ (by omega)
        clear f
        by_cases q : 10 ≤ y ∧ y < 138
        · obtain ⟨q1, q2⟩ := q
          obtain ⟨t, ht⟩ : ∃ t : Nat, y = t + 10 := ⟨y - 10, by omega⟩
          subst ht
          have em : (((t : Int) + 10) % 3 == 0) = false := by have := F.out; simp; omega
          have ey : IntKind.i64.wrap ((t : Int) + 10 - 10) = (t : Int) := (IntWalk.i64_in _ (by omega)).trans (by omega)
          have P1 := Lib.hid (push_ok hd t W A1.out (by rw [HL.out]; exact hhd) (by rw [HL.out]; omega))
          go_wp2_with fail
          refine P1.out.mono ?_
          rintro e W1 ⟨rfl, a2, k2⟩
          have R2 := Lib.hid (R1.out.kept k2 U.out.far)
          have A2 := Lib.hid a2
          have hbg : b ≠ g := by
            obtain ⟨b', o', e', hb', _⟩ := HS.out.lies (by omega)
            injection e' with e'
            injection e' with e'
            have := U.out.gB
            omega
          have c2 := (k2.cell (p := ⟨b, o + k, none⟩) hb hbg).trans c1
          have K2 := Lib.hid (U.out.kept.join k2 (fun i hi e => by have := U.out.gB; omega))
          have P2 := Lib.hid (rpush_ok A 128 c ws hd t W1 R2.out (by omega) (by omega) hhd)
          clear c1 a2 k2
          go_wp2_with fail
          refine P2.out.mono ?_
          rintro e W2 ⟨g2, cp2, rfl, r2, hg2, k3⟩
          have S2 := Lib.hid (show Side w p g (ws.set t hd) (some ⟨g2, 0, none⟩) W2 from
            ⟨A2.out.kept k3 (fun x => x) (fun x => x), r2, fun ad e => by injection e with e; subst e; have := A2.out.row.lt; show g2 ≠ g; omega, K2.out.trans k3, U.out.gB⟩)
          clear r2 k3
          go_wp2_with fail
          refine ⟨⟨k + 1, t + 1, cp2, _, _, by omega, by omega, by omega, rfl, by go_num, by go_num, S2⟩, ?_⟩
          simp [intOf]; omega
        · have P1 := Lib.hid (push_at hd ((y : Int) - 10) W A1.out (by rw [HL.out]; exact hhd) (by rw [HL.out]; omega) (by omega) (by omega))
          have P2 := Lib.hid (rpush_bad A 128 c (hd : Int) ((y : Int) - 10) W (by omega) (by omega))
          clear q
          go_wp2_with fail
          refine P1.out.mono ?_
          rintro e w' ⟨rfl, rfl⟩
          go_wp2_with fail
          refine P2.out.mono ?_
          rintro e w' ⟨rfl, rfl⟩
          go_wp2_with fail
          refine ⟨⟨k + 1, hd, c, ws, A, by omega, by omega, by omega, rfl, rfl, by go_num, U⟩, ?_⟩
          simp [intOf]; omega
    · by_cases d1 : k < len1
      · have d3 : decide ((k : Int) < 300) = false := decide_eq_false (by omega)
        clear d
        go_wp2_with fail
        refine (words_rd _ _ _ _ U.out.ar U.out.rd).mono ?_
        rintro e w2 ⟨rfl, k2⟩
        go_wp2_with fail
        refine (awake9_any _).mono ?_
        rintro e w3 ⟨rfl, k3⟩
        go_wp2_with fail
        go_ret
        exact ⟨rfl, (U.out.kept.trans k2).trans k3⟩
      · clear d
        go_wp2_with fail
        refine (words_rd _ _ _ _ U.out.ar U.out.rd).mono ?_
        rintro e w2 ⟨rfl, k2⟩
        go_wp2_with fail
        refine (awake9_any _).mono ?_
        rintro e w3 ⟨rfl, k3⟩
        go_wp2_with fail
        go_ret
        exact ⟨rfl, (U.out.kept.trans k2).trans k3⟩

/-- The row's step. -/
theorem lifted (os : Os) (started : os.Started) (H : Type) (enc : TypeId × Value → H) :
    ReturnsInHanded {} Try.checked os 3 .any (Rows.chainRunsSpec.pre6 enc Try.prog Try.f3 Rows.chainRunsRow.domain false) (Rows.chainRunsSpec.post enc Try.prog Try.f3 false true false false) := by
  refine returnsInHanded_of_change (C := Try.checked) own started (by kernel_rfl) Try.func3
    (ChangeSpec.witness6 (enc := enc) (C := Try.checked) false ⟨#[], #[.slice none 0 0, .slice none 0 0], []⟩ 8 (by kernel_rfl) (by kernel_rfl) (by kernel_rfl) (by kernel_rfl)) ?_
  intro W base args ds gs before hval0 hW hcnd _
  have hval : ∀ (j : Nat) t v, Try.f3.params[j]? = some t → args[j]? = some v → Value.okWide Try.prog W .any base t v := hval0
  have hW' := hW
  obtain ⟨p, q, hA0, hV, rfl, hfz, hnd⟩ := hW
  have hA : DataW.TrodAll enc Try.prog W 0 (fun _ => true) true Try.f3.params.toList args.toList ds p := hA0
  rw [Try.params3] at hA hval
  obtain ⟨v0, vs0, d0, ds0, p0, q0, hargs, rfl, rfl, h0, r0⟩ := trodAll_cons hA
  obtain ⟨v1, vs1, d1, ds1, p1, q1, rfl, rfl, rfl, h1, r1⟩ := trodAll_cons r0
  obtain ⟨rfl, rfl, rfl⟩ := trodAll_nil r1
  obtain rfl : args = #[v0, v1] := by cases args; simp_all
  obtain ⟨rfl, rfl⟩ := trodVars_none hV
  have k0 := h0
  have lt0 : ∀ x ∈ p0, x.block < W.heap.size := by obtain ⟨m, hm⟩ := k0; exact DataW.trod_lt m _ _ _ hm
  obtain ⟨a0, len0, cap0, rfl⟩ := okWide_slice Try.underlying22 (hval 0 22 v0 rfl rfl)
  obtain ⟨z0, w0⟩ := ints_in Try.underlying22 Try.underlying47 (by kernel_rfl) h0
  have k1 := h1
  have lt1 : ∀ x ∈ p1, x.block < W.heap.size := by obtain ⟨m, hm⟩ := k1; exact DataW.trod_lt m _ _ _ hm
  obtain ⟨a1, len1, cap1, rfl⟩ := okWide_slice Try.underlying23 (hval 1 23 v1 rfl rfl)
  obtain ⟨z1, w1⟩ := ints_in Try.underlying23 Try.underlying5 (by kernel_rfl) h1
  clear hA0 hval0
  refine (walk a0 len0 cap0 z0 a1 len1 cap1 z1 W w0 w1).mono fun e W' ⟨he, kept⟩ => ?_
  subst he
  have bel : Below W.heap.size W W' := kept.toBelow (Nat.le_refl _) (fun _ x => x.elim)
  exact ⟨_, rfl, _, _, _, [], _, [], hW', trodAll_mk1 (shut_bool Try.underlying4 _), (trodAll_cons_mk (Below.trod laidOut (by kernel_rfl) (of_decide_eq_true (by kernel_rfl)) k0 bel lt0) (trodAll_cons_mk (Below.trod laidOut (by kernel_rfl) (of_decide_eq_true (by kernel_rfl)) k1 bel lt1) trodAll_mk0)), rfl, bel.frame _, fun h => by cases h⟩

theorem over : Rows.ChainRunsSaid :=
  OpenClaim.holds_of_wide 3 Try.f3 rfl rfl rfl rfl rfl rfl rfl ⟨rfl, rfl, rfl, rfl, rfl⟩ rfl rfl rfl rfl rfl (by kernel_rfl) Try.func3 (by kernel_rfl)
    (of_decide_eq_true (by kernel_rfl)) (by unfold Func.isWrapper; first | (rw [if_pos (by decide +kernel)]; kernel_rfl) | (rw [if_neg (by decide +kernel)]; exact ⟨rfl, rfl⟩))
    (fun os started H enc _ => lifted os started H enc)

/-- The statement. -/
theorem proved : Rows.ChainRunsSaid := over
#print axioms proved
end Go.Proofs.Ytnhgimglefpbaaa.chainRuns
