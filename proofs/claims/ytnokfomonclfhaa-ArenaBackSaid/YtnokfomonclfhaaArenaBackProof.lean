/-
  For every input the law ArenaBack of rickyard/rickyardlaw3 returns true, and its arguments read afterwards as before. The law's own sentence: A copy there and back leaves the words; what is stored is loaded until something else is stored there. No further conditions.
-/
import Derived.Test.YtnokfomonclfhaaRows
import Derived.WalkKit
import Derived.ProofKit
import Derived.OpenShut
import Derived.ShutString
import Derived.ChangeOld
import Derived.Below
import Derived.Test.YtnokfomonclfhaaArenaDo
import Derived.Test.YtnokfomonclfhaaArenaLaid
import Derived.Deep.DeepCutAuto
namespace Go.Proofs.Ytnokfomonclfhaa.arenaBack
open Go.ChangeShapes Go.WideShapes Go.ChangeAt Go.RowKit
open Go.ChangeMaps (open_string shut_string)
set_option linter.unusedVariables false

theorem own : ownKnob Try.prog.godebug = none := by kernel_rfl
theorem laidOut : laidOutB Try.prog = true := by kernel_rfl

/-- WHAT THE WALK IS TOLD OF A SLICE OF INTEGERS THAT CAME IN: it is nil; or it leads to a row of 'cap' cells, the numbers 'zs' (the first 'len' are its elements, the rest its spare room), each fitting its kind. -/
def IsRow (k : IntKind) (w : World) (a : Option Addr) (len cap : Nat) (zs : List Int) : Prop :=
  (a = none ∧ len = 0 ∧ cap = 0 ∧ zs = []) ∨
  ∃ x, a = some x ∧ len ≤ cap ∧ cap ≤ maxLen ∧ zs.length = cap ∧ (∀ i, i < zs.length → w.cell? (x.add i) = some (.int k (zs.getD i 0))) ∧ ∀ n ∈ zs, (Lit.int k n).wf = true

theorem back_same (ws : List Nat) (F K : Nat) (hl : ws.length = 128) (h : F + K ≤ 64) : cutL (movedL (movedL ws (64 + F) F K) F (64 + F) K) 0 64 = cutL ws 0 64 := by
  have l1 : (movedL ws (64 + F) F K).length = 128 := by rw [moved_length _ _ _ _ (by omega) (by omega)]; exact hl
  apply List.ext_getElem?
  intro i
  rw [cutL_get, cutL_get]
  by_cases c : i < 64
  · rw [if_pos c, if_pos c, Nat.zero_add]
    rw [copyL_get _ _ _ (by rw [cutL_length _ _ _ (by omega)]; omega), cutL_length _ _ _ (by omega)]
    by_cases d : i < F
    · rw [if_pos d, copyL_get _ _ _ (by rw [cutL_length _ _ _ (by omega)]; omega), if_pos (by omega)]
    · rw [if_neg d]
      by_cases e : i < F + K
      · rw [if_pos e, cutL_get, if_pos (by omega), copyL_get _ _ _ (by rw [cutL_length _ _ _ (by omega)]; omega), cutL_length _ _ _ (by omega), if_neg (by omega), if_pos (by omega), cutL_get, if_pos (by omega)]
        congr 1
        omega
      · rw [if_neg e, copyL_get _ _ _ (by rw [cutL_length _ _ _ (by omega)]; omega), if_pos (by omega)]
  · rw [if_neg c, if_neg c]
/-! ### STEP 1: THE WALK: the Go text returns true, AND WRITES NOTHING THAT WAS THERE: 'Below w.heap.size w w'' (Derived/Below.lean: '.refl', '.alloc', '.drew', '.setCell' at a new block, '.trans'). Open each 'IsRow' by 'rcases' AHEAD of 'go_enter'; part every test ahead of the walk. -/
set_option maxRecDepth 100000 in
theorem walk (a0 : Option Addr) (len0 cap0 : Nat) (z0 : List Int) (a1 : Int) (a2 : Int) (a3 : Int) (a4 : Int) (a5 : Int) (w : World) (w0 : IsRow .u64 w a0 len0 cap0 z0) (w1 : (Lit.int .u8 a1).wf = true) (w2 : (Lit.int .u8 a2).wf = true) (w3 : (Lit.int .u8 a3).wf = true) (w4 : (Lit.int .u8 a4).wf = true) (w5 : (Lit.int .u64 a5).wf = true) :
    Calls Try.prog 6 #[.slice a0 len0 cap0, .int .u8 a1, .int .u8 a2, .int .u8 a3, .int .u8 a4, .int .u64 a5] w fun e w' => e = .returned (.bool true) ∧ Below w.heap.size w w' := by
  obtain ⟨xs, rd⟩ := rd_of w0
  have b1 := bounds_u8 w1
  have b2 := bounds_u8 w2
  have b3 := bounds_u8 w3
  have b4 := bounds_u8 w4
  have b5 := bounds_u64 w5
  obtain ⟨f, rfl⟩ : ∃ n : Nat, a1 = n := ⟨a1.toNat, by omega⟩
  obtain ⟨n, rfl⟩ : ∃ n : Nat, a2 = n := ⟨a2.toNat, by omega⟩
  obtain ⟨x, rfl⟩ : ∃ n : Nat, a3 = n := ⟨a3.toNat, by omega⟩
  obtain ⟨y, rfl⟩ : ∃ n : Nat, a4 = n := ⟨a4.toNat, by omega⟩
  obtain ⟨v, rfl⟩ : ∃ n : Nat, a5 = n := ⟨a5.toNat, by omega⟩
  have hL := Lib.hid (laid_any 2 a0 len0 cap0 xs w (by omega) (by omega) rd)
  clear w0 rd w1 w2 w3 w4 w5
  go_enter Try.func6, Try.ntmps6
  go_wp2_with fail
  refine hL.out.mono ?_
  rintro e w1 ⟨p, g, h, rfl, L⟩
  obtain ⟨ws, hws⟩ : ∃ ws, ws = laidL (2 * 64) (min (2 * 64) xs.length) xs := ⟨_, rfl⟩
  have hlen : ws.length = 128 := by rw [hws]; exact laid_length _ _ _ (by omega)
  have A1 := Lib.hid L.ar
  have R1 := Lib.hid L.row
  rw [← hws] at A1 R1
  have NE := Lib.hid L.ne
  have K1 := Lib.hid L.kept
  have GB := L.gB
  have HL := Lib.hid hlen
  clear L hL hws hlen
  go_upto_region 5 with fail
  go_cut [15, 16] (fun v15 v16 wx => ∃ F K : Nat, F < 64 ∧ F + K ≤ 64 ∧ v15 = .int .i64 (F : Int) ∧ v16 = .int .i64 (K : Int) ∧ w1 = wx)
  case first =>
    go_wp2_with fail
    all_goals (go_meet; exact ⟨f % 64, min (n % 65) (64 - f % 64), by omega, by omega, by go_num, by (congr 1; omega), rfl⟩)
  case rest =>
    obtain ⟨F, K, hF, hK, rfl, rfl, rfl⟩ := hcut
    have c1 := copy_ok (64 + F) F K _ A1.out (by rw [HL.out]; omega) (by rw [HL.out]; omega)
    rw [show ((64 + F : Nat) : Int) = 64 + (F : Int) by omega] at c1
    have C1 := Lib.hid c1
    clear c1
    go_wp2_with fail
    refine C1.out.mono ?_
    rintro e w2 ⟨rfl, A2, K2⟩
    have l2 : (movedL ws (64 + F) F K).length = 128 := by rw [moved_length _ _ _ _ (by rw [HL.out]; omega) (by rw [HL.out]; omega)]; exact HL.out
    have c2 := copy_ok F (64 + F) K _ A2 (by omega) (by omega)
    rw [show ((64 + F : Nat) : Int) = 64 + (F : Int) by omega] at c2
    have C2 := Lib.hid c2
    have L2 := Lib.hid l2
    have R2 := Lib.hid (R1.out.kept K2 (fun e => NE.out e.symm))
    have K2' := Lib.hid (K1.out.join K2 (fun i hi e => by omega))
    clear c2 A2 K2 A1 R1 K1 C1 l2
    go_wp2_with fail
    refine C2.out.mono ?_
    rintro e w3 ⟨rfl, A3, K3⟩
    have l3 : (movedL (movedL ws (64 + F) F K) F (64 + F) K).length = 128 := by rw [moved_length _ _ _ _ (by rw [L2.out]; omega) (by rw [L2.out]; omega)]; exact L2.out
    have E3 := Lib.hid (back_same ws F K HL.out hK)
    obtain ⟨vs, hvs⟩ : ∃ vs, vs = movedL (movedL ws (64 + F) F K) F (64 + F) K := ⟨_, rfl⟩
    rw [← hvs] at A3 l3 E3
    have s3 := Lib.hid (slice_ok 0 64 _ A3 (by omega))
    have R3 := Lib.hid (R2.out.kept K3 (fun e => NE.out e.symm))
    have K3' := Lib.hid (K2'.out.join K3 (fun i hi e => by omega))
    have A3' := Lib.hid A3
    have L3 := Lib.hid l3
    clear hvs A3 K3 R2 K2' C2 l3
    go_wp2_with fail
    refine s3.out.mono ?_
    rintro e w4 ⟨g4, rfl, r4, k4, hg4⟩
    rw [E3.out] at r4
    have r4' := r4.rd
    rw [cutL_length _ _ _ (by rw [HL.out]; omega)] at r4'
    have RD4 := Lib.hid r4'
    have R4 := Lib.hid (R3.out.kept k4 (fun x => x))
    have K4 := Lib.hid (K3'.out.trans k4)
    have A4 := Lib.hid (A3'.out.kept k4 (fun x => x) (fun x => x))
    clear r4 r4' k4 A3' R3 K3' s3
    go_wp2_with fail
    refine (same_any _ _ 64 _ _ _ _ RD4.out (R4.out.cut 0 64 (by rw [HL.out]; omega) _ (fun _ => rfl)) (by omega)).mono ?_
    intro e w5 d
    obtain ⟨rfl, k5⟩ := d.old
    have A5 := Lib.hid (A4.out.kept k5 (fun x => x) (fun x => x))
    have K5 := Lib.hid (K4.out.trans k5)
    clear d k5 A4 K4 R4 RD4
    go_upto_region 11 with fail
    go_cut [19, 20] (fun v19 v20 wx => ∃ X Y : Nat, X < 128 ∧ Y < 128 ∧ v19 = .int .i64 (X : Int) ∧ v20 = .int .i64 (Y : Int) ∧ w5 = wx)
    case first =>
      go_wp2_with fail
      go_meet
      exact ⟨x % 128, y % 128, by omega, by omega, by go_num, by go_num, rfl⟩
    case rest =>
      obtain ⟨X, Y, hX, hY, rfl, rfl, rfl⟩ := hcut
      have hb := bounds_u64 (wf_wrap .u64 ((v : Int) + 1))
      obtain ⟨u, hu⟩ : ∃ u : Nat, IntKind.u64.wrap ((v : Int) + 1) = u := ⟨(IntKind.u64.wrap ((v : Int) + 1)).toNat, by omega⟩
      rw [hu] at hb
      go_wp2_with fail
      refine (store_ok X v _ A5.out (by rw [L3.out]; exact hX) (by omega)).mono ?_
      rintro e w6 ⟨rfl, A6, K6⟩
      have A6' := Lib.hid A6
      have K6' := Lib.hid (K5.out.join K6 (fun i hi e => by omega))
      clear A6 K6 A5 K5
      go_wp2_with fail
      refine (store_ok Y u _ A6'.out (by rw [List.length_set, L3.out]; exact hY) (by omega)).mono ?_
      rintro e w7 ⟨rfl, A7, K7⟩
      have A7' := Lib.hid A7
      have K7' := Lib.hid (K6'.out.join K7 (fun i hi e => by omega))
      clear A7 K7 A6' K6'
      by_cases c : X = Y
      · subst c
        have hl := Lib.hid (show ((vs.set X v).set X u)[X]? = some u by rw [List.getElem?_set_self (by rw [List.length_set, L3.out]; exact hX)])
        go_wp2_with fail
        refine (load_ok X u _ A7'.out hl.out).mono ?_
        rintro e w' ⟨rfl, rfl⟩
        go_wp2_with fail
        refine (awake_any _).mono ?_
        rintro e w8 ⟨rfl, K8⟩
        go_wp2_with fail
        go_ret
        exact ⟨rfl, old_below (K7'.out.trans K8)⟩
      · have hl := Lib.hid (show ((vs.set X v).set Y u)[X]? = some v by rw [List.getElem?_set_ne (fun e => c e.symm), List.getElem?_set_self (by rw [L3.out]; exact hX)])
        have c1 : ((X : Int) != (Y : Int)) = true := by simp; omega
        have c2 : ((X : Int) == (Y : Int)) = false := by simp; omega
        clear c
        go_wp2_with fail
        refine (load_ok X v _ A7'.out hl.out).mono ?_
        rintro e w' ⟨rfl, rfl⟩
        go_wp2_with fail
        refine (awake_any _).mono ?_
        rintro e w8 ⟨rfl, K8⟩
        go_wp2_with fail
        go_ret
        exact ⟨rfl, old_below (K7'.out.trans K8)⟩

/-! ### THE ROW's STEP: WRITTEN OUT: LEAVE IT -/
set_option maxRecDepth 100000 in
theorem lifted (os : Os) (started : os.Started) (H : Type) (enc : TypeId × Value → H) :
    ReturnsInHanded {} Try.checked os 6 .any (Rows.arenaBackSpec.pre6 enc Try.prog Try.f6 Rows.arenaBackRow.domain false) (Rows.arenaBackSpec.post enc Try.prog Try.f6 false true false false) := by
  refine returnsInHanded_of_change (C := Try.checked) own started (by kernel_rfl) Try.func6
    (ChangeSpec.witness6 (enc := enc) (C := Try.checked) false ⟨#[], #[.slice none 0 0, .int .u8 0, .int .u8 0, .int .u8 0, .int .u8 0, .int .u64 0], []⟩ 8 (by kernel_rfl) (by kernel_rfl) (by kernel_rfl) (by kernel_rfl)) ?_
  intro W base args ds gs before hval0 hW hcnd _
  have hval : ∀ (j : Nat) t v, Try.f6.params[j]? = some t → args[j]? = some v → Value.okWide Try.prog W .any base t v := hval0
  have hW' := hW
  obtain ⟨p, q, hA0, hV, rfl, hfz, hnd⟩ := hW
  have hA : DataW.TrodAll enc Try.prog W 0 (fun _ => true) true Try.f6.params.toList args.toList ds p := hA0
  rw [Try.params6] at hA hval
  obtain ⟨v0, vs0, d0, ds0, p0, q0, hargs, rfl, rfl, h0, r0⟩ := trodAll_cons hA
  obtain ⟨v1, vs1, d1, ds1, p1, q1, rfl, rfl, rfl, h1, r1⟩ := trodAll_cons r0
  obtain ⟨v2, vs2, d2, ds2, p2, q2, rfl, rfl, rfl, h2, r2⟩ := trodAll_cons r1
  obtain ⟨v3, vs3, d3, ds3, p3, q3, rfl, rfl, rfl, h3, r3⟩ := trodAll_cons r2
  obtain ⟨v4, vs4, d4, ds4, p4, q4, rfl, rfl, rfl, h4, r4⟩ := trodAll_cons r3
  obtain ⟨v5, vs5, d5, ds5, p5, q5, rfl, rfl, rfl, h5, r5⟩ := trodAll_cons r4
  obtain ⟨rfl, rfl, rfl⟩ := trodAll_nil r5
  obtain rfl : args = #[v0, v1, v2, v3, v4, v5] := by cases args; simp_all
  obtain ⟨rfl, rfl⟩ := trodVars_none hV
  obtain ⟨a0, len0, cap0, rfl⟩ := okWide_slice Try.underlying24 (hval 0 24 v0 rfl rfl)
  have k0 := h0
  have lt0 : ∀ x ∈ p0, x.block < W.heap.size := by obtain ⟨m, hm⟩ := k0; exact DataW.trod_lt m _ _ _ hm
  obtain ⟨z0, w0⟩ : ∃ zs, IsRow .u64 W a0 len0 cap0 zs := by
    obtain ⟨fuel, hf⟩ := h0
    rcases open_ints Try.underlying24 Try.underlying29 (by kernel_rfl) hf with ⟨hcs, _⟩ | ⟨x, l, c, zs, hcs, _, hl, hm, hz, _, hcell, hwz⟩
    · simp [Value.cells] at hcs
      obtain ⟨rfl, rfl, rfl⟩ := hcs
      exact ⟨[], .inl ⟨rfl, rfl, rfl, rfl⟩⟩
    · simp [Value.cells] at hcs
      obtain ⟨rfl, rfl, rfl⟩ := hcs
      exact ⟨zs, .inr ⟨_, rfl, hl, hm, by simpa using hz, hcell, hwz⟩⟩
  obtain ⟨a1, rfl, rfl, rfl, w1⟩ := open_int Try.underlying5 (hval 1 5 v1 rfl rfl) h1
  obtain ⟨a2, rfl, rfl, rfl, w2⟩ := open_int Try.underlying5 (hval 2 5 v2 rfl rfl) h2
  obtain ⟨a3, rfl, rfl, rfl, w3⟩ := open_int Try.underlying5 (hval 3 5 v3 rfl rfl) h3
  obtain ⟨a4, rfl, rfl, rfl, w4⟩ := open_int Try.underlying5 (hval 4 5 v4 rfl rfl) h4
  obtain ⟨a5, rfl, rfl, rfl, w5⟩ := open_int Try.underlying29 (hval 5 29 v5 rfl rfl) h5
  clear hA0 hval0
  refine (walk a0 len0 cap0 z0 a1 a2 a3 a4 a5 W w0 w1 w2 w3 w4 w5).mono fun e W' ⟨he, bel⟩ => ?_
  subst he
  exact ⟨_, rfl, _, _, _, [], _, [], hW', trodAll_mk1 (shut_bool Try.underlying4 _), (trodAll_cons_mk (Below.trod laidOut (by kernel_rfl) (of_decide_eq_true (by kernel_rfl)) k0 bel lt0) (trodAll_cons_mk (shut_int Try.underlying5 w1) (trodAll_cons_mk (shut_int Try.underlying5 w2) (trodAll_cons_mk (shut_int Try.underlying5 w3) (trodAll_cons_mk (shut_int Try.underlying5 w4) (trodAll_cons_mk (shut_int Try.underlying29 w5) trodAll_mk0)))))), rfl, bel.frame _, fun h => by cases h⟩

theorem over : Rows.arenaBackRow.holds Try.pinned (OpenSpec.ofChange Rows.arenaBackSpec) :=
  OpenClaim.holds_of_wide 6 Try.f6 rfl rfl rfl rfl rfl rfl rfl ⟨rfl, rfl, rfl, rfl, rfl⟩ rfl rfl rfl rfl rfl (by kernel_rfl) Try.func6 (by kernel_rfl)
    (of_decide_eq_true (by kernel_rfl)) (by unfold Func.isWrapper; first | (rw [if_pos (by decide +kernel)]; kernel_rfl) | (rw [if_neg (by decide +kernel)]; exact ⟨rfl, rfl⟩))
    (fun os started H enc _ => lifted os started H enc)

/-- ████ THE STATEMENT ████ -/
theorem proved : Rows.ArenaBackSaid := over
#print axioms proved
end Go.Proofs.Ytnokfomonclfhaa.arenaBack
