/-
  For every input the law ArenaCopies of rickyard/rickyardlaw3 returns true, and its arguments read afterwards as before. The law's own sentence: Behind a copy each word is what stood at its place, or at the place it was copied from, ahead of it, wherever both lie. No further conditions.
-/
import Derived.Test.YtnokfomonclfhaaRows
import Derived.WalkKit
import Derived.ProofKit
import Derived.OpenShut
import Derived.ShutString
import Derived.ChangeOld
import Derived.Below
import Derived.Test.YtnokfomonclfhaaArenaDo
import Derived.Test.YtnokfomonclfhaaArenaLaid
import Derived.Deep.DeepCutAuto
namespace Go.Proofs.Ytnokfomonclfhaa.arenaCopies
open Go.ChangeShapes Go.WideShapes Go.ChangeAt Go.RowKit
open Go.ChangeMaps (open_string shut_string)
set_option linter.unusedVariables false

theorem own : ownKnob Try.prog.godebug = none := by kernel_rfl
theorem laidOut : laidOutB Try.prog = true := by kernel_rfl

/-- WHAT THE WALK IS TOLD OF A SLICE OF INTEGERS THAT CAME IN: it is nil; or it leads to a row of 'cap' cells, the numbers 'zs' (the first 'len' are its elements, the rest its spare room), each fitting its kind. -/
def IsRow (k : IntKind) (w : World) (a : Option Addr) (len cap : Nat) (zs : List Int) : Prop :=
  (a = none ∧ len = 0 ∧ cap = 0 ∧ zs = []) ∨
  ∃ x, a = some x ∧ len ≤ cap ∧ cap ≤ maxLen ∧ zs.length = cap ∧ (∀ i, i < zs.length → w.cell? (x.add i) = some (.int k (zs.getD i 0))) ∧ ∀ n ∈ zs, (Lit.int k n).wf = true

theorem moved_in (ws : List Nat) (T F K i : Nat) (h : T + K ≤ ws.length) (h' : F + K ≤ ws.length) (h1 : T ≤ i) (h2 : i < T + K) : (movedL ws T F K)[i]? = ws[F + i - T]? := by
  rw [copyL_get _ _ _ (by rw [cutL_length _ _ _ h']; exact h), cutL_length _ _ _ h', if_neg (by omega), if_pos h2, cutL_get, if_pos (by omega)]
  congr 1
  omega
theorem moved_out (ws : List Nat) (T F K i : Nat) (h : T + K ≤ ws.length) (h' : F + K ≤ ws.length) (h1 : ¬ (T ≤ i ∧ i < T + K)) : (movedL ws T F K)[i]? = ws[i]? := by
  rw [copyL_get _ _ _ (by rw [cutL_length _ _ _ h']; exact h), cutL_length _ _ _ h']
  by_cases c : i < T
  · rw [if_pos c]
  · rw [if_neg c, if_neg (by omega)]
/-! ### STEP 1: THE WALK: the Go text returns true, AND WRITES NOTHING THAT WAS THERE: 'Below w.heap.size w w'' (Derived/Below.lean: '.refl', '.alloc', '.drew', '.setCell' at a new block, '.trans'). Open each 'IsRow' by 'rcases' AHEAD of 'go_enter'; part every test ahead of the walk. -/
set_option maxRecDepth 100000 in
theorem walk (a0 : Option Addr) (len0 cap0 : Nat) (z0 : List Int) (a1 : Int) (a2 : Int) (a3 : Int) (w : World) (w0 : IsRow .u64 w a0 len0 cap0 z0) (w1 : (Lit.int .u8 a1).wf = true) (w2 : (Lit.int .u8 a2).wf = true) (w3 : (Lit.int .u8 a3).wf = true) :
    Calls Try.prog 5 #[.slice a0 len0 cap0, .int .u8 a1, .int .u8 a2, .int .u8 a3] w fun e w' => e = .returned (.bool true) ∧ Below w.heap.size w w' := by
  obtain ⟨xs, rd⟩ := rd_of w0
  have b1 := bounds_u8 w1
  have b2 := bounds_u8 w2
  have b3 := bounds_u8 w3
  obtain ⟨f, rfl⟩ : ∃ n : Nat, a1 = n := ⟨a1.toNat, by omega⟩
  obtain ⟨t, rfl⟩ : ∃ n : Nat, a2 = n := ⟨a2.toNat, by omega⟩
  obtain ⟨n, rfl⟩ : ∃ n : Nat, a3 = n := ⟨a3.toNat, by omega⟩
  have hL := Lib.hid (laid_any 2 a0 len0 cap0 xs w (by omega) (by omega) rd)
  clear w0 rd w1 w2 w3
  go_enter Try.func5, Try.ntmps5
  go_wp2_with fail
  refine hL.out.mono ?_
  rintro e w1 ⟨p, g, h, rfl, L⟩
  obtain ⟨ws, hws⟩ : ∃ ws, ws = laidL (2 * 64) (min (2 * 64) xs.length) xs := ⟨_, rfl⟩
  have hlen : ws.length = 128 := by rw [hws]; exact laid_length _ _ _ (by omega)
  have A1 := Lib.hid L.ar
  have R1 := Lib.hid L.row
  rw [← hws] at A1 R1
  have NE := Lib.hid L.ne
  have K1 := Lib.hid L.kept
  have GB := L.gB
  have HL := Lib.hid hlen
  clear L hL hws hlen
  go_upto_region 5 with fail
  go_cut [11, 12, 13] (fun v11 v12 v13 wx => ∃ F T K : Nat, F < 128 ∧ T < 128 ∧ K ≤ 128 - F ∧ K ≤ 128 - T ∧ v11 = .int .i64 (F : Int) ∧ v12 = .int .i64 (T : Int) ∧ v13 = .int .i64 (K : Int) ∧ w1 = wx)
  case first =>
    go_wp2_with fail
    all_goals (go_meet; exact ⟨f % 128, t % 128, min n (128 - max (f % 128) (t % 128)), by omega, by omega, by omega, by omega, by go_num, by go_num, by (congr 1; omega), rfl⟩)
  case rest =>
    obtain ⟨F, T, K, hF, hT, hK1, hK2, rfl, rfl, rfl, rfl⟩ := hcut
    go_wp2_with fail
    refine (copy_ok T F K _ A1.out (by rw [HL.out]; omega) (by rw [HL.out]; omega)).mono ?_
    rintro e w2 ⟨rfl, A2, K2⟩
    have R2 := Lib.hid (R1.out.kept K2 (fun e => NE.out e.symm))
    have A2' := Lib.hid A2
    have K2' := Lib.hid (K1.out.join K2 (fun i hi e => by omega))
    clear A2 K2 A1 R1 K1
    go_wp2_with fail
    go_loop [14] (fun v => ∃ i : Nat, i ≤ 128 ∧ v = .int .i64 (i : Int)) (fun v => 128 - (intOf v).toNat)
    case atStart => exact ⟨0, by omega, rfl⟩
    case round =>
      obtain ⟨i, hi, rfl⟩ := hrel
      by_cases c : i < 128
      · have c' : (i : Int) < 128 := by omega
        obtain ⟨y, hy⟩ : ∃ y, ws[i]? = some y := ⟨_, List.getElem?_eq_getElem (by rw [HL.out]; exact c)⟩
        have cy := R2.out.at hy
        by_cases d : T ≤ i
        · by_cases d2 : i < T + K
          · obtain ⟨J, hJ⟩ : ∃ J, F + i - T = J := ⟨_, rfl⟩
            obtain ⟨x, hx⟩ : ∃ x, ws[J]? = some x := ⟨_, List.getElem?_eq_getElem (by rw [HL.out]; omega)⟩
            have cx := R2.out.at hx
            have hl := Lib.hid (show (movedL ws T F K)[i]? = some x by rw [moved_in ws T F K i (by rw [HL.out]; omega) (by rw [HL.out]; omega) d d2, hJ]; exact hx)
            have hJ' : (F : Int) + (i : Int) - (T : Int) = (J : Int) := by omega
            have hJ2 : J < 128 := by omega
            have d3 : (i : Int) < (T : Int) + (K : Int) := by omega
            clear hx hy hJ
            go_wp2_with fail
            refine (load_ok i x _ A2'.out hl.out).mono ?_
            rintro e w' ⟨rfl, rfl⟩
            clear hJ'
            go_wp2_with fail
            refine ⟨⟨i + 1, by omega, by go_num⟩, ?_⟩
            simp [intOf]; omega
          · have hl := Lib.hid (show (movedL ws T F K)[i]? = some y by rw [moved_out ws T F K i (by rw [HL.out]; omega) (by rw [HL.out]; omega) (by omega)]; exact hy)
            have d3 : ¬ (i : Int) < (T : Int) + (K : Int) := by omega
            clear hy
            go_wp2_with fail
            refine (load_ok i y _ A2'.out hl.out).mono ?_
            rintro e w' ⟨rfl, rfl⟩
            go_wp2_with fail
            refine ⟨⟨i + 1, by omega, by go_num⟩, ?_⟩
            simp [intOf]; omega
        · have hl := Lib.hid (show (movedL ws T F K)[i]? = some y by rw [moved_out ws T F K i (by rw [HL.out]; omega) (by rw [HL.out]; omega) (by omega)]; exact hy)
          clear hy
          go_wp2_with fail
          refine (load_ok i y _ A2'.out hl.out).mono ?_
          rintro e w' ⟨rfl, rfl⟩
          go_wp2_with fail
          refine ⟨⟨i + 1, by omega, by go_num⟩, ?_⟩
          simp [intOf]; omega
      · have c' : ¬ (i : Int) < 128 := by omega
        go_wp2_with fail
        refine (awake_any _).mono ?_
        rintro e w3 ⟨rfl, K3⟩
        go_wp2_with fail
        go_ret
        exact ⟨rfl, old_below (K2'.out.trans K3)⟩

/-! ### THE ROW's STEP: WRITTEN OUT: LEAVE IT -/
set_option maxRecDepth 100000 in
theorem lifted (os : Os) (started : os.Started) (H : Type) (enc : TypeId × Value → H) :
    ReturnsInHanded {} Try.checked os 5 .any (Rows.arenaCopiesSpec.pre6 enc Try.prog Try.f5 Rows.arenaCopiesRow.domain false) (Rows.arenaCopiesSpec.post enc Try.prog Try.f5 false true false false) := by
  refine returnsInHanded_of_change (C := Try.checked) own started (by kernel_rfl) Try.func5
    (ChangeSpec.witness6 (enc := enc) (C := Try.checked) false ⟨#[], #[.slice none 0 0, .int .u8 0, .int .u8 0, .int .u8 0], []⟩ 8 (by kernel_rfl) (by kernel_rfl) (by kernel_rfl) (by kernel_rfl)) ?_
  intro W base args ds gs before hval0 hW hcnd _
  have hval : ∀ (j : Nat) t v, Try.f5.params[j]? = some t → args[j]? = some v → Value.okWide Try.prog W .any base t v := hval0
  have hW' := hW
  obtain ⟨p, q, hA0, hV, rfl, hfz, hnd⟩ := hW
  have hA : DataW.TrodAll enc Try.prog W 0 (fun _ => true) true Try.f5.params.toList args.toList ds p := hA0
  rw [Try.params5] at hA hval
  obtain ⟨v0, vs0, d0, ds0, p0, q0, hargs, rfl, rfl, h0, r0⟩ := trodAll_cons hA
  obtain ⟨v1, vs1, d1, ds1, p1, q1, rfl, rfl, rfl, h1, r1⟩ := trodAll_cons r0
  obtain ⟨v2, vs2, d2, ds2, p2, q2, rfl, rfl, rfl, h2, r2⟩ := trodAll_cons r1
  obtain ⟨v3, vs3, d3, ds3, p3, q3, rfl, rfl, rfl, h3, r3⟩ := trodAll_cons r2
  obtain ⟨rfl, rfl, rfl⟩ := trodAll_nil r3
  obtain rfl : args = #[v0, v1, v2, v3] := by cases args; simp_all
  obtain ⟨rfl, rfl⟩ := trodVars_none hV
  obtain ⟨a0, len0, cap0, rfl⟩ := okWide_slice Try.underlying24 (hval 0 24 v0 rfl rfl)
  have k0 := h0
  have lt0 : ∀ x ∈ p0, x.block < W.heap.size := by obtain ⟨m, hm⟩ := k0; exact DataW.trod_lt m _ _ _ hm
  obtain ⟨z0, w0⟩ : ∃ zs, IsRow .u64 W a0 len0 cap0 zs := by
    obtain ⟨fuel, hf⟩ := h0
    rcases open_ints Try.underlying24 Try.underlying29 (by kernel_rfl) hf with ⟨hcs, _⟩ | ⟨x, l, c, zs, hcs, _, hl, hm, hz, _, hcell, hwz⟩
    · simp [Value.cells] at hcs
      obtain ⟨rfl, rfl, rfl⟩ := hcs
      exact ⟨[], .inl ⟨rfl, rfl, rfl, rfl⟩⟩
    · simp [Value.cells] at hcs
      obtain ⟨rfl, rfl, rfl⟩ := hcs
      exact ⟨zs, .inr ⟨_, rfl, hl, hm, by simpa using hz, hcell, hwz⟩⟩
  obtain ⟨a1, rfl, rfl, rfl, w1⟩ := open_int Try.underlying5 (hval 1 5 v1 rfl rfl) h1
  obtain ⟨a2, rfl, rfl, rfl, w2⟩ := open_int Try.underlying5 (hval 2 5 v2 rfl rfl) h2
  obtain ⟨a3, rfl, rfl, rfl, w3⟩ := open_int Try.underlying5 (hval 3 5 v3 rfl rfl) h3
  clear hA0 hval0
  refine (walk a0 len0 cap0 z0 a1 a2 a3 W w0 w1 w2 w3).mono fun e W' ⟨he, bel⟩ => ?_
  subst he
  exact ⟨_, rfl, _, _, _, [], _, [], hW', trodAll_mk1 (shut_bool Try.underlying4 _), (trodAll_cons_mk (Below.trod laidOut (by kernel_rfl) (of_decide_eq_true (by kernel_rfl)) k0 bel lt0) (trodAll_cons_mk (shut_int Try.underlying5 w1) (trodAll_cons_mk (shut_int Try.underlying5 w2) (trodAll_cons_mk (shut_int Try.underlying5 w3) trodAll_mk0)))), rfl, bel.frame _, fun h => by cases h⟩

theorem over : Rows.arenaCopiesRow.holds Try.pinned (OpenSpec.ofChange Rows.arenaCopiesSpec) :=
  OpenClaim.holds_of_wide 5 Try.f5 rfl rfl rfl rfl rfl rfl rfl ⟨rfl, rfl, rfl, rfl, rfl⟩ rfl rfl rfl rfl rfl (by kernel_rfl) Try.func5 (by kernel_rfl)
    (of_decide_eq_true (by kernel_rfl)) (by unfold Func.isWrapper; first | (rw [if_pos (by decide +kernel)]; kernel_rfl) | (rw [if_neg (by decide +kernel)]; exact ⟨rfl, rfl⟩))
    (fun os started H enc _ => lifted os started H enc)

/-- ████ THE STATEMENT ████ -/
theorem proved : Rows.ArenaCopiesSaid := over
#print axioms proved
end Go.Proofs.Ytnokfomonclfhaa.arenaCopies
