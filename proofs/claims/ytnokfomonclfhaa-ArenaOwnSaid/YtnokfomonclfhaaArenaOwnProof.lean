/-
  For every input the law ArenaOwn of rickyard/rickyardlaw3 returns true, and its arguments read afterwards as before. The law's own sentence: A slice is new memory; another arena has nothing in common with it; what is refused changes nothing. No further conditions.
-/
import Derived.Test.YtnokfomonclfhaaRows
import Derived.WalkKit
import Derived.ProofKit
import Derived.OpenShut
import Derived.ShutString
import Derived.ChangeOld
import Derived.Below
import Derived.Test.YtnokfomonclfhaaArenaDo
import Derived.Test.YtnokfomonclfhaaArenaLaid
import Derived.Deep.DeepCutAuto
namespace Go.Proofs.Ytnokfomonclfhaa.arenaOwn
open Go.ChangeShapes Go.WideShapes Go.ChangeAt Go.RowKit
open Go.ChangeMaps (open_string shut_string)
set_option linter.unusedVariables false

theorem own : ownKnob Try.prog.godebug = none := by kernel_rfl
theorem laidOut : laidOutB Try.prog = true := by kernel_rfl

/-- WHAT THE WALK IS TOLD OF A SLICE OF INTEGERS THAT CAME IN: it is nil; or it leads to a row of 'cap' cells, the numbers 'zs' (the first 'len' are its elements, the rest its spare room), each fitting its kind. -/
def IsRow (k : IntKind) (w : World) (a : Option Addr) (len cap : Nat) (zs : List Int) : Prop :=
  (a = none ∧ len = 0 ∧ cap = 0 ∧ zs = []) ∨
  ∃ x, a = some x ∧ len ≤ cap ∧ cap ≤ maxLen ∧ zs.length = cap ∧ (∀ i, i < zs.length → w.cell? (x.add i) = some (.int k (zs.getD i 0))) ∧ ∀ n ∈ zs, (Lit.int k n).wf = true

theorem and_bad {a b : Bool} (h : b = false) : (a && b) = false := by rw [h, Bool.and_false]
theorem far_bad (z : Int) (h : z < 0 ∨ 128 ≤ z) : thereB 128 z 1 = false := decide_eq_false (by omega)
/-! ### STEP 1: THE WALK: the Go text returns true, AND WRITES NOTHING THAT WAS THERE: 'Below w.heap.size w w'' (Derived/Below.lean: '.refl', '.alloc', '.drew', '.setCell' at a new block, '.trans'). Open each 'IsRow' by 'rcases' AHEAD of 'go_enter'; part every test ahead of the walk. -/
set_option maxRecDepth 100000 in
theorem walk (a0 : Option Addr) (len0 cap0 : Nat) (z0 : List Int) (a1 : Int) (a2 : Int) (a3 : Int) (w : World) (w0 : IsRow .u64 w a0 len0 cap0 z0) (w1 : (Lit.int .u8 a1).wf = true) (w2 : (Lit.int .u64 a2).wf = true) (w3 : (Lit.int .i64 a3).wf = true) :
    Calls Try.prog 7 #[.slice a0 len0 cap0, .int .u8 a1, .int .u64 a2, .int .i64 a3] w fun e w' => e = .returned (.bool true) ∧ Below w.heap.size w w' := by
  obtain ⟨xs, rd⟩ := rd_of w0
  have b1 := bounds_u8 w1
  have b2 := bounds_u64 w2
  have b3 := bounds_i64 w3
  obtain ⟨n, rfl⟩ : ∃ n : Nat, a1 = n := ⟨a1.toNat, by omega⟩
  obtain ⟨v, rfl⟩ : ∃ n : Nat, a2 = n := ⟨a2.toNat, by omega⟩
  obtain ⟨I, hI⟩ : ∃ I : Nat, n % 128 = I := ⟨_, rfl⟩
  have hI1 : I < 128 := by omega
  have hI2 : (n : Int) % 128 = (I : Int) := by omega
  have hL := Lib.hid (laid_any 2 a0 len0 cap0 xs w (by omega) (by omega) rd)
  clear w0 rd w1 w2 w3 hI
  go_enter Try.func7, Try.ntmps7
  go_wp2_with fail
  refine hL.out.mono ?_
  rintro e w1 ⟨p, g, h, rfl, L⟩
  obtain ⟨ws, hws⟩ : ∃ ws, ws = laidL (2 * 64) (min (2 * 64) xs.length) xs := ⟨_, rfl⟩
  have hlen : ws.length = 128 := by rw [hws]; exact laid_length _ _ _ (by omega)
  have A1 := Lib.hid L.ar
  have R1 := Lib.hid L.row
  rw [← hws] at A1 R1
  have K1 := Lib.hid L.kept
  have HL := Lib.hid hlen
  clear L hL hws hlen
  have hL := Lib.hid (laid_any 2 none 0 0 [] w1 (by omega) (by omega) ⟨rfl, fun x hx => (by cases hx), fun h => absurd h (by omega)⟩)
  go_wp2_with fail
  refine hL.out.mono ?_
  rintro e w2 ⟨p', g', h', rfl, L⟩
  obtain ⟨zs, hzs⟩ : ∃ zs, zs = laidL (2 * 64) (min (2 * 64) ([] : List Nat).length) [] := ⟨_, rfl⟩
  have hlen : zs.length = 128 := by rw [hzs]; exact laid_length _ _ _ (by omega)
  have A2 := Lib.hid L.ar
  have R2 := Lib.hid L.row
  rw [← hzs] at A2 R2
  have B1 := Lib.hid (A1.out.kept L.kept (fun x => x) (fun x => x))
  have S1 := Lib.hid (R1.out.kept L.kept (fun x => x))
  have K2 := Lib.hid (K1.out.trans L.kept)
  have HZ := Lib.hid hlen
  have s1 := Lib.hid (slice_ok I 1 _ B1.out (by rw [HL.out]; omega))
  clear L hL hzs hlen A1 R1 K1
  go_wp2_with fail
  refine s1.out.mono ?_
  rintro e w3 ⟨b, rfl, r3, k3, hb3⟩
  have lt3 := r3.lt
  obtain ⟨y, _, c3⟩ := r3.has (i := 0) (by rw [cutL_length _ _ _ (by rw [HL.out]; omega)]; omega)
  have f3 := r3.frozen 0
  have k4 : Kept (Only b) w3 (w3.setCell ⟨b, 0, none⟩ (.int .u64 (v : Int))) := only_setCell _ _ _ _
  have q4 : Kept Old w2 (w3.setCell ⟨b, 0, none⟩ (.int .u64 (v : Int))) := k3.join k4 (fun i hi e => by omega)
  have B4 := Lib.hid (B1.out.kept q4 (fun x => x) (fun x => x))
  have S4 := Lib.hid (S1.out.kept q4 (fun x => x))
  have A4 := Lib.hid (A2.out.kept q4 (fun x => x) (fun x => x))
  have R4 := Lib.hid (R2.out.kept q4 (fun x => x))
  have K4 := Lib.hid (K2.out.trans q4)
  clear r3 k3 k4 q4 A2 R2 B1 S1 K2 s1
  have t1 : Hid (∀ z : Int, z < 0 ∨ 128 ≤ z → thereB ws.length z 1 = false) := by have := HL.out; show ∀ z : Int, _; rw [this]; exact far_bad
  have t4 : Hid (thereB ws.length 0 (-1) = false) := Lib.hid (decide_eq_false (by omega))
  have t5 : Hid (thereB ws.length 0 129 = false) := by have := HL.out; show _ = _; rw [this]; rfl
  have q1 := words_any 128 _ B4.out S4.out
  rw [HL.out] at q1
  have Q1 := Lib.hid q1
  clear q1
  rcases (show a3 < 0 ∨ (0 ≤ a3 ∧ a3 < 128) ∨ 128 ≤ a3 by omega) with c | ⟨c, c'⟩ | c
  all_goals
    try (have c' : ¬ a3 < 128 := by omega)
    try (have c'' : 0 ≤ a3 := by omega)
    go_wp2_with fail
    refine (store_bad _ _ _ B4.out (t1.out _ (by omega)) (by omega) (by omega)).mono ?_
    rintro e w' ⟨rfl, rfl⟩
    go_wp2_with fail
    refine (fill_bad _ _ _ _ B4.out (t1.out _ (by omega)) (by omega) (by omega)).mono ?_
    rintro e w' ⟨rfl, rfl⟩
    go_wp2_with fail
    refine (copy_bad _ _ _ _ B4.out (by rw [t1.out _ (by omega)]; exact Bool.false_and _) (by omega) (by omega) (by omega) (by omega)).mono ?_
    rintro e w' ⟨rfl, rfl⟩
    go_wp2_with fail
    refine (copy_bad _ _ _ _ B4.out (and_bad (t1.out _ (by omega))) (by omega) (by omega) (by omega) (by omega)).mono ?_
    rintro e w' ⟨rfl, rfl⟩
    go_wp2_with fail
    refine (fill_bad _ _ _ _ B4.out t4.out (by omega) (by omega)).mono ?_
    rintro e w' ⟨rfl, rfl⟩
    go_wp2_with fail
    refine (fill_bad _ _ _ _ B4.out t5.out (by omega) (by omega)).mono ?_
    rintro e w' ⟨rfl, rfl⟩
    go_wp2_with fail
    refine Q1.out.mono ?_
    rintro e w5 ⟨rfl, k5⟩
    have q2 := words_any 128 _ (A4.out.kept k5 (fun x => x) (fun x => x)) (R4.out.kept k5 (fun x => x))
    rw [HZ.out] at q2
    have Q2 := Lib.hid q2
    have K5 := Lib.hid (K4.out.trans k5)
    clear q2 k5
    go_wp2_with fail
    refine Q2.out.mono ?_
    rintro e w6 ⟨rfl, k6⟩
    go_wp2_with fail
    refine (awake_any _).mono ?_
    rintro e w7 ⟨rfl, k7⟩
    go_wp2_with fail
    go_ret
    exact ⟨rfl, old_below ((K5.out.trans k6).trans k7)⟩

/-! ### THE ROW's STEP: WRITTEN OUT: LEAVE IT -/
set_option maxRecDepth 100000 in
theorem lifted (os : Os) (started : os.Started) (H : Type) (enc : TypeId × Value → H) :
    ReturnsInHanded {} Try.checked os 7 .any (Rows.arenaOwnSpec.pre6 enc Try.prog Try.f7 Rows.arenaOwnRow.domain false) (Rows.arenaOwnSpec.post enc Try.prog Try.f7 false true false false) := by
  refine returnsInHanded_of_change (C := Try.checked) own started (by kernel_rfl) Try.func7
    (ChangeSpec.witness6 (enc := enc) (C := Try.checked) false ⟨#[], #[.slice none 0 0, .int .u8 0, .int .u64 0, .int .i64 0], []⟩ 8 (by kernel_rfl) (by kernel_rfl) (by kernel_rfl) (by kernel_rfl)) ?_
  intro W base args ds gs before hval0 hW hcnd _
  have hval : ∀ (j : Nat) t v, Try.f7.params[j]? = some t → args[j]? = some v → Value.okWide Try.prog W .any base t v := hval0
  have hW' := hW
  obtain ⟨p, q, hA0, hV, rfl, hfz, hnd⟩ := hW
  have hA : DataW.TrodAll enc Try.prog W 0 (fun _ => true) true Try.f7.params.toList args.toList ds p := hA0
  rw [Try.params7] at hA hval
  obtain ⟨v0, vs0, d0, ds0, p0, q0, hargs, rfl, rfl, h0, r0⟩ := trodAll_cons hA
  obtain ⟨v1, vs1, d1, ds1, p1, q1, rfl, rfl, rfl, h1, r1⟩ := trodAll_cons r0
  obtain ⟨v2, vs2, d2, ds2, p2, q2, rfl, rfl, rfl, h2, r2⟩ := trodAll_cons r1
  obtain ⟨v3, vs3, d3, ds3, p3, q3, rfl, rfl, rfl, h3, r3⟩ := trodAll_cons r2
  obtain ⟨rfl, rfl, rfl⟩ := trodAll_nil r3
  obtain rfl : args = #[v0, v1, v2, v3] := by cases args; simp_all
  obtain ⟨rfl, rfl⟩ := trodVars_none hV
  obtain ⟨a0, len0, cap0, rfl⟩ := okWide_slice Try.underlying24 (hval 0 24 v0 rfl rfl)
  have k0 := h0
  have lt0 : ∀ x ∈ p0, x.block < W.heap.size := by obtain ⟨m, hm⟩ := k0; exact DataW.trod_lt m _ _ _ hm
  obtain ⟨z0, w0⟩ : ∃ zs, IsRow .u64 W a0 len0 cap0 zs := by
    obtain ⟨fuel, hf⟩ := h0
    rcases open_ints Try.underlying24 Try.underlying29 (by kernel_rfl) hf with ⟨hcs, _⟩ | ⟨x, l, c, zs, hcs, _, hl, hm, hz, _, hcell, hwz⟩
    · simp [Value.cells] at hcs
      obtain ⟨rfl, rfl, rfl⟩ := hcs
      exact ⟨[], .inl ⟨rfl, rfl, rfl, rfl⟩⟩
    · simp [Value.cells] at hcs
      obtain ⟨rfl, rfl, rfl⟩ := hcs
      exact ⟨zs, .inr ⟨_, rfl, hl, hm, by simpa using hz, hcell, hwz⟩⟩
  obtain ⟨a1, rfl, rfl, rfl, w1⟩ := open_int Try.underlying5 (hval 1 5 v1 rfl rfl) h1
  obtain ⟨a2, rfl, rfl, rfl, w2⟩ := open_int Try.underlying29 (hval 2 29 v2 rfl rfl) h2
  obtain ⟨a3, rfl, rfl, rfl, w3⟩ := open_int Try.underlying3 (hval 3 3 v3 rfl rfl) h3
  clear hA0 hval0
  refine (walk a0 len0 cap0 z0 a1 a2 a3 W w0 w1 w2 w3).mono fun e W' ⟨he, bel⟩ => ?_
  subst he
  exact ⟨_, rfl, _, _, _, [], _, [], hW', trodAll_mk1 (shut_bool Try.underlying4 _), (trodAll_cons_mk (Below.trod laidOut (by kernel_rfl) (of_decide_eq_true (by kernel_rfl)) k0 bel lt0) (trodAll_cons_mk (shut_int Try.underlying5 w1) (trodAll_cons_mk (shut_int Try.underlying29 w2) (trodAll_cons_mk (shut_int Try.underlying3 w3) trodAll_mk0)))), rfl, bel.frame _, fun h => by cases h⟩

theorem over : Rows.arenaOwnRow.holds Try.pinned (OpenSpec.ofChange Rows.arenaOwnSpec) :=
  OpenClaim.holds_of_wide 7 Try.f7 rfl rfl rfl rfl rfl rfl rfl ⟨rfl, rfl, rfl, rfl, rfl⟩ rfl rfl rfl rfl rfl (by kernel_rfl) Try.func7 (by kernel_rfl)
    (of_decide_eq_true (by kernel_rfl)) (by unfold Func.isWrapper; first | (rw [if_pos (by decide +kernel)]; kernel_rfl) | (rw [if_neg (by decide +kernel)]; exact ⟨rfl, rfl⟩))
    (fun os started H enc _ => lifted os started H enc)

/-- ████ THE STATEMENT ████ -/
theorem proved : Rows.ArenaOwnSaid := over
#print axioms proved
end Go.Proofs.Ytnokfomonclfhaa.arenaOwn
