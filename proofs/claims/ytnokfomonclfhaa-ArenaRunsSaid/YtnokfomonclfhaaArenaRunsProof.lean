/-
  For every input the law ArenaRuns of rickyard/rickyardlaw3 returns true, and its arguments read afterwards as before. The law's own sentence: Whatever is loaded, stored, copied, filled, sliced: each answer, and all words, are those of a list of words. No further conditions.
-/
import Derived.Test.YtnokfomonclfhaaRows
import Derived.WalkKit
import Derived.ProofKit
import Derived.OpenShut
import Derived.ShutString
import Derived.ChangeOld
import Derived.Below
import Derived.Test.YtnokfomonclfhaaArenaDo
import Derived.Test.YtnokfomonclfhaaArenaLaid
namespace Go.Proofs.Ytnokfomonclfhaa.arenaRuns
open Go.ChangeShapes Go.WideShapes Go.ChangeAt Go.RowKit
open Go.ChangeMaps (open_string shut_string)
set_option linter.unusedVariables false

theorem own : ownKnob Try.prog.godebug = none := by kernel_rfl
theorem laidOut : laidOutB Try.prog = true := by kernel_rfl

/-- WHAT THE WALK IS TOLD OF A SLICE OF INTEGERS THAT CAME IN: it is nil; or it leads to a row of 'cap' cells, the numbers 'zs' (the first 'len' are its elements, the rest its spare room), each fitting its kind. -/
def IsRow (k : IntKind) (w : World) (a : Option Addr) (len cap : Nat) (zs : List Int) : Prop :=
  (a = none ∧ len = 0 ∧ cap = 0 ∧ zs = []) ∨
  ∃ x, a = some x ∧ len ≤ cap ∧ cap ≤ maxLen ∧ zs.length = cap ∧ (∀ i, i < zs.length → w.cell? (x.add i) = some (.int k (zs.getD i 0))) ∧ ∀ n ∈ zs, (Lit.int k n).wf = true

theorem w64 (x : Int) : -9223372036854775808 ≤ wrap64 x ∧ wrap64 x ≤ 9223372036854775807 := by unfold wrap64; omega
/-- A slice of small numbers that came in: of each place there is a number. -/
theorem row16 {w : World} {a : Option Addr} {len cap : Nat} {zs : List Int} (h : IsRow .u16 w a len cap zs) :
    len ≤ 9223372036854775807 ∧ (0 < len → ∃ b o, a = some ⟨b, o, none⟩ ∧ b < w.heap.size ∧ ∀ i, i < len → ∃ z : Int, 0 ≤ z ∧ z ≤ 65535 ∧ w.cell? ⟨b, o + i, none⟩ = some (.int .u16 z)) := by
  rcases h with ⟨rfl, rfl, _, _⟩ | ⟨x, rfl, h1, h2, h3, h4, h5⟩
  · exact ⟨by omega, fun h => absurd h (by omega)⟩
  · unfold maxLen at h2
    refine ⟨by omega, fun hn => ?_⟩
    obtain ⟨b, o, s⟩ := x
    have c0 := h4 0 (by omega)
    have hs : s = none := by simpa [Addr.add] using World.cell?_spot c0
    subst hs
    refine ⟨b, o, rfl, ?_, fun i hi => ?_⟩
    · have := block_lt_of_cell c0
      rw [addr_add] at this
      exact this
    · have c := h4 i (by omega)
      rw [addr_add] at c
      have hm : zs.getD i 0 ∈ zs := by
        rw [List.getD_eq_getElem?_getD, List.getElem?_eq_getElem (by omega), Option.getD_some]
        exact List.getElem_mem _
      have := bounds_u16 (h5 _ hm)
      exact ⟨_, this.1, this.2, c⟩
/-! ### STEP 1: THE WALK: the Go text returns true, AND WRITES NOTHING THAT WAS THERE: 'Below w.heap.size w w'' (Derived/Below.lean: '.refl', '.alloc', '.drew', '.setCell' at a new block, '.trans'). Open each 'IsRow' by 'rcases' AHEAD of 'go_enter'; part every test ahead of the walk. -/
set_option maxRecDepth 100000 in
theorem walk (a0 : Int) (a1 : Option Addr) (len1 cap1 : Nat) (z1 : List Int) (w : World) (w0 : (Lit.int .u8 a0).wf = true) (w1 : IsRow .u16 w a1 len1 cap1 z1) :
    Calls Try.prog 3 #[.int .u8 a0, .slice a1 len1 cap1] w fun e w' => e = .returned (.bool true) ∧ Below w.heap.size w w' := by
  obtain ⟨hl, hrow⟩ := row16 w1
  have b0 := bounds_u8 w0
  obtain ⟨m, rfl⟩ : ∃ m : Nat, a0 = m := ⟨a0.toNat, by omega⟩
  obtain ⟨M, hM⟩ : ∃ M : Nat, 1 + m % 3 = M := ⟨_, rfl⟩
  have hM1 : 1 ≤ M := by omega
  have hM2 : M ≤ 3 := by omega
  have hM3 : 1 + (m : Int) % 3 = (M : Int) := by omega
  have HR := Lib.hid hrow
  have hL := Lib.hid (laid_any M none 0 0 [] w (by omega) (by omega) ⟨rfl, fun x hx => (by cases hx), fun h => absurd h (by omega)⟩)
  clear w0 w1 hrow hM
  go_enter Try.func3, Try.ntmps3
  go_wp2_with fail
  refine hL.out.mono ?_
  rintro e w1 ⟨p, g, h, rfl, L⟩
  have S := Lib.hid (show Pair (M * 64) p g h w w1 from ⟨⟨_, L.ar, L.row, laid_length _ _ _ (by omega)⟩, L.kept, L.pB, L.gB, L.hB, L.ne, L.ph⟩)
  clear L hL hM3
  go_wp2_with fail
  go_loopw [7] (fun v wr => ∃ i : Nat, i ≤ 504 ∧ v = .int .i64 (i : Int) ∧ Hid (Pair (M * 64) p g h w wr)) (fun v _ => 504 - (intOf v).toNat)
  case atStart => exact ⟨0, by omega, rfl, S⟩
  case round =>
    obtain ⟨i, hi, rfl, P⟩ := hrel
    rename World => W
    by_cases c : i + 4 < len1
    · have c' : (i : Int) + 4 < (len1 : Int) := by omega
      by_cases d : i < 500
      · have d' : (i : Int) < 500 := by omega
        obtain ⟨b, o, rfl, hb, hz⟩ := HR.out (by omega)
        obtain ⟨z0, z00, z01, c0⟩ := hz i (by omega)
        obtain ⟨z1, z10, z11, c1⟩ := hz (i + 1) (by omega)
        obtain ⟨z2, z20, z21, c2⟩ := hz (i + 2) (by omega)
        obtain ⟨z3, z30, z31, c3⟩ := hz (i + 3) (by omega)
        obtain ⟨z4, z40, z41, c4⟩ := hz (i + 4) (by omega)
        have kc : ∀ j, W.cell? ⟨b, o + j, none⟩ = w.cell? ⟨b, o + j, none⟩ := fun j => P.out.kept.cell (p := ⟨b, o + j, none⟩) hb (fun x => x)
        rw [← kc] at c0 c1 c2 c3 c4
        clear kc hz
        have P1 := Lib.hid P.out.drew
        go_wp2_with fail
        have d0 : World.cell? { heap := W.heap, tape := W.tape, drawn := W.drawn + 1, os := W.os, output := W.output } ⟨b, o + i, none⟩ = some (.int .u16 z0) := c0
        have d1 : World.cell? { heap := W.heap, tape := W.tape, drawn := W.drawn + 1, os := W.os, output := W.output } ⟨b, o + (i + 1), none⟩ = some (.int .u16 z1) := c1
        have d2 : World.cell? { heap := W.heap, tape := W.tape, drawn := W.drawn + 1, os := W.os, output := W.output } ⟨b, o + (i + 2), none⟩ = some (.int .u16 z2) := c2
        have d3 : World.cell? { heap := W.heap, tape := W.tape, drawn := W.drawn + 1, os := W.os, output := W.output } ⟨b, o + (i + 3), none⟩ = some (.int .u16 z3) := c3
        have d4 : World.cell? { heap := W.heap, tape := W.tape, drawn := W.drawn + 1, os := W.os, output := W.output } ⟨b, o + (i + 4), none⟩ = some (.int .u16 z4) := c4
        have e1 : IntKind.i64.wrap ((i : Int) + 1) = (i : Int) + 1 := IntWalk.i64_in _ (by omega)
        have e2 : IntKind.i64.wrap ((i : Int) + 2) = (i : Int) + 2 := IntWalk.i64_in _ (by omega)
        have e3 : IntKind.i64.wrap ((i : Int) + 3) = (i : Int) + 3 := IntWalk.i64_in _ (by omega)
        have e4 : IntKind.i64.wrap ((i : Int) + 4) = (i : Int) + 4 := IntWalk.i64_in _ (by omega)
        have t1 : ((i : Int) + 1).toNat = i + 1 := by omega
        have t2 : ((i : Int) + 2).toNat = i + 2 := by omega
        have t3 : ((i : Int) + 3).toNat = i + 3 := by omega
        have t4 : ((i : Int) + 4).toNat = i + 4 := by omega
        have s0 : (i : Int) < (len1 : Int) := by omega
        have s1 : (i : Int) + 1 < (len1 : Int) := by omega
        have s2 : (i : Int) + 2 < (len1 : Int) := by omega
        have s3 : (i : Int) + 3 < (len1 : Int) := by omega
        have r1 : (0 : Int) ≤ (i : Int) + 1 := by omega
        have r2 : (0 : Int) ≤ (i : Int) + 2 := by omega
        have r3 : (0 : Int) ≤ (i : Int) + 3 := by omega
        have r4 : (0 : Int) ≤ (i : Int) + 4 := by omega
        have eM : IntKind.i64.wrap ((M : Int) * 64 + 3) = (M : Int) * 64 + 3 := IntWalk.i64_in _ (by omega)
        have qM : ¬ (M : Int) * 64 + 3 = 0 := by omega
        have qM2 : ((M : Int) * 64 + 3 == 0) = false := by simpa using qM
        have qM3 : ((M : Int) * 64 + 3 == -1) = false := by simp; omega
        have y0 : IntKind.i64.wrap z0 = z0 := IntWalk.i64_in _ (by omega)
        have y1 : IntKind.i64.wrap z1 = z1 := IntWalk.i64_in _ (by omega)
        have y2 : IntKind.i64.wrap z2 = z2 := IntWalk.i64_in _ (by omega)
        have y3 : IntKind.i64.wrap z3 = z3 := IntWalk.i64_in _ (by omega)
        go_still_tail 48, (by kernel_rfl)
        change wpList _ _ _ _ _ W.drew
        clear d0 d1 d2 d3 d4 e1 e2 e3 e4 t1 t2 t3 t4 eM qM qM2 qM3 y0 y1 y2 y3 c0 c1 c2 c3 c4
        go_wp2_with fail
        refine (P1.out.do _ _ _ _ _ (w64 _).1 (w64 _).2 (w64 _).1 (w64 _).2 (bounds_u64 (wf_bits _ .u64 _ _)).1 (bounds_u64 (wf_bits _ .u64 _ _)).2).mono ?_
        rintro e W2 ⟨rfl, P2⟩
        have P2' := Lib.hid P2
        clear P2 P1 P
        go_wp2_with fail
        refine ⟨⟨i + 5, by omega, by go_num, P2'⟩, ?_⟩
        simp [intOf]; omega
      · have d' : ¬ (i : Int) < 500 := by omega
        go_wp2_with fail
        refine (P.out.words _).mono ?_
        rintro e W1 ⟨rfl, K1⟩
        go_wp2_with fail
        refine (awake_any _).mono ?_
        rintro e w' ⟨rfl, K2⟩
        go_wp2_with fail
        go_ret
        exact ⟨rfl, old_below (K1.trans K2)⟩
    · have c' : ¬ (i : Int) + 4 < (len1 : Int) := by omega
      go_wp2_with fail
      refine (P.out.words _).mono ?_
      rintro e W1 ⟨rfl, K1⟩
      go_wp2_with fail
      refine (awake_any _).mono ?_
      rintro e w' ⟨rfl, K2⟩
      go_wp2_with fail
      go_ret
      exact ⟨rfl, old_below (K1.trans K2)⟩

/-! ### THE ROW's STEP: WRITTEN OUT: LEAVE IT -/
set_option maxRecDepth 100000 in
theorem lifted (os : Os) (started : os.Started) (H : Type) (enc : TypeId × Value → H) :
    ReturnsInHanded {} Try.checked os 3 .any (Rows.arenaRunsSpec.pre6 enc Try.prog Try.f3 Rows.arenaRunsRow.domain false) (Rows.arenaRunsSpec.post enc Try.prog Try.f3 false true false false) := by
  refine returnsInHanded_of_change (C := Try.checked) own started (by kernel_rfl) Try.func3
    (ChangeSpec.witness6 (enc := enc) (C := Try.checked) false ⟨#[], #[.int .u8 0, .slice none 0 0], []⟩ 8 (by kernel_rfl) (by kernel_rfl) (by kernel_rfl) (by kernel_rfl)) ?_
  intro W base args ds gs before hval0 hW hcnd _
  have hval : ∀ (j : Nat) t v, Try.f3.params[j]? = some t → args[j]? = some v → Value.okWide Try.prog W .any base t v := hval0
  have hW' := hW
  obtain ⟨p, q, hA0, hV, rfl, hfz, hnd⟩ := hW
  have hA : DataW.TrodAll enc Try.prog W 0 (fun _ => true) true Try.f3.params.toList args.toList ds p := hA0
  rw [Try.params3] at hA hval
  obtain ⟨v0, vs0, d0, ds0, p0, q0, hargs, rfl, rfl, h0, r0⟩ := trodAll_cons hA
  obtain ⟨v1, vs1, d1, ds1, p1, q1, rfl, rfl, rfl, h1, r1⟩ := trodAll_cons r0
  obtain ⟨rfl, rfl, rfl⟩ := trodAll_nil r1
  obtain rfl : args = #[v0, v1] := by cases args; simp_all
  obtain ⟨rfl, rfl⟩ := trodVars_none hV
  obtain ⟨a0, rfl, rfl, rfl, w0⟩ := open_int Try.underlying5 (hval 0 5 v0 rfl rfl) h0
  obtain ⟨a1, len1, cap1, rfl⟩ := okWide_slice Try.underlying22 (hval 1 22 v1 rfl rfl)
  have k1 := h1
  have lt1 : ∀ x ∈ p1, x.block < W.heap.size := by obtain ⟨m, hm⟩ := k1; exact DataW.trod_lt m _ _ _ hm
  obtain ⟨z1, w1⟩ : ∃ zs, IsRow .u16 W a1 len1 cap1 zs := by
    obtain ⟨fuel, hf⟩ := h1
    rcases open_ints Try.underlying22 Try.underlying28 (by kernel_rfl) hf with ⟨hcs, _⟩ | ⟨x, l, c, zs, hcs, _, hl, hm, hz, _, hcell, hwz⟩
    · simp [Value.cells] at hcs
      obtain ⟨rfl, rfl, rfl⟩ := hcs
      exact ⟨[], .inl ⟨rfl, rfl, rfl, rfl⟩⟩
    · simp [Value.cells] at hcs
      obtain ⟨rfl, rfl, rfl⟩ := hcs
      exact ⟨zs, .inr ⟨_, rfl, hl, hm, by simpa using hz, hcell, hwz⟩⟩
  clear hA0 hval0
  refine (walk a0 a1 len1 cap1 z1 W w0 w1).mono fun e W' ⟨he, bel⟩ => ?_
  subst he
  exact ⟨_, rfl, _, _, _, [], _, [], hW', trodAll_mk1 (shut_bool Try.underlying4 _), (trodAll_cons_mk (shut_int Try.underlying5 w0) (trodAll_cons_mk (Below.trod laidOut (by kernel_rfl) (of_decide_eq_true (by kernel_rfl)) k1 bel lt1) trodAll_mk0)), rfl, bel.frame _, fun h => by cases h⟩

theorem over : Rows.arenaRunsRow.holds Try.pinned (OpenSpec.ofChange Rows.arenaRunsSpec) :=
  OpenClaim.holds_of_wide 3 Try.f3 rfl rfl rfl rfl rfl rfl rfl ⟨rfl, rfl, rfl, rfl, rfl⟩ rfl rfl rfl rfl rfl (by kernel_rfl) Try.func3 (by kernel_rfl)
    (of_decide_eq_true (by kernel_rfl)) (by unfold Func.isWrapper; first | (rw [if_pos (by decide +kernel)]; kernel_rfl) | (rw [if_neg (by decide +kernel)]; exact ⟨rfl, rfl⟩))
    (fun os started H enc _ => lifted os started H enc)

/-- ████ THE STATEMENT ████ -/
theorem proved : Rows.ArenaRunsSaid := over
#print axioms proved
end Go.Proofs.Ytnokfomonclfhaa.arenaRuns
