/-
  For every input the law LateOwn of rickyard/rickyardlaw12 returns true, and its arguments read afterwards as before. The law's own sentence: What is handed in is as it was; the phase alone is set; while it is off nothing is kept, nor is what is no span's page. No further conditions.
-/
import Derived.Test.YtjchdkjncfjibaaRows
import Derived.Test.YtjchdkjncfjibaaKept
import Derived.Test.YtjchdkjncfjibaaShell
import Derived.Test.YtjchdkjncfjibaaShellInts
import Derived.WalkKit
import Derived.ProofKit
import Derived.OpenShut
import Derived.ChangeOld
import Derived.Below
import Derived.Lib.SmallJoins
import Derived.Test.YtjchdkjncfjibaaLateMade
namespace Go.Proofs.Ytjchdkjncfjibaa.lateOwn
open Go.ChangeShapes Go.WideShapes Go.ChangeAt Go.RowKit
set_option linter.unusedVariables false
set_option maxRecDepth 100000

theorem own : ownKnob Try.prog.godebug = none := by kernel_rfl
theorem laidOut : laidOutB Try.prog = true := by kernel_rfl
open Lq in
/-- Beyond all first pages of spans. -/
def FarOf (L : List Int) (f : Int) : Prop := mayI f = false ∧ inI f ∧ decide (f ∈ L) = false
open Lq in
theorem far_of {L : List Int} (h : MayL L) {f : Int} (hf : f < 0 ∨ 248 < f) (hi : inI f) : FarOf L f :=
  ⟨decide_eq_false (by omega), hi, decide_eq_false (fun m => by have := h f m; omega)⟩
open Lq in
theorem putC_off (l : List Int) (p : Int) : putB false l p = false ∧ putL false l p = [] ∧ putC false l p = 9 := ⟨rfl, rfl, rfl⟩
open Lq in
theorem putC_far {l : List Int} {p : Int} (h : mayI p = false) : putB true l p = false ∧ putL true l p = [] ∧ putC true l p = 1 := by
  unfold putB putL putC
  rw [h]
  exact ⟨rfl, rfl, rfl⟩
theorem cell_on {w w' : World} (k : Kept Old w w') {p : Addr} {v : Value} (h : w.cell? p = some v) : w'.cell? p = some v := (k.cell (block_lt_of_cell h) (fun x => x)).trans h

set_option maxHeartbeats 4000000 in
/-- The walk: the Go text returns true, and nothing that was there has turned. -/
theorem walk (a0 : Option Addr) (len0 cap0 : Nat) (z0 : Nat → Int) (a1 : Int) (w : World) (w0 : len0 ≤ cap0 ∧ cap0 ≤ maxLen ∧ (∀ i, i < len0 → (Lit.int .u8 (z0 i)).wf = true) ∧ Sl w a0 1 len0 fun i _ => .int .u8 (z0 i)) (w1 : (Lit.int .i64 a1).wf = true) :
    Calls Try.prog 6 #[.slice a0 len0 cap0, .int .i64 a1] w fun e w' => e = .returned (.bool true) ∧ Kept Old w w' := by
  obtain ⟨v0, v1, v2, v3⟩ := w0
  have b1 := bounds_i64 w1
  have hl : len0 ≤ 9223372036854775807 := by unfold maxLen at v1; omega
  have hz := Lib.hid (show ∀ i, i < len0 → 0 ≤ z0 i ∧ z0 i ≤ 255 from fun i hi => bounds_u8 (v2 i hi))
  have HS := Lib.hid v3
  clear v0 v1 v2 v3 w1
  have AP := Lib.hid (show Lq.Apart (Lq.makeL [] (Lq.pagesN z0 len0)) from Lq.Apart.make _ trivial)
  have M := Lib.hid (fun W h => Lq.made_any true a0 len0 cap0 z0 W hl hz.out h)
  generalize Lq.makeL [] (Lq.pagesN z0 len0) = L at *
  go_enter Try.func6, Try.ntmps6
  go_wp2_with fail
  refine (M.out _ HS.out).mono ?_
  rintro e w1 ⟨A1, n1, c1, rfl, R1, h1c, h1n, _, k1⟩
  have HL := Lib.hid R1.len
  have nf : n1 ≤ 249 := by have := AP.out.few; have := HL.out; omega
  have R1 := Lib.hid R1
  have K := Lib.hid k1
  have h1n := Lib.hid h1n
  clear k1
  go_wp2_with fail
  refine (M.out _ (HS.out.old K.out)).mono ?_
  rintro e w2 ⟨A2, n2, c2, rfl, R2, h2c, h2n, _, k2⟩
  obtain ⟨n, rfl⟩ : ∃ n, n = n1 := ⟨_, rfl⟩
  obtain rfl : n = n2 := by have := R2.len; have := HL.out; omega
  have z2 := ((Kept.refl Old w2).alloc (.cells #[.bool true, .slice A1 n c1] 24)).alloc (.cells #[.bool true, .slice A2 n c2] 24)
  have K := Lib.hid ((K.out.trans k2).trans z2)
  have R1 := Lib.hid ((R1.out.old k2).old z2)
  have R2 := Lib.hid (R2.old z2)
  have B5 := Lib.hid ((Lq.Bq.new w2 true (.slice A1 n c1)).alloc (.cells #[.bool true, .slice A2 n c2] 24))
  have B6 := Lib.hid (Lq.Bq.new2 w2 (.cells #[.bool true, .slice A1 n c1] 24) _ true (.slice A2 n c2) rfl)
  clear k2 z2 h2n
  go_wp2_with fail
  generalize hs5 : w2.heap.size = s5 at *
  generalize hs6 : s5 + 1 = s6 at *
  generalize (w2.alloc (.cells #[.bool true, .slice A1 n c1] 24)).alloc (.cells #[.bool true, .slice A2 n c2] 24) = V2 at *
  have h1nn := Lib.hid (Lq.nn h1c h1n.out)
  refine (Lq.lset_any true A1 n c1 L false _ R1.out (by omega) h1nn.out).mono ?_
  rintro e w3 ⟨v, rfl, A3, n3, c3, rfl, R3, h3c, h3n, k3⟩
  obtain rfl : n = n3 := by have := R3.len; have := HL.out; omega
  have z3 := (Kept.refl Old w3).alloc (.cells #[.bool false, .slice A3 n c3] 24)
  have q := k3.trans z3
  have K := Lib.hid (K.out.trans q)
  have R1 := Lib.hid (R1.out.old q)
  have R2 := Lib.hid (R2.out.old q)
  have R3 := Lib.hid (R3.old z3)
  have B5 := Lib.hid (B5.out.old q)
  have B6 := Lib.hid (B6.out.old q)
  have B7 := Lib.hid (Lq.Bq.new w3 false (.slice A3 n c3))
  have h3z := Lib.hid h3n.1
  have h3n := Lib.hid (Lq.nn h3c h3n.1)
  have x0 := B5.out.c0
  have x1 := B5.out.c1
  clear q k3 z3
  go_wp2_with fail
  generalize hs7 : w3.heap.size = s7 at *
  generalize w3.alloc (.cells #[.bool false, .slice A3 n c3] 24) = V3 at *
  refine (Lq.lput_any true A1 n c1 L 0 _ R1.out AP.out.may ⟨by omega, by omega⟩ (by omega) h1nn.out).mono ?_
  rintro e w4 ⟨v, rfl, A4, n4, c4, rfl, _, _, _, q⟩
  have K := Lib.hid (K.out.trans q)
  have R1 := Lib.hid (R1.out.old q)
  have R2 := Lib.hid (R2.out.old q)
  have R3 := Lib.hid (R3.out.old q)
  have B5 := Lib.hid (B5.out.old q)
  have B6 := Lib.hid (B6.out.old q)
  have B7 := Lib.hid (B7.out.old q)
  have x0 := B5.out.c0
  have x1 := B5.out.c1
  clear q
  go_wp2_with fail
  refine (Lq.lnext_any true A1 n c1 L _ R1.out (by omega) h1c).mono ?_
  rintro e w5 ⟨v, rfl, A5, n5, c5, rfl, _, _, _, q⟩
  have K := Lib.hid (K.out.trans q)
  have R1 := Lib.hid (R1.out.old q)
  have R2 := Lib.hid (R2.out.old q)
  have R3 := Lib.hid (R3.out.old q)
  have B5 := Lib.hid (B5.out.old q)
  have B6 := Lib.hid (B6.out.old q)
  have B7 := Lib.hid (B7.out.old q)
  have x0 := B5.out.c0
  have x1 := B5.out.c1
  have y0 := B7.out.c0
  have y1 := B7.out.c1
  clear q
  obtain ⟨i1, i2, i3⟩ := putC_off L a1
  have P1 := Lib.hid (fun W h => Lq.lput_lit i1 i2 i3 A3 n c3 W h AP.out.may ⟨by omega, by omega⟩ (by omega) h3c h3z.out)
  clear i1 i2 i3
  go_wp2_with fail
  refine (P1.out _ R3.out).mono ?_
  rintro e w6 ⟨v, rfl, A7, n7, c7, rfl, _, _, _, q⟩
  have q := q.alloc (.cells #[.bool false, .slice A7 n7 c7] 24)
  have K := Lib.hid (K.out.trans q)
  have R1 := Lib.hid (R1.out.old q)
  have R2 := Lib.hid (R2.out.old q)
  have R3 := Lib.hid (R3.out.old q)
  have B5 := Lib.hid (B5.out.old q)
  have B6 := Lib.hid (B6.out.old q)
  have B7 := Lib.hid (B7.out.old q)
  have x0 := B5.out.c0
  have x1 := B5.out.c1
  clear q y0 y1
  have ways : (0 ≤ a1 ∧ a1 ≤ 248) ∨ a1 < 0 ∨ (0 ≤ a1 ∧ 248 < a1) := by omega
  rcases ways with ⟨a, b⟩ | a | ⟨a, b⟩
  have FR := Lib.hid (far_of AP.out.may (f := 249 + a1) (.inr (by omega)) ⟨by omega, by omega⟩)
  rotate_left
  have FR := Lib.hid (far_of AP.out.may (f := a1) (.inl a) ⟨by omega, by omega⟩)
  rotate_left
  have FR := Lib.hid (far_of AP.out.may (f := a1) (.inr b) ⟨by omega, by omega⟩)
  rotate_left
  all_goals
    obtain ⟨i1, i2, i3⟩ := putC_far (l := L) FR.out.1
    have P2 := Lib.hid (fun W h => Lq.lput_lit i1 i2 i3 A1 n c1 W h AP.out.may FR.out.2.1 (by omega) h1c h1n.out)
    clear i1 i2 i3
    go_wp2_with fail
    refine (P2.out _ R1.out).mono ?_
    rintro e w7 ⟨v, rfl, A8, n8, c8, rfl, _, _, _, q⟩
    have q := q.alloc (.cells #[.bool false, .slice A8 n8 c8] 24)
    have K := Lib.hid (K.out.trans q)
    have R1 := Lib.hid (R1.out.old q)
    have R2 := Lib.hid (R2.out.old q)
    have R3 := Lib.hid (R3.out.old q)
    have B5 := Lib.hid (B5.out.old q)
    have B6 := Lib.hid (B6.out.old q)
    have B7 := Lib.hid (B7.out.old q)
    clear q x0 x1
    go_wp2_with fail
    have x0 := B5.out.c0
    have x1 := B5.out.c1
    have y0 := B6.out.c0
    have y1 := B6.out.c1
    have u0 := B7.out.c0
    have u1 := B7.out.c1
    have K := Lib.hid K.out.drew
    have R1 := Lib.hid R1.out.drew
    have R2 := Lib.hid R2.out.drew
    have R3 := Lib.hid R3.out.drew
    go_region_held3 (fun w' => w'.cell? ⟨s5, 0, none⟩ = some (.bool true) ∧ w'.cell? ⟨s5, 1, none⟩ = some (.slice A1 n c1) ∧ w'.cell? ⟨s6, 0, none⟩ = some (.bool true) ∧ w'.cell? ⟨s6, 1, none⟩ = some (.slice A2 n c2) ∧ w'.cell? ⟨s7, 0, none⟩ = some (.bool false) ∧ w'.cell? ⟨s7, 1, none⟩ = some (.slice A3 n c3))
      (first
        | (exact ⟨‹_›, ‹_›, ‹_›, ‹_›, ‹_›, ‹_›⟩)
        | (go_split_ands; exact ⟨cell_on k ‹_›, cell_on k ‹_›, cell_on k ‹_›, cell_on k ‹_›, cell_on k ‹_›, cell_on k ‹_›⟩)
        | go_keep)
      (first
        | (go_at_call 16; (with_reducible refine (Lq.same_yes true A1 A2 n c1 c2 L _ R1.out R2.out (by omega)).mono ?_); rintro e w' ⟨rfl, k⟩; have K := Lib.hid (K.out.trans k); have R1 := Lib.hid (R1.out.old k); have R2 := Lib.hid (R2.out.old k); have R3 := Lib.hid (R3.out.old k))
        | (go_at_call 16; (with_reducible refine (Lq.same_yes true A6 A1 n c6 c1 L _ R6.out R1.out (by omega)).mono ?_); rintro e w' ⟨rfl, k⟩; have K := Lib.hid (K.out.trans k); have R1 := Lib.hid (R1.out.old k); have R2 := Lib.hid (R2.out.old k); have R3 := Lib.hid (R3.out.old k))
        | (go_at_call 14; refine (sameInts_any A3 A1 n c3 c1 L _ R3.out R1.out (by omega)).mono ?_; rintro e w' ⟨rfl, k⟩; have K := Lib.hid (K.out.trans k); have R1 := Lib.hid (R1.out.old k); have R2 := Lib.hid (R2.out.old k); have R3 := Lib.hid (R3.out.old k))
        | (go_at_call 10; refine (Lq.lset_any false A3 n c3 L true _ R3.out (by omega) h3n.out).mono ?_; rintro e w' ⟨v, rfl, A6, n6, c6, rfl, R6, _, _, k⟩; obtain rfl : n = n6 := (by have := R6.len; have := HL.out; omega); have R6 := Lib.hid R6; have K := Lib.hid (K.out.trans k); have R1 := Lib.hid (R1.out.old k); have R2 := Lib.hid (R2.out.old k); have R3 := Lib.hid (R3.out.old k))
        | (go_at_call 13; refine (Lq.lhas_lit FR.out.2.2 true A1 n c1 _ R1.out (by omega)).mono ?_; rintro e w' ⟨rfl, k⟩; have K := Lib.hid (K.out.trans k); have R1 := Lib.hid (R1.out.old k); have R2 := Lib.hid (R2.out.old k); have R3 := Lib.hid (R3.out.old k))
        | (go_at_call 8; refine (Lq.awake_any _).mono ?_; rintro e w' ⟨rfl, k⟩; have K := Lib.hid (K.out.trans k)))
    go_wp2
    go_ret
    exact ⟨rfl, K.out⟩

/-- The row's step. -/
theorem lifted (os : Os) (started : os.Started) (H : Type) (enc : TypeId × Value → H) :
    ReturnsInHanded {} Try.checked os 6 .any (Rows.lateOwnSpec.pre6 enc Try.prog Try.f6 Rows.lateOwnRow.domain false) (Rows.lateOwnSpec.post enc Try.prog Try.f6 false true false false) := by
  refine returnsInHanded_of_change (C := Try.checked) own started (by kernel_rfl) Try.func6
    (ChangeSpec.witness6 (enc := enc) (C := Try.checked) false ⟨#[], #[.slice none 0 0, .int .i64 0], []⟩ 8 (by kernel_rfl) (by kernel_rfl) (by kernel_rfl) (by kernel_rfl)) ?_
  intro W base args ds gs before hval0 hW hcnd _
  have hval : ∀ (j : Nat) t v, Try.f6.params[j]? = some t → args[j]? = some v → Value.okWide Try.prog W .any base t v := hval0
  have hW' := hW
  obtain ⟨p, q, hA0, hV, rfl, hfz, hnd⟩ := hW
  have hA : DataW.TrodAll enc Try.prog W 0 (fun _ => true) true Try.f6.params.toList args.toList ds p := hA0
  rw [Try.params6] at hA hval
  obtain ⟨v0, vs0, d0, ds0, p0, q0, hargs, rfl, rfl, h0, r0⟩ := trodAll_cons hA
  obtain ⟨v1, vs1, d1, ds1, p1, q1, rfl, rfl, rfl, h1, r1⟩ := trodAll_cons r0
  obtain ⟨rfl, rfl, rfl⟩ := trodAll_nil r1
  obtain rfl : args = #[v0, v1] := by cases args; simp_all
  obtain ⟨rfl, rfl⟩ := trodVars_none hV
  have k0 := h0
  have lt0 : ∀ x ∈ p0, x.block < W.heap.size := by obtain ⟨m, hm⟩ := k0; exact DataW.trod_lt m _ _ _ hm
  obtain ⟨a0, len0, cap0, rfl⟩ := okWide_slice Try.underlying28 (hval 0 28 v0 rfl rfl)
  obtain ⟨z0, w0⟩ := ints_in Try.underlying28 Try.underlying5 (by kernel_rfl) h0
  obtain ⟨a1, rfl, rfl, rfl, w1⟩ := open_int Try.underlying3 (hval 1 3 v1 rfl rfl) h1
  clear hA0 hval0
  refine (walk a0 len0 cap0 z0 a1 W w0 w1).mono fun e W' ⟨he, kept⟩ => ?_
  subst he
  have bel : Below W.heap.size W W' := kept.toBelow (Nat.le_refl _) (fun _ x => x.elim)
  exact ⟨_, rfl, _, _, _, [], _, [], hW', trodAll_mk1 (shut_bool Try.underlying4 _), (trodAll_cons_mk (Below.trod laidOut (by kernel_rfl) (of_decide_eq_true (by kernel_rfl)) k0 bel lt0) (trodAll_cons_mk (shut_int Try.underlying3 w1) trodAll_mk0)), rfl, bel.frame _, fun h => by cases h⟩

theorem over : Rows.LateOwnSaid :=
  OpenClaim.holds_of_wide 6 Try.f6 rfl rfl rfl rfl rfl rfl rfl ⟨rfl, rfl, rfl, rfl, rfl⟩ rfl rfl rfl rfl rfl (by kernel_rfl) Try.func6 (by kernel_rfl)
    (of_decide_eq_true (by kernel_rfl)) (by unfold Func.isWrapper; first | (rw [if_pos (by decide +kernel)]; kernel_rfl) | (rw [if_neg (by decide +kernel)]; exact ⟨rfl, rfl⟩))
    (fun os started H enc _ => lifted os started H enc)

/-- The statement. -/
theorem proved : Rows.LateOwnSaid := over
#print axioms proved
end Go.Proofs.Ytjchdkjncfjibaa.lateOwn
