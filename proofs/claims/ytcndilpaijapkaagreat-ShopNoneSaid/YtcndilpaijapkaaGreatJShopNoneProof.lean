/-
  For every input the law ShopNone of rickyard/rickyardlaw15 returns true, and its arguments read afterwards as before. The law's own sentence: Of no shop each call says so; of a worker that is not there, too; what is not live is not freed. No further conditions.
-/
import Derived.Test.YtcndilpaijapkaaGreatRows
import Derived.SizedLaws
import Derived.WalkKit
import Derived.ProofKit
import Derived.OpenShut
import Derived.ChangeOld
import Derived.Below
import Derived.Lib.SmallJoins
import Derived.Lib.MinMax
import Derived.Test.YtcndilpaijapkaaGreatJBase
import Derived.Test.YtcndilpaijapkaaGreatJShpC
namespace Go.Proofs.YtcndilpaijapkaaGreat.shopNone
open Go.ChangeShapes Go.WideShapes Go.ChangeAt Go.RowKit
set_option linter.unusedVariables false
set_option maxRecDepth 100000

theorem own : ownKnob Tryz.prog.godebug = none := by kernel_rfl
theorem laidOut : laidOutB Tryz.prog = true := by kernel_rfl
open Sto
open Shp hiding K0
variable {w0 W : World} {s P : Nat} {k : Sto.K} {ca : Ca} {live : List Lm.S} {F : Nat → Prop} {pl : Shp.Pl}
theorem free_new {w : Nat} (a : Int) (hw : w < pl.nw) (m : Shp.StM w0 W s P k ca [] F pl) (v : Sq P pl.nw k ca []) :
    Calls Tryz.prog 21 #[ptr s, .int .i64 (w : Int), .int .i64 a] W fun e W' => e = .returned (.int .i64 2) ∧ ∃ pl', Shp.StM w0 W' s P k ca [] F pl' ∧ Shp.Same pl pl' := by
  have h := Shp.sfree_any hw a m v
  have e : freeW k ca [] w a = (k, ca, [], 2) := by unfold freeW; rw [if_neg (by simp [Lm.hasB])]
  unfold Shp.FreePost at h
  rw [e] at h
  exact h.mono fun _ _ q => ⟨q.1, q.2.1⟩
theorem flush_new {w : Nat} (hw : w < pl.nw) (m : Shp.StM w0 W s P (Shp.K0 P) (fun _ _ => []) [] F pl) (v : Sq P pl.nw (Shp.K0 P) (fun _ _ => []) []) :
    Calls Tryz.prog 22 #[ptr s, .int .i64 (w : Int)] W fun e W' => e = .returned (.int .i64 0) ∧ ∃ pl' k' ca', Shp.StM w0 W' s P k' ca' [] F pl' ∧ Sq P pl'.nw k' ca' [] := by
  have h := Shp.sflush_any hw m v
  unfold Shp.FlushPost at h
  exact h.mono fun _ _ q => ⟨q.1, q.2.1.elim fun p r => ⟨p, _, _, r.1, by rw [r.2.nw]; exact v.flushW hw⟩⟩

set_option maxHeartbeats 4000000 in
/-- The walk: the Go text returns true, and nothing that was there has turned. -/
theorem walk (a0 : Int) (a1 : Int) (a2 : Int) (a3 : Int) (w : World) (w0 : (Lit.int .i64 a0).wf = true) (w1 : (Lit.int .i64 a1).wf = true) (w2 : (Lit.int .i64 a2).wf = true) (w3 : (Lit.int .u8 a3).wf = true) :
    Calls Tryz.prog 11 #[.int .i64 a0, .int .i64 a1, .int .i64 a2, .int .u8 a3] w fun e w' => e = .returned (.bool true) ∧ Kept Old w w' := by
  have b0 := bounds_i64 w0
  have b1 := bounds_i64 w1
  have b2 := bounds_i64 w2
  have b3 := bounds_u8 w3
  obtain ⟨u, rfl⟩ : ∃ u : Nat, a3 = (u : Int) := ⟨a3.toNat, by omega⟩
  obtain ⟨m0, hm, hm0⟩ : ∃ z : Int, (∀ W, (Builtin.min_ #[3, 3] 3 #[.int .i64 a1, .int .i64 0]).run Tryz.prog W = .ok (.int .i64 z) W) ∧ z < 1 :=
    ⟨min a1 0, fun W => Go.Lib.run_min_ints _ _ _ _ _ _ _, by omega⟩
  have z1 : IntKind.i64.wrap (1 + (u : Int)) = 1 + (u : Int) := IntWalk.i64_in _ (by omega)
  have NS : ∀ X, Kept Old w X → Calls Tryz.prog 12 #[.int .i64 (1 + (u : Int)), .int .i64 2] X (Shp.NewSt w (1 + u) 2 (fun _ => False) X) := fun X hX => by
    have h := Shp.snew_yes w (1 + u) 2 (fun _ => False) X (by omega) (by omega) (by omega) (by omega) hX (fun _ h => h.elim)
    rwa [show ((1 + u : Nat) : Int) = 1 + (u : Int) from by omega] at h
  have NS := Lib.hid NS
  have V0 := Lib.hid (show Sq (1 + u) 2 (Shp.K0 (1 + u)) (fun _ _ => []) [] from Sq.new (P := 1 + u) (by omega) (by omega) 2)
  have A0 := Lib.hid (show classB m0 = false from by unfold classB; simp; omega)
  clear hm0 w0 w1 w2 w3
  by_cases h0 : a0 = 0
  · subst h0
    have FA := Lib.hid (show Shp.empB 2 2 = false from rfl)
    go_enter Tryz.func11, Tryz.ntmps11
    go_wp2_with fail
    refine (Shp.alloc_nil 0 a1 _).mono ?_
    rintro e W0 ⟨rfl, rfl⟩
    go_wp2_with fail
    refine (Shp.gc_nil true _).mono ?_
    rintro e W2 ⟨rfl, rfl⟩
    go_wp2_with fail
    refine (Shp.free_nil 0 a2 _).mono ?_
    rintro e W1 ⟨rfl, rfl⟩
    go_wp2_with fail
    refine (Shp.flush_nil 0 _).mono ?_
    rintro e W1 ⟨rfl, rfl⟩
    go_wp2_with fail
    refine (Shp.on_nil _).mono ?_
    rintro e W6 ⟨rfl, rfl⟩
    go_wp2_with fail
    refine (Shp.cached_nil 0 a1 _).mono ?_
    rintro e W6 ⟨rfl, rfl⟩
    go_wp2_with fail
    refine (Shp.live_nil _).mono ?_
    rintro e W6 ⟨rfl, rfl⟩
    go_wp2_with fail
    refine (Shp.parts_nil _).mono ?_
    rintro e W6 ⟨rfl, k6⟩
    have K6 := Lib.hid k6
    go_wp2_with fail
    refine (Shp.sameparts_nil _).mono ?_
    rintro e W7 ⟨rfl, k7⟩
    have K7 := Lib.hid (K6.out.trans k7)
    clear k6 k7
    go_wp2_with fail
    refine (NS.out _ K7.out).mono ?_
    rintro e W3 ⟨s, rfl, ⟨pl, en, m⟩, _, _⟩
    have M := Lib.hid m
    have EN := Lib.hid en
    clear m en
    go_wp2_with fail
    refine (Shp.salloc_arg _ 1 M.out (.inr (by rw [EN.out]; exact FA.out))).mono ?_
    rintro e W4 ⟨rfl, rfl⟩
    go_wp2_with fail
    refine (Shp.salloc_arg 1 m0 M.out (.inl A0.out)).mono ?_
    rintro e W5 ⟨rfl, rfl⟩
    go_wp2_with fail
    refine (Shp.sfree_arg _ a2 M.out (by rw [EN.out]; exact FA.out)).mono ?_
    rintro e W6 ⟨rfl, rfl⟩
    go_wp2_with fail
    refine (Shp.sflush_arg _ M.out (by rw [EN.out]; exact FA.out)).mono ?_
    rintro e W7 ⟨rfl, rfl⟩
    go_wp2_with fail
    have FN := free_new (w := 0) a2 (by have := EN.out; omega) M.out (by rw [EN.out]; exact V0.out)
    refine FN.mono ?_
    rintro e W8 ⟨rfl, pl8, m, e8⟩
    have M := Lib.hid m
    have EN := Lib.hid (e8.nw.trans EN.out)
    clear m e8 FN
    go_wp2_with fail
    have FN := flush_new (w := 0) (by have := EN.out; omega) M.out (by rw [EN.out]; exact V0.out)
    refine FN.mono ?_
    rintro e W9 ⟨rfl, pl9, k9, ca9, m, v9⟩
    have M := Lib.hid m
    have K9 := Lib.hid (show Kept Old w W9 from m.ff.kept)
    clear m v9 FN
    go_wp2_with fail
    refine (Shp.slive_any M.out (by simp)).mono ?_
    rintro e W10 ⟨v, rfl, A, n, c, rfl, r, _, _, k10⟩
    obtain rfl : n = 0 := r.len.symm
    have K10 := Lib.hid (K9.out.trans k10)
    clear r k10
    go_wp2_with fail
    refine (Shp.awake_any _).mono ?_
    rintro e W11 ⟨rfl, k11⟩
    have K11 := Lib.hid (K10.out.trans k11)
    go_wp2_with fail
    go_ret
    exact ⟨rfl, K11.out⟩
  · by_cases h1 : a0 = 1
    · subst h1
      have FA := Lib.hid (show Shp.empB 2 2 = false from rfl)
      go_enter Tryz.func11, Tryz.ntmps11
      go_wp2_with fail
      refine (Shp.alloc_nil 1 a1 _).mono ?_
      rintro e W0 ⟨rfl, rfl⟩
      go_wp2_with fail
      refine (Shp.gc_nil true _).mono ?_
      rintro e W2 ⟨rfl, rfl⟩
      go_wp2_with fail
      refine (Shp.free_nil 1 a2 _).mono ?_
      rintro e W1 ⟨rfl, rfl⟩
      go_wp2_with fail
      refine (Shp.flush_nil 1 _).mono ?_
      rintro e W1 ⟨rfl, rfl⟩
      go_wp2_with fail
      refine (Shp.on_nil _).mono ?_
      rintro e W6 ⟨rfl, rfl⟩
      go_wp2_with fail
      refine (Shp.cached_nil 1 a1 _).mono ?_
      rintro e W6 ⟨rfl, rfl⟩
      go_wp2_with fail
      refine (Shp.live_nil _).mono ?_
      rintro e W6 ⟨rfl, rfl⟩
      go_wp2_with fail
      refine (Shp.parts_nil _).mono ?_
      rintro e W6 ⟨rfl, k6⟩
      have K6 := Lib.hid k6
      go_wp2_with fail
      refine (Shp.sameparts_nil _).mono ?_
      rintro e W7 ⟨rfl, k7⟩
      have K7 := Lib.hid (K6.out.trans k7)
      clear k6 k7
      go_wp2_with fail
      refine (NS.out _ K7.out).mono ?_
      rintro e W3 ⟨s, rfl, ⟨pl, en, m⟩, _, _⟩
      have M := Lib.hid m
      have EN := Lib.hid en
      clear m en
      go_wp2_with fail
      refine (Shp.salloc_arg _ 1 M.out (.inr (by rw [EN.out]; exact FA.out))).mono ?_
      rintro e W4 ⟨rfl, rfl⟩
      go_wp2_with fail
      refine (Shp.salloc_arg 1 m0 M.out (.inl A0.out)).mono ?_
      rintro e W5 ⟨rfl, rfl⟩
      go_wp2_with fail
      refine (Shp.sfree_arg _ a2 M.out (by rw [EN.out]; exact FA.out)).mono ?_
      rintro e W6 ⟨rfl, rfl⟩
      go_wp2_with fail
      refine (Shp.sflush_arg _ M.out (by rw [EN.out]; exact FA.out)).mono ?_
      rintro e W7 ⟨rfl, rfl⟩
      go_wp2_with fail
      have FN := free_new (w := 0) a2 (by have := EN.out; omega) M.out (by rw [EN.out]; exact V0.out)
      refine FN.mono ?_
      rintro e W8 ⟨rfl, pl8, m, e8⟩
      have M := Lib.hid m
      have EN := Lib.hid (e8.nw.trans EN.out)
      clear m e8 FN
      go_wp2_with fail
      have FN := flush_new (w := 0) (by have := EN.out; omega) M.out (by rw [EN.out]; exact V0.out)
      refine FN.mono ?_
      rintro e W9 ⟨rfl, pl9, k9, ca9, m, v9⟩
      have M := Lib.hid m
      have K9 := Lib.hid (show Kept Old w W9 from m.ff.kept)
      clear m v9 FN
      go_wp2_with fail
      refine (Shp.slive_any M.out (by simp)).mono ?_
      rintro e W10 ⟨v, rfl, A, n, c, rfl, r, _, _, k10⟩
      obtain rfl : n = 0 := r.len.symm
      have K10 := Lib.hid (K9.out.trans k10)
      clear r k10
      go_wp2_with fail
      refine (Shp.awake_any _).mono ?_
      rintro e W11 ⟨rfl, k11⟩
      have K11 := Lib.hid (K10.out.trans k11)
      go_wp2_with fail
      go_ret
      exact ⟨rfl, K11.out⟩
    · have FA := Lib.hid (show Shp.empB 2 a0 = false from decide_eq_false (by omega))
      have e0 : (a0 == 0) = false := by simp [h0]
      have e1 : (a0 == 1) = false := by simp [h1]
      clear h0 h1
      go_enter Tryz.func11, Tryz.ntmps11
      go_wp2_with fail
      refine (Shp.alloc_nil a0 a1 _).mono ?_
      rintro e W0 ⟨rfl, rfl⟩
      go_wp2_with fail
      refine (Shp.gc_nil true _).mono ?_
      rintro e W2 ⟨rfl, rfl⟩
      go_wp2_with fail
      refine (Shp.free_nil a0 a2 _).mono ?_
      rintro e W1 ⟨rfl, rfl⟩
      go_wp2_with fail
      refine (Shp.flush_nil a0 _).mono ?_
      rintro e W1 ⟨rfl, rfl⟩
      go_wp2_with fail
      refine (Shp.on_nil _).mono ?_
      rintro e W6 ⟨rfl, rfl⟩
      go_wp2_with fail
      refine (Shp.cached_nil a0 a1 _).mono ?_
      rintro e W6 ⟨rfl, rfl⟩
      go_wp2_with fail
      refine (Shp.live_nil _).mono ?_
      rintro e W6 ⟨rfl, rfl⟩
      go_wp2_with fail
      refine (Shp.parts_nil _).mono ?_
      rintro e W6 ⟨rfl, k6⟩
      have K6 := Lib.hid k6
      go_wp2_with fail
      refine (Shp.sameparts_nil _).mono ?_
      rintro e W7 ⟨rfl, k7⟩
      have K7 := Lib.hid (K6.out.trans k7)
      clear k6 k7
      go_wp2_with fail
      refine (NS.out _ K7.out).mono ?_
      rintro e W3 ⟨s, rfl, ⟨pl, en, m⟩, _, _⟩
      have M := Lib.hid m
      have EN := Lib.hid en
      clear m en
      go_wp2_with fail
      refine (Shp.salloc_arg _ 1 M.out (.inr (by rw [EN.out]; exact FA.out))).mono ?_
      rintro e W4 ⟨rfl, rfl⟩
      go_wp2_with fail
      refine (Shp.salloc_arg 1 m0 M.out (.inl A0.out)).mono ?_
      rintro e W5 ⟨rfl, rfl⟩
      go_wp2_with fail
      refine (Shp.sfree_arg _ a2 M.out (by rw [EN.out]; exact FA.out)).mono ?_
      rintro e W6 ⟨rfl, rfl⟩
      go_wp2_with fail
      refine (Shp.sflush_arg _ M.out (by rw [EN.out]; exact FA.out)).mono ?_
      rintro e W7 ⟨rfl, rfl⟩
      go_wp2_with fail
      have FN := free_new (w := 0) a2 (by have := EN.out; omega) M.out (by rw [EN.out]; exact V0.out)
      refine FN.mono ?_
      rintro e W8 ⟨rfl, pl8, m, e8⟩
      have M := Lib.hid m
      have EN := Lib.hid (e8.nw.trans EN.out)
      clear m e8 FN
      go_wp2_with fail
      have FN := flush_new (w := 0) (by have := EN.out; omega) M.out (by rw [EN.out]; exact V0.out)
      refine FN.mono ?_
      rintro e W9 ⟨rfl, pl9, k9, ca9, m, v9⟩
      have M := Lib.hid m
      have K9 := Lib.hid (show Kept Old w W9 from m.ff.kept)
      clear m v9 FN
      go_wp2_with fail
      refine (Shp.slive_any M.out (by simp)).mono ?_
      rintro e W10 ⟨v, rfl, A, n, c, rfl, r, _, _, k10⟩
      obtain rfl : n = 0 := r.len.symm
      have K10 := Lib.hid (K9.out.trans k10)
      clear r k10
      go_wp2_with fail
      refine (Shp.awake_any _).mono ?_
      rintro e W11 ⟨rfl, k11⟩
      have K11 := Lib.hid (K10.out.trans k11)
      go_wp2_with fail
      go_ret
      exact ⟨rfl, K11.out⟩

/-- The row's step. -/
theorem lifted (os : Os) (started : os.Started) (H : Type) (enc : TypeId × Value → H) :
    ReturnsInHanded {} Tryz.checked os 11 .any (Rows.shopNoneSpec.pre6 enc Tryz.prog Tryz.f11 Rows.shopNoneRow.domain false) (Rows.shopNoneSpec.post enc Tryz.prog Tryz.f11 false true false false) := by
  refine returnsInHanded_of_change_sized (C := Tryz.checked) own started (by kernel_rfl) Tryz.func11
    (ChangeSpec.witness6 (enc := enc) (C := Tryz.checked) false ⟨#[], #[.int .i64 0, .int .i64 0, .int .i64 0, .int .u8 0], []⟩ 8 (by kernel_rfl) (by kernel_rfl) (by kernel_rfl) (by kernel_rfl)) ?_
  intro W base args ds gs before hval0 hW hcnd hsz0 _
  have hsz : (DataW.weightsEach Tryz.prog (Tryz.f11.params.toList ++ Rows.shopNoneSpec.plain.varTypes Tryz.prog) (ds ++ gs)).all (· ≤ reachBytes) = true := hsz0
  have hval : ∀ (j : Nat) t v, Tryz.f11.params[j]? = some t → args[j]? = some v → Value.okWide Tryz.prog W .any base t v := hval0
  have hW' := hW
  obtain ⟨p, q, hA0, hV, rfl, hfz, hnd⟩ := hW
  have hA : DataW.TrodAll enc Tryz.prog W 0 (fun _ => true) true Tryz.f11.params.toList args.toList ds p := hA0
  rw [Tryz.params11] at hA hval hsz
  obtain ⟨v0, vs0, d0, ds0, p0, q0, hargs, rfl, rfl, h0, r0⟩ := trodAll_cons hA
  obtain ⟨v1, vs1, d1, ds1, p1, q1, rfl, rfl, rfl, h1, r1⟩ := trodAll_cons r0
  obtain ⟨v2, vs2, d2, ds2, p2, q2, rfl, rfl, rfl, h2, r2⟩ := trodAll_cons r1
  obtain ⟨v3, vs3, d3, ds3, p3, q3, rfl, rfl, rfl, h3, r3⟩ := trodAll_cons r2
  obtain ⟨rfl, rfl, rfl⟩ := trodAll_nil r3
  obtain rfl : args = #[v0, v1, v2, v3] := by cases args; simp_all
  obtain ⟨rfl, rfl⟩ := trodVars_none hV
  obtain ⟨a0, rfl, rfl, rfl, w0⟩ := open_int Tryz.underlying3 (hval 0 3 v0 rfl rfl) h0
  obtain ⟨a1, rfl, rfl, rfl, w1⟩ := open_int Tryz.underlying3 (hval 1 3 v1 rfl rfl) h1
  obtain ⟨a2, rfl, rfl, rfl, w2⟩ := open_int Tryz.underlying3 (hval 2 3 v2 rfl rfl) h2
  obtain ⟨a3, rfl, rfl, rfl, w3⟩ := open_int Tryz.underlying5 (hval 3 5 v3 rfl rfl) h3
  clear hA0 hval0
  refine (walk a0 a1 a2 a3 W w0 w1 w2 w3).mono fun e W' ⟨he, kept⟩ => ?_
  subst he
  have bel : Below W.heap.size W W' := kept.toBelow (Nat.le_refl _) (fun _ x => x.elim)
  exact ⟨_, rfl, _, _, _, [], _, [], hW', trodAll_mk1 (shut_bool Tryz.underlying4 _), (trodAll_cons_mk (shut_int Tryz.underlying3 w0) (trodAll_cons_mk (shut_int Tryz.underlying3 w1) (trodAll_cons_mk (shut_int Tryz.underlying3 w2) (trodAll_cons_mk (shut_int Tryz.underlying5 w3) trodAll_mk0)))), rfl, bel.frame _, fun h => by cases h⟩

theorem over : Rows.ShopNoneSaid :=
  OpenClaim.holds_of_wide 11 Tryz.f11 rfl rfl rfl rfl rfl rfl rfl ⟨rfl, rfl, rfl, rfl, rfl⟩ rfl rfl rfl rfl rfl (by kernel_rfl) Tryz.func11 (by kernel_rfl)
    (of_decide_eq_true (by kernel_rfl)) (by unfold Func.isWrapper; first | (rw [if_pos (by decide +kernel)]; kernel_rfl) | (rw [if_neg (by decide +kernel)]; exact ⟨rfl, rfl⟩))
    (fun os started H enc _ => lifted os started H enc)

/-- The statement. -/
theorem proved : Rows.ShopNoneSaid := over
#print axioms proved
end Go.Proofs.YtcndilpaijapkaaGreat.shopNone
