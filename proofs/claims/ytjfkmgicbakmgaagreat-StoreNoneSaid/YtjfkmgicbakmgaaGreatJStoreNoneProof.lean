/-
  For every input the law StoreNone of rickyard/rickyardlaw14 returns true, and its arguments read afterwards as before. The law's own sentence: Of no store each call says so; asked for nothing, or for too much, there is none; what is not live is not freed. No further conditions.
-/
import Derived.Test.YtjfkmgicbakmgaaGreatRows
import Derived.SizedLaws
import Derived.WalkKit
import Derived.ProofKit
import Derived.OpenShut
import Derived.ChangeOld
import Derived.Below
import Derived.Lib.SmallJoins
import Derived.Lib.MinMax
import Derived.Test.YtjfkmgicbakmgaaGreatJBase
import Derived.Test.YtjfkmgicbakmgaaGreatJStoreParts
namespace Go.Proofs.YtjfkmgicbakmgaaGreat.storeNone
open Go.ChangeShapes Go.WideShapes Go.ChangeAt Go.RowKit
set_option linter.unusedVariables false
set_option maxRecDepth 100000

theorem own : ownKnob Tryz.prog.godebug = none := by kernel_rfl
theorem laidOut : laidOutB Tryz.prog = true := by kernel_rfl
open Sto
variable {w0 W : World} {s P : Nat} {k : Sto.K} {live : List Lm.S} {F : Nat → Prop} {pl : Sto.Pl}
theorem alloc_bad (n : Int) (hn : n < 1 ∨ 4096 < n) (m : StM w0 W s P k live F pl) (v : Sv P k live) :
    Calls Tryz.prog 18 #[ptr s, .int .i64 n] W fun e W' => e = .returned (.tuple #[.int .i64 0, .int .i64 1]) ∧ ∃ pl', StM w0 W' s P k live F pl' := by
  have c : classB n = false := by unfold classB; simp; omega
  have h := salloc_any n m v
  have e : allocR P k live n = (k, live, 0, 1) := by unfold allocR; rw [if_neg (by rw [c]; simp)]
  unfold AllocPost at h
  rw [e] at h
  exact h.mono fun _ _ q => ⟨q.1, q.2.1.elim fun p r => ⟨p, r.1⟩⟩
theorem free_new (a : Int) (m : StM w0 W s P k [] F pl) (v : Sv P k []) :
    Calls Tryz.prog 20 #[ptr s, .int .i64 a] W fun e W' => e = .returned (.int .i64 2) ∧ ∃ pl', StM w0 W' s P k [] F pl' := by
  have h := sfree_any a m v
  have e : freeR k [] a = (k, [], 2) := by unfold freeR; rw [if_neg (by simp [Lm.hasB])]
  unfold FreePost at h
  rw [e] at h
  exact h.mono fun _ _ q => ⟨q.1, q.2.1.elim fun p r => ⟨p, r.1⟩⟩

set_option maxHeartbeats 8000000 in
/-- The walk: the Go text returns true, and nothing that was there has turned. -/
theorem walk (a0 : Int) (a1 : Int) (a2 : Int) (w : World) (w0 : (Lit.int .i64 a0).wf = true) (w1 : (Lit.int .i64 a1).wf = true) (w2 : (Lit.int .u8 a2).wf = true) :
    Calls Tryz.prog 11 #[.int .i64 a0, .int .i64 a1, .int .u8 a2] w fun e w' => e = .returned (.bool true) ∧ Kept Old w w' := by
  have b0 := bounds_i64 w0
  have b2 := bounds_u8 w2
  obtain ⟨u, rfl⟩ : ∃ u : Nat, a2 = (u : Int) := ⟨a2.toNat, by omega⟩
  obtain ⟨m0, hm, hm0⟩ : ∃ z : Int, (∀ W, (Builtin.min_ #[3, 3] 3 #[.int .i64 a0, .int .i64 0]).run Tryz.prog W = .ok (.int .i64 z) W) ∧ z < 1 :=
    ⟨min a0 0, fun W => Go.Lib.run_min_ints _ _ _ _ _ _ _, by omega⟩
  obtain ⟨m1, hx, hm1⟩ : ∃ z : Int, (∀ W, (Builtin.max_ #[3, 3] 3 #[.int .i64 a0, .int .i64 4097]).run Tryz.prog W = .ok (.int .i64 z) W) ∧ 4096 < z :=
    ⟨max a0 4097, fun W => Go.Lib.run_max_ints _ _ _ _ _ _ _, by omega⟩
  have z1 : IntKind.i64.wrap (1 + (u : Int)) = 1 + (u : Int) := IntWalk.i64_in _ (by omega)
  have NS : ∀ X, Kept Old w X → Calls Tryz.prog 12 #[.int .i64 (1 + (u : Int))] X (NewSt w (1 + u) (fun _ => False) X) := fun X hX => by
    have h := snew_yes w (1 + u) (fun _ => False) X (by omega) (by omega) hX (fun _ h => h.elim)
    rwa [show ((1 + u : Nat) : Int) = 1 + (u : Int) from by omega] at h
  have NS := Lib.hid NS
  have V0 := Lib.hid (show Sv (1 + u) (K0 (1 + u)) [] from Sv.new (P := 1 + u) (by omega) (by omega))
  have A0 := Lib.hid (Or.inl hm0 : m0 < 1 ∨ 4096 < m0)
  have A1 := Lib.hid (Or.inr hm1 : m1 < 1 ∨ 4096 < m1)
  clear hm0 hm1 w0 w1 w2
  go_enter Tryz.func11, Tryz.ntmps11
  go_wp2_with fail
  refine (alloc_nil a0 _).mono ?_
  rintro e W0 ⟨rfl, rfl⟩
  go_wp2_with fail
  refine (free_nil a1 _).mono ?_
  rintro e W1 ⟨rfl, rfl⟩
  go_wp2_with fail
  refine (gc_nil true _).mono ?_
  rintro e W2 ⟨rfl, rfl⟩
  go_wp2_with fail
  refine (NS.out _ (Kept.refl Old _)).mono ?_
  rintro e W3 ⟨s, rfl, ⟨pl, m⟩, _, _⟩
  have M := Lib.hid m
  clear m
  go_wp2_with fail
  refine (alloc_bad _ A0.out M.out V0.out).mono ?_
  rintro e W4 ⟨rfl, pl, m⟩
  have M := Lib.hid m
  clear m
  go_wp2_with fail
  refine (alloc_bad _ A1.out M.out V0.out).mono ?_
  rintro e W5 ⟨rfl, pl, m⟩
  have M := Lib.hid m
  clear m
  go_wp2_with fail
  refine (on_nil _).mono ?_
  rintro e W6 ⟨rfl, rfl⟩
  go_wp2_with fail
  refine (live_nil _).mono ?_
  rintro e W6 ⟨rfl, rfl⟩
  go_wp2_with fail
  refine (parts_nil _).mono ?_
  rintro e W6 ⟨rfl, k6⟩
  have M := Lib.hid (M.out.old k6)
  clear k6
  go_wp2_with fail
  refine (sameparts_nil _).mono ?_
  rintro e W7 ⟨rfl, k7⟩
  have M := Lib.hid (M.out.old k7)
  clear k7
  go_wp2_with fail
  refine (free_new a1 M.out V0.out).mono ?_
  rintro e W8 ⟨rfl, pl8, m⟩
  have K8 := Lib.hid (show Kept Old w W8 from m.ff.kept)
  clear m
  go_wp2_with fail
  refine (awake_any _).mono ?_
  rintro e W9 ⟨rfl, k9⟩
  go_wp2_with fail
  go_ret
  exact ⟨rfl, K8.out.trans k9⟩

/-- The row's step. -/
theorem lifted (os : Os) (started : os.Started) (H : Type) (enc : TypeId × Value → H) :
    ReturnsInHanded {} Tryz.checked os 11 .any (Rows.storeNoneSpec.pre6 enc Tryz.prog Tryz.f11 Rows.storeNoneRow.domain false) (Rows.storeNoneSpec.post enc Tryz.prog Tryz.f11 false true false false) := by
  refine returnsInHanded_of_change_sized (C := Tryz.checked) own started (by kernel_rfl) Tryz.func11
    (ChangeSpec.witness6 (enc := enc) (C := Tryz.checked) false ⟨#[], #[.int .i64 0, .int .i64 0, .int .u8 0], []⟩ 8 (by kernel_rfl) (by kernel_rfl) (by kernel_rfl) (by kernel_rfl)) ?_
  intro W base args ds gs before hval0 hW hcnd hsz0 _
  have hsz : (DataW.weightsEach Tryz.prog (Tryz.f11.params.toList ++ Rows.storeNoneSpec.plain.varTypes Tryz.prog) (ds ++ gs)).all (· ≤ reachBytes) = true := hsz0
  have hval : ∀ (j : Nat) t v, Tryz.f11.params[j]? = some t → args[j]? = some v → Value.okWide Tryz.prog W .any base t v := hval0
  have hW' := hW
  obtain ⟨p, q, hA0, hV, rfl, hfz, hnd⟩ := hW
  have hA : DataW.TrodAll enc Tryz.prog W 0 (fun _ => true) true Tryz.f11.params.toList args.toList ds p := hA0
  rw [Tryz.params11] at hA hval hsz
  obtain ⟨v0, vs0, d0, ds0, p0, q0, hargs, rfl, rfl, h0, r0⟩ := trodAll_cons hA
  obtain ⟨v1, vs1, d1, ds1, p1, q1, rfl, rfl, rfl, h1, r1⟩ := trodAll_cons r0
  obtain ⟨v2, vs2, d2, ds2, p2, q2, rfl, rfl, rfl, h2, r2⟩ := trodAll_cons r1
  obtain ⟨rfl, rfl, rfl⟩ := trodAll_nil r2
  obtain rfl : args = #[v0, v1, v2] := by cases args; simp_all
  obtain ⟨rfl, rfl⟩ := trodVars_none hV
  obtain ⟨a0, rfl, rfl, rfl, w0⟩ := open_int Tryz.underlying3 (hval 0 3 v0 rfl rfl) h0
  obtain ⟨a1, rfl, rfl, rfl, w1⟩ := open_int Tryz.underlying3 (hval 1 3 v1 rfl rfl) h1
  obtain ⟨a2, rfl, rfl, rfl, w2⟩ := open_int Tryz.underlying5 (hval 2 5 v2 rfl rfl) h2
  clear hA0 hval0
  refine (walk a0 a1 a2 W w0 w1 w2).mono fun e W' ⟨he, kept⟩ => ?_
  subst he
  have bel : Below W.heap.size W W' := kept.toBelow (Nat.le_refl _) (fun _ x => x.elim)
  exact ⟨_, rfl, _, _, _, [], _, [], hW', trodAll_mk1 (shut_bool Tryz.underlying4 _), (trodAll_cons_mk (shut_int Tryz.underlying3 w0) (trodAll_cons_mk (shut_int Tryz.underlying3 w1) (trodAll_cons_mk (shut_int Tryz.underlying5 w2) trodAll_mk0))), rfl, bel.frame _, fun h => by cases h⟩

theorem over : Rows.StoreNoneSaid :=
  OpenClaim.holds_of_wide 11 Tryz.f11 rfl rfl rfl rfl rfl rfl rfl ⟨rfl, rfl, rfl, rfl, rfl⟩ rfl rfl rfl rfl rfl (by kernel_rfl) Tryz.func11 (by kernel_rfl)
    (of_decide_eq_true (by kernel_rfl)) (by unfold Func.isWrapper; first | (rw [if_pos (by decide +kernel)]; kernel_rfl) | (rw [if_neg (by decide +kernel)]; exact ⟨rfl, rfl⟩))
    (fun os started H enc _ => lifted os started H enc)

/-- The statement. -/
theorem proved : Rows.StoreNoneSaid := over
#print axioms proved
end Go.Proofs.YtjfkmgicbakmgaaGreat.storeNone
