/-
  For every input the law ModelBack of rickyard/rickyardlaw13 returns true, and its arguments read afterwards as before. The law's own sentence: What is allocated, and freed, leaves the model; it is found in between, with its class, and no owner; a second time it is not allocated, nor freed. No further conditions.
-/
import Derived.Test.YtmajgfpfbieakaaRows
import Derived.Test.YtmajgfpfbieakaaKept
import Derived.Test.YtmajgfpfbieakaaShell
import Derived.Test.YtmajgfpfbieakaaShellSized
import Derived.SizedLaws
import Derived.Test.YtmajgfpfbieakaaShellInts
import Derived.WalkKit
import Derived.ProofKit
import Derived.OpenShut
import Derived.ChangeOld
import Derived.Below
import Derived.Lib.SmallJoins
import Derived.Test.YtmajgfpfbieakaaMadeMade
import Derived.Test.YtmajgfpfbieakaaModelLaw
import Derived.WalkKit
import Derived.ProofKit
import Derived.OpenShut
import Derived.Outline
import Derived.Deep.Light
import Derived.Deep.QuietTactic
import Derived.BigQuiet
import Derived.IntWalk
import Derived.StillTailTactics
import Derived.RegionTactic
import Derived.Deep.RegionLaw
import Derived.Deep.RegionHeld3
import Derived.Test.YtmajgfpfbieakaaModelAlloc
import Derived.Test.YtmajgfpfbieakaaModelFree
namespace Go.Proofs.Ytmajgfpfbieakaa.modelBack
open Go.ChangeShapes Go.WideShapes Go.ChangeAt Go.RowKit
set_option linter.unusedVariables false
set_option maxRecDepth 100000

theorem own : ownKnob Try.prog.godebug = none := by kernel_rfl
theorem laidOut : laidOutB Try.prog = true := by kernel_rfl
theorem kept_of {L : List Lm.S} {w w' : World} {v : Value} (h : Lm.MadeS L w v w') : Kept Old w w' := h.kept
theorem ins_get {l : List Lm.S} {x : Lm.S} : (Lm.insL l x)[Lm.placeL l x.a]? = some x := by
  have h := Lm.place_le l x.a
  unfold Lm.insL
  rw [List.getElem?_append_right (by rw [List.length_take]; omega), List.length_take, Nat.min_eq_left h, Nat.sub_self]
  rfl
theorem ins_place {l : List Lm.S} {x : Lm.S} : Lm.placeL (Lm.insL l x) x.a = Lm.placeL l x.a := by
  have h := Lm.place_le l x.a
  refine Lm.place_eq (by unfold Lm.insL; simp; omega) (fun j y hy hj => ?_) (fun y hy => ?_)
  · unfold Lm.insL at hy
    rw [List.getElem?_append_left (by rw [List.length_take]; omega), List.getElem?_take, if_pos hj] at hy
    exact Lm.place_lo l x.a hy hj
  · rw [ins_get] at hy
    injection hy with hy
    rw [hy]
    exact Int.le_refl _
theorem ins_del {l : List Lm.S} {x : Lm.S} : Lm.delL (Lm.insL l x) x.a = l := by
  have h := Lm.place_le l x.a
  unfold Lm.delL
  rw [ins_place]
  unfold Lm.insL
  generalize Lm.placeL l x.a = p at *
  have e : (l.take p).length = p := by rw [List.length_take]; omega
  rw [List.take_append_of_le_length (by omega), List.take_of_length_le (by omega), List.drop_append, List.drop_of_length_le (by omega), e]
  simp
theorem back_all {W : Int} {l : List Lm.S} {n a : Int} (v : Lm.Valid W l) (r : Lm.roomB W l n a = true) :
    Lm.hasB (Lm.insL l (Lm.newS n a)) a = true ∧ Lm.findS (Lm.insL l (Lm.newS n a)) a = Lm.newS n a ∧ Lm.roomB W (Lm.insL l (Lm.newS n a)) n a = false ∧ Lm.freeL (Lm.insL l (Lm.newS n a)) a = l ∧ Lm.freeC (Lm.insL l (Lm.newS n a)) a = 0 ∧ Lm.freeW W (Lm.insL l (Lm.newS n a)) a = W ∧ Lm.hasB l a = false := by
  have x0 : (Lm.newS n a).a = a := rfl
  have g := ins_get (l := l) (x := Lm.newS n a)
  have pl := ins_place (l := l) (x := Lm.newS n a)
  have dl := ins_del (l := l) (x := Lm.newS n a)
  rw [x0] at g pl dl
  have hb : Lm.hasB (Lm.insL l (Lm.newS n a)) a = true := by
    rw [Lm.has_some (y := Lm.newS n a) (by rw [pl]; exact g)]
    exact decide_eq_true rfl
  obtain ⟨c8, ly, an⟩ := Lm.room_ok r
  have w32 := ly.w0
  refine ⟨hb, ?_, ?_, ?_, ?_, ?_, ?_⟩
  · unfold Lm.findS
    rw [if_pos hb, pl, List.getD_eq_getElem?_getD, g]
    rfl
  · have : Lm.anyB (Lm.insL l (Lm.newS n a)) a (wordsI (classI n)) = true := List.any_eq_true.2 ⟨_, List.mem_of_getElem? g, decide_eq_true ⟨by show a < a + _; omega, by show a < a + wordsI (classI n); omega⟩⟩
    unfold Lm.roomB
    rw [this]
    simp
  · unfold Lm.freeL
    rw [if_pos hb, dl]
  · unfold Lm.freeC
    rw [if_pos hb]
  · unfold Lm.freeW
    rw [if_pos hb]
  · cases q : Lm.hasB l a with
    | false => rfl
    | true =>
      obtain ⟨y, hy, e, _⟩ := Lm.has_at q
      have m := Lm.any_mem an (List.mem_of_getElem? hy)
      have ly2 := v.at_ hy
      have := ly2.w0
      unfold Lm.endI at m
      omega

set_option maxHeartbeats 3000000 in
/-- The walk: the Go text returns true, and nothing that was there has turned. -/
theorem walk (a0 : Option Addr) (len0 cap0 : Nat) (z0 : Nat → Int) (a1 : Int) (a2 : Int) (w : World) (w0 : len0 ≤ cap0 ∧ cap0 ≤ maxLen ∧ (∀ i, i < len0 → (Lit.int .u8 (z0 i)).wf = true) ∧ Sl w a0 1 len0 fun i _ => .int .u8 (z0 i)) (rch0 : cap0 * 1 ≤ 140737488351232 ∧ (a0 = none → len0 = 0 ∧ cap0 = 0)) (w1 : (Lit.int .u16 a1).wf = true) (w2 : (Lit.int .u16 a2).wf = true) :
    Calls Try.prog 6 #[.slice a0 len0 cap0, .int .u16 a1, .int .u16 a2] w fun e w' => e = .returned (.bool true) ∧ Kept Old w w' := by
  obtain ⟨n0, n1, nz, ns⟩ := w0
  have b1 := bounds_u16 w1
  have b2 := bounds_u16 w2
  obtain ⟨P, hP, p0, p1⟩ : ∃ P : Int, a1.tmod 4096 = P ∧ 0 ≤ P ∧ P < 4096 := ⟨_, Int.tmod_eq_emod_of_nonneg b1.1, by omega, by omega⟩
  obtain ⟨Q, hQ, q0, q1⟩ : ∃ Q : Int, a2.tmod 512 = Q ∧ 0 ≤ Q ∧ Q < 512 := ⟨_, Int.tmod_eq_emod_of_nonneg b2.1, by omega, by omega⟩
  have u1 : IntKind.i64.wrap a1 = a1 := IntWalk.i64_in _ (by omega)
  have u2 : IntKind.i64.wrap a2 = a2 := IntWalk.i64_in _ (by omega)
  have u3 : IntKind.i64.wrap (1 + P) = 1 + P := IntWalk.i64_in _ (by omega)
  have u4 : IntKind.i64.wrap (Q * 32) = Q * 32 := IntWalk.i64_in _ (by omega)
  have ml : len0 ≤ 9223372036854775000 := by have := rch0.1; omega
  have CM := Lib.hid (fun X h => Lm.made_any a0 len0 cap0 z0 X ml (fun i hi => bounds_u8 (nz i hi)) h)
  have MO := Lm.made_ok z0 len0 (fun i hi => (bounds_u8 (nz i hi)).1)
  have NS := Lib.hid ns
  generalize Lm.madeL z0 len0 = l at *
  have VM := Lib.hid MO.2
  have LM := MO.1
  clear n1 nz ns w1 w2 rch0 MO
  have in64 : Lm.in64S (Q * 32) := ⟨by omega, by omega⟩
  have IN := Lib.hid in64
  clear in64
  go_enter Try.func6, Try.ntmps6
  go_wp2_with fail
  refine (CM.out _ NS.out).mono ?_
  rintro e w1 ⟨v, rfl, M1⟩
  obtain ⟨A1, m1, c1, rfl, R1, hc1, hA1, k1⟩ := M1
  have k1 := k1.alloc (.cells #[.int .i64 16384, .slice A1 m1 c1] 24)
  have K1 := Lib.hid k1
  have R1 := Lib.hid (R1.alloc (.cells #[.int .i64 16384, .slice A1 m1 c1] 24))
  have B1 := Lib.hid (Lm.Bm.new w1 16384 (.slice A1 m1 c1))
  have hA1 := Lib.hid hA1
  clear k1 CM NS
  have x0 := B1.out.c0
  have x1 := B1.out.c1
  generalize hP1 : 1 + P = N at *
  generalize hQ1 : Q * 32 = at1 at *
  go_wp2_with fail
  refine (Lm.alloc_any 16384 A1 m1 c1 l N at1 _ R1.out VM.out hc1 hA1.out.1 IN.out).mono ?_
  rintro e w2 ⟨v2, rfl, M2⟩
  obtain ⟨A2, m2, c2, rfl, R2, hc2, hA2, k2⟩ := M2
  cases r : Lm.roomB 16384 l N at1 with
  | false =>
    have e1 := (Lm.room_no r).2.2.1
    have e2 := (Lm.room_no r).2.2.2
    rw [e1] at R2
    rw [e2]
    have k2 := k2.alloc (.cells #[.int .i64 0, .slice A2 m2 c2] 24)
    have K2 := Lib.hid (K1.out.trans k2)
    have B2 := Lib.hid (Lm.Bm.new w2 0 (.slice A2 m2 c2))
    obtain rfl : 0 = m2 := R2.len
    have y0 := B2.out.c0
    have y1 := B2.out.c1
    clear k2 e1 e2 r R2
    go_wp2_with (go_at_call 9; refine (Lm.awake_any _).mono ?_; rintro e w9 ⟨rfl, k9⟩; have K9 := Lib.hid (K2.out.trans k9))
    go_ret
    exact ⟨rfl, K9.out⟩
  | true =>
    have e1 := (Lm.room_yes r).2.2.1
    have e2 := (Lm.room_yes r).2.2.2
    obtain ⟨f1, f2, f3, f4, f5, f6, f7⟩ := back_all VM.out r
    rw [e1] at R2
    rw [e2]
    have VN := Lib.hid (VM.out.ins r)
    have ml2 := Lib.hid (Lm.ins_len l (Lm.newS N at1))
    have k2 := k2.alloc (.cells #[.int .i64 16384, .slice A2 m2 c2] 24)
    have K2 := Lib.hid (K1.out.trans k2)
    have R2 := Lib.hid (R2.alloc (.cells #[.int .i64 16384, .slice A2 m2 c2] 24))
    have R1 := Lib.hid (R1.out.old k2)
    have B1 := Lib.hid (B1.out.old k2)
    have B2 := Lib.hid (Lm.Bm.new w2 16384 (.slice A2 m2 c2))
    have FI := Lib.hid (fun X h => Lm.find_any 16384 A2 m2 c2 (Lm.insL l (Lm.newS N at1)) at1 X h VN.out)
    rw [f1, f2] at FI
    have AT := Lib.hid (fun X h => Lm.alloc_any 16384 A2 m2 c2 (Lm.insL l (Lm.newS N at1)) N at1 X h VN.out hc2 hA2.1 IN.out)
    rw [f3] at AT
    have FR := Lib.hid (fun X h => Lm.free_any 16384 A2 m2 c2 (Lm.insL l (Lm.newS N at1)) at1 X h VN.out hc2)
    rw [f4, f5, f6] at FR
    generalize Lm.insL l (Lm.newS N at1) = l2 at *
    have CL := Lib.hid (fun X => rclass_any N X)
    obtain ⟨cl, hcl⟩ : ∃ cl, classI N = cl := ⟨_, rfl⟩
    have NX : Lm.newS N at1 = ⟨at1, cl, -1⟩ := by unfold Lm.newS; rw [hcl]
    rw [hcl] at CL
    rw [NX] at FI
    have HF7 := Lib.hid f7
    have LL := Lib.hid R2.out.len
    clear k2 e1 e2 r f1 f2 f3 f4 f5 f6 f7 hcl NX x0 x1
    have y0 := B2.out.c0
    have y1 := B2.out.c1
    go_wp2_with fail
    refine (CL.out _).mono ?_
    rintro e w' ⟨rfl, rfl⟩
    go_wp2_with fail
    refine (FI.out _ R2.out).mono ?_
    rintro e w3 ⟨rfl, k3⟩
    have k3 := k3.alloc (.cells #[.int .i64 at1, .int .i64 cl, .int .i64 (-1)] 40)
    have K3 := Lib.hid (K2.out.trans k3)
    have R2 := Lib.hid (R2.out.old k3)
    have R1 := Lib.hid (R1.out.old k3)
    have B1 := Lib.hid (B1.out.old k3)
    have B2 := Lib.hid (B2.out.old k3)
    have X3 := Lib.hid (Lm.BxS.new w3 ⟨at1, cl, -1⟩)
    have y0 := B2.out.c0
    have y1 := B2.out.c1
    clear k3 FI CL
    go_wp2_with fail
    refine (AT.out _ R2.out).mono ?_
    rintro e w4 ⟨v4, rfl, M4⟩
    obtain ⟨A4, m4, c4, rfl, _, _, _, k4⟩ := M4
    obtain ⟨W4, hW4⟩ : ∃ W4, Lm.allocW 16384 l2 N at1 = W4 := ⟨_, rfl⟩
    rw [hW4]
    have k4 := k4.alloc (.cells #[.int .i64 W4, .slice A4 m4 c4] 24)
    have K4 := Lib.hid (K3.out.trans k4)
    have R2 := Lib.hid (R2.out.old k4)
    have R1 := Lib.hid (R1.out.old k4)
    have B1 := Lib.hid (B1.out.old k4)
    have B2 := Lib.hid (B2.out.old k4)
    have X3 := Lib.hid (X3.out.old k4)
    have y0 := B2.out.c0
    have y1 := B2.out.c1
    clear k4 AT hW4
    go_wp2_with fail
    refine (FR.out _ R2.out).mono ?_
    rintro e w5 ⟨v5, rfl, M5⟩
    obtain ⟨A5, m5, c5, rfl, R5, hc5, hA5, k5⟩ := M5
    have k5 := k5.alloc (.cells #[.int .i64 16384, .slice A5 m5 c5] 24)
    have K5 := Lib.hid (K4.out.trans k5)
    have R5 := Lib.hid (R5.alloc (.cells #[.int .i64 16384, .slice A5 m5 c5] 24))
    have B5 := Lib.hid (Lm.Bm.new w5 16384 (.slice A5 m5 c5))
    have R1 := Lib.hid (R1.out.old k5)
    have B1 := Lib.hid (B1.out.old k5)
    have X3 := Lib.hid (X3.out.old k5)
    have y0 := B5.out.c0
    have y1 := B5.out.c1
    have F6 := Lib.hid (fun X h => Lm.free_any 16384 A5 m5 c5 l at1 X h VM.out hc5)
    rw [show Lm.freeC l at1 = 2 from by unfold Lm.freeC; rw [HF7.out]; rfl] at F6
    clear k5 FR
    go_wp2_with fail
    refine (F6.out _ R5.out).mono ?_
    rintro e w6 ⟨v6, rfl, M6⟩
    obtain ⟨A6, m6, c6, rfl, _, _, _, k6⟩ := M6
    obtain ⟨W6, hW6⟩ : ∃ W6, Lm.freeW 16384 l at1 = W6 := ⟨_, rfl⟩
    rw [hW6]
    have k6 := k6.alloc (.cells #[.int .i64 W6, .slice A6 m6 c6] 24)
    have K6 := Lib.hid (K5.out.trans k6)
    have R5 := Lib.hid (R5.out.old k6)
    have R1 := Lib.hid (R1.out.old k6)
    have B1 := Lib.hid (B1.out.old k6)
    have B5 := Lib.hid (B5.out.old k6)
    have X3 := Lib.hid (X3.out.old k6)
    have y0 := B5.out.c0
    have y1 := B5.out.c1
    have z0 := B1.out.c0
    have z1 := B1.out.c1
    have t0 := X3.out.c0
    have t1 := X3.out.c1
    have t2 := X3.out.c2
    clear k6 F6 hW6
    have SM := Lib.hid (fun X a b => Lm.samem_yes 16384 A5 A1 m5 m1 c5 c1 l X a b (by have := R5.out.len; omega))
    go_wp2_with (first
      | (go_at_call 17; refine (SM.out _ R5.out R1.out).mono ?_; rintro e w10 ⟨rfl, k10⟩; have K10 := Lib.hid (K6.out.trans k10))
      | (go_at_call 9; refine (Lm.awake_any _).mono ?_; rintro e w11 ⟨rfl, k11⟩; have K11 := Lib.hid (K10.out.trans k11)))
    go_ret
    exact ⟨rfl, K11.out⟩

/-- The row's step. -/
theorem lifted (os : Os) (started : os.Started) (H : Type) (enc : TypeId × Value → H) :
    ReturnsInHanded {} Try.checked os 6 .any (Rows.modelBackSpec.pre6 enc Try.prog Try.f6 Rows.modelBackRow.domain false) (Rows.modelBackSpec.post enc Try.prog Try.f6 false true false false) := by
  refine returnsInHanded_of_change_sized (C := Try.checked) own started (by kernel_rfl) Try.func6
    (ChangeSpec.witness6 (enc := enc) (C := Try.checked) false ⟨#[], #[.slice none 0 0, .int .u16 0, .int .u16 0], []⟩ 8 (by kernel_rfl) (by kernel_rfl) (by kernel_rfl) (by kernel_rfl)) ?_
  intro W base args ds gs before hval0 hW hcnd hsz0 _
  have hsz : (DataW.weightsEach Try.prog (Try.f6.params.toList ++ Rows.modelBackSpec.plain.varTypes Try.prog) (ds ++ gs)).all (· ≤ reachBytes) = true := hsz0
  have hval : ∀ (j : Nat) t v, Try.f6.params[j]? = some t → args[j]? = some v → Value.okWide Try.prog W .any base t v := hval0
  have hW' := hW
  obtain ⟨p, q, hA0, hV, rfl, hfz, hnd⟩ := hW
  have hA : DataW.TrodAll enc Try.prog W 0 (fun _ => true) true Try.f6.params.toList args.toList ds p := hA0
  rw [Try.params6] at hA hval hsz
  obtain ⟨v0, vs0, d0, ds0, p0, q0, hargs, rfl, rfl, h0, r0⟩ := trodAll_cons hA
  obtain ⟨v1, vs1, d1, ds1, p1, q1, rfl, rfl, rfl, h1, r1⟩ := trodAll_cons r0
  obtain ⟨v2, vs2, d2, ds2, p2, q2, rfl, rfl, rfl, h2, r2⟩ := trodAll_cons r1
  obtain ⟨rfl, rfl, rfl⟩ := trodAll_nil r2
  obtain rfl : args = #[v0, v1, v2] := by cases args; simp_all
  obtain ⟨rfl, rfl⟩ := trodVars_none hV
  have k0 := h0
  have lt0 : ∀ x ∈ p0, x.block < W.heap.size := by obtain ⟨m, hm⟩ := k0; exact DataW.trod_lt m _ _ _ hm
  obtain ⟨a0, len0, cap0, rfl⟩ := okWide_slice Try.underlying29 (hval 0 29 v0 rfl rfl)
  obtain ⟨z0, w0⟩ := ints_in Try.underlying29 Try.underlying5 (by kernel_rfl) h0
  have rch0 := slice_reach (j := 0) Try.underlying29 (show Try.prog.bytesOf 5 = 1 by kernel_rfl) k0 hsz rfl rfl
  obtain ⟨a1, rfl, rfl, rfl, w1⟩ := open_int Try.underlying28 (hval 1 28 v1 rfl rfl) h1
  obtain ⟨a2, rfl, rfl, rfl, w2⟩ := open_int Try.underlying28 (hval 2 28 v2 rfl rfl) h2
  clear hA0 hval0
  refine (walk a0 len0 cap0 z0 a1 a2 W w0 rch0 w1 w2).mono fun e W' ⟨he, kept⟩ => ?_
  subst he
  have bel : Below W.heap.size W W' := kept.toBelow (Nat.le_refl _) (fun _ x => x.elim)
  exact ⟨_, rfl, _, _, _, [], _, [], hW', trodAll_mk1 (shut_bool Try.underlying4 _), (trodAll_cons_mk (Below.trod laidOut (by kernel_rfl) (of_decide_eq_true (by kernel_rfl)) k0 bel lt0) (trodAll_cons_mk (shut_int Try.underlying28 w1) (trodAll_cons_mk (shut_int Try.underlying28 w2) trodAll_mk0))), rfl, bel.frame _, fun h => by cases h⟩

theorem over : Rows.ModelBackSaid :=
  OpenClaim.holds_of_wide 6 Try.f6 rfl rfl rfl rfl rfl rfl rfl ⟨rfl, rfl, rfl, rfl, rfl⟩ rfl rfl rfl rfl rfl (by kernel_rfl) Try.func6 (by kernel_rfl)
    (of_decide_eq_true (by kernel_rfl)) (by unfold Func.isWrapper; first | (rw [if_pos (by decide +kernel)]; kernel_rfl) | (rw [if_neg (by decide +kernel)]; exact ⟨rfl, rfl⟩))
    (fun os started H enc _ => lifted os started H enc)

/-- The statement. -/
theorem proved : Rows.ModelBackSaid := over
#print axioms proved
end Go.Proofs.Ytmajgfpfbieakaa.modelBack
