/-
  For every input the law ChainRaw of rickyard/rickyardlaw9 returns true, and its arguments read afterwards as before. The law's own sentence: So of any words, any head, any place; and of a walk, as far as any number. No further conditions.
-/
import Derived.Test.YtnhgimglefpbaaaRows
import Derived.Test.YtnhgimglefpbaaaKept
import Derived.Test.YtnhgimglefpbaaaShell
import Derived.Test.YtnhgimglefpbaaaShellInts
import Derived.WalkKit
import Derived.ProofKit
import Derived.OpenShut
import Derived.ChangeOld
import Derived.Below
import Derived.Lib.SmallJoins
import Derived.Test.YtnhgimglefpbaaaChainLaw
import Derived.Test.YtnhgimglefpbaaaArenaLaid
import Derived.Test.YtnhgimglefpbaaaRdIn
import Derived.Deep.DeepCutAuto
namespace Go.Proofs.Ytnhgimglefpbaaa.chainRaw
open Go.ChangeShapes Go.WideShapes Go.ChangeAt Go.RowKit
set_option linter.unusedVariables false
set_option maxRecDepth 100000

theorem own : ownKnob Try.prog.godebug = none := by kernel_rfl
theorem laidOut : laidOutB Try.prog = true := by kernel_rfl
/-- What both walks tell: the same list, the same code. -/
def WalkOut (l : List Int) (x : Int) (w : World) (e : Ending) (w' : World) : Prop := ∃ v, e = .returned (.tuple #[v, .int .i64 x]) ∧ MadeI l w v w'
theorem madeI_nil {w w' : World} (k : Kept Old w w') : MadeI [] w (.slice none 0 0) w' := ⟨none, 0, 0, rfl, RsI.nil _ _, Nat.le_refl _, ⟨fun _ => rfl, fun _ e => by cases e⟩, k⟩
theorem walk_out {r : Option (List Nat)} {w w' : World} {e : Ending} (h : WalkPost r w e w') : WalkOut (NI (r.getD [])) (if r.isSome then 0 else 6) w e w' := by
  rcases h with ⟨l, v, rfl, rfl, m⟩ | ⟨rfl, rfl, k⟩
  · exact ⟨v, rfl, m⟩
  · exact ⟨_, rfl, madeI_nil k⟩
theorem walk_both (ws : List Nat) (h m : Int) (hn : ws.length ≤ 16384) (b0 : -9223372036854775808 ≤ m) (b1 : m ≤ 2000) :
    ∃ (l : List Int) (x : Int), l.length ≤ 16384 ∧ (∀ (w : World) (p g : Nat), Ar w p g ws → Calls Try.prog 16 #[ptr p, .int .i64 h, .int .i64 m] w (WalkOut l x w)) ∧
      (∀ (w : World) (A : Option Addr) (n c : Nat), Rd w A n ws → Calls Try.prog 17 #[.slice A n c, .int .i64 h, .int .i64 m] w (WalkOut l x w)) := by
  by_cases c : h < 0 ∨ (ws.length : Int) < h
  · refine ⟨[], 1, by simp, fun w p g a => (walk_bad h m w a c).mono ?_, fun w A n cp r => (rwalk_bad A n cp h m w (by have := r.len; omega) (by have := r.len; omega)).mono ?_⟩
    · rintro e w' ⟨rfl, rfl⟩; exact ⟨_, rfl, madeI_nil (Kept.refl _ _)⟩
    · rintro e w' ⟨rfl, rfl⟩; exact ⟨_, rfl, madeI_nil (Kept.refl _ _)⟩
  · obtain ⟨k, rfl⟩ : ∃ k : Nat, h = k := ⟨h.toNat, by omega⟩
    refine ⟨NI ((walkL ws m.toNat k).getD []), if (walkL ws m.toNat k).isSome then 0 else 6, ?_, fun w p g a => (walk_any k m w a (by omega) b0 (by omega)).mono fun e w' h => walk_out h, fun w A n cp r => (rwalk_any A n cp ws k m w r (by have := r.len; omega) (by have := r.len; omega) b0 b1).mono fun e w' h => walk_out h⟩
    rw [NI_length]
    cases e : walkL ws m.toNat k with
    | none => simp
    | some l => have := walkL_len e; simp; omega
/-- What both pushes tell: the same answer, the same words. -/
theorem push_both (ws : List Nat) (h k : Int) (hn : ws.length ≤ 16384) (b0 : -9223372036854775808 ≤ k) (b1 : k ≤ 9223372036854775807) :
    ∃ (x y : Int) (vs : List Nat), (∀ (w : World) (p g : Nat), Ar w p g ws → Calls Try.prog 12 #[ptr p, .int .i64 h, .int .i64 k] w fun e w' => e = .returned (.tuple #[.int .i64 x, .int .i64 y]) ∧ Ar w' p g vs ∧ Kept (Only g) w w') ∧
      (∀ (w : World) (A : Option Addr) (n c : Nat), Rd w A n ws → Calls Try.prog 13 #[.slice A n c, .int .i64 h, .int .i64 k] w fun e w' => ∃ B d, e = .returned (.tuple #[.slice B n d, .int .i64 x, .int .i64 y]) ∧ Rd w' B n vs ∧ Kept Old w w') := by
  by_cases c : h < 0 ∨ (ws.length : Int) < h
  · refine ⟨0, 1, ws, fun w p g a => (push_head h k w a c).mono ?_, fun w A n cp r => (rpush_bad A n cp h k w (by have := r.len; omega) (by have := r.len; omega)).mono ?_⟩
    · rintro e w' ⟨rfl, rfl⟩; exact ⟨rfl, a, Kept.refl _ _⟩
    · rintro e w' ⟨rfl, rfl⟩; exact ⟨_, _, rfl, r, Kept.refl _ _⟩
  · obtain ⟨h', rfl⟩ : ∃ k : Nat, h = k := ⟨h.toNat, by omega⟩
    by_cases d : k < 0 ∨ (ws.length : Int) ≤ k
    · refine ⟨0, 1, ws, fun w p g a => (push_at h' k w a (by omega) d b0 b1).mono ?_, fun w A n cp r => (rpush_bad A n cp h' k w (by have := r.len; omega) (by have := r.len; omega)).mono ?_⟩
      · rintro e w' ⟨rfl, rfl⟩; exact ⟨rfl, a, Kept.refl _ _⟩
      · rintro e w' ⟨rfl, rfl⟩; exact ⟨_, _, rfl, r, Kept.refl _ _⟩
    · obtain ⟨k', rfl⟩ : ∃ n : Nat, k = n := ⟨k.toNat, by omega⟩
      refine ⟨(k' : Int) + 1, 0, ws.set k' h', fun w p g a => push_ok h' k' w a (by omega) (by omega), fun w A n cp r => (rpush_ok A n cp ws h' k' w r (by have := r.len; omega) (by have := r.len; omega) (by have := r.len; omega)).mono ?_⟩
      rintro e w' ⟨g2, cp2, rfl, r2, _, k3⟩
      exact ⟨_, _, rfl, r2, k3⟩

set_option maxHeartbeats 8000000 in
/-- The walk: the Go text returns true, and nothing that was there has turned. -/
theorem walk (a0 : Option Addr) (len0 cap0 : Nat) (z0 : Nat → Int) (a1 : Int) (a2 : Int) (a3 : Int) (w : World) (w0 : len0 ≤ cap0 ∧ cap0 ≤ maxLen ∧ (∀ i, i < len0 → (Lit.int .u64 (z0 i)).wf = true) ∧ Sl w a0 1 len0 fun i _ => .int .u64 (z0 i)) (w1 : (Lit.int .i64 a1).wf = true) (w2 : (Lit.int .i64 a2).wf = true) (w3 : (Lit.int .i64 a3).wf = true) :
    Calls Try.prog 4 #[.slice a0 len0 cap0, .int .i64 a1, .int .i64 a2, .int .i64 a3] w fun e w' => e = .returned (.bool true) ∧ Kept Old w w' := by
  obtain ⟨xs, rd⟩ := rd_sl w0.2.2.1 w0.2.2.2
  have b1 := bounds_i64 w1
  have b2 := bounds_i64 w2
  have b3 := bounds_i64 w3
  clear w0 w1 w2 w3
  have hL := Lib.hid (laid_any 1 a0 len0 cap0 xs w (by omega) (by omega) rd)
  clear rd
  by_cases big : 2000 < a3
  · go_enter Try.func4, Try.ntmps4
    go_wp2_with fail
    refine hL.out.mono ?_
    rintro e w1 ⟨p, g, h, rfl, L⟩
    have K1 := Lib.hid L.kept
    clear L hL
    go_wp2_with fail
    refine (awake9_any _).mono ?_
    rintro e w3 ⟨rfl, k3⟩
    go_wp2_with fail
    go_ret
    exact ⟨rfl, K1.out.trans k3⟩
  · have big' : decide (2000 < a3) = false := decide_eq_false big
    go_enter Try.func4, Try.ntmps4
    go_wp2_with fail
    refine hL.out.mono ?_
    rintro e w1 ⟨p, g, h, rfl, L⟩
    obtain ⟨ws, hws⟩ : ∃ ws, ws = laidL (1 * 64) (min (1 * 64) xs.length) xs := ⟨_, rfl⟩
    have hlen : ws.length = 64 := by rw [hws]; exact laid_length _ _ _ (by omega)
    have A1 := Lib.hid L.ar
    have R1 := L.row.rd
    rw [← hws] at A1 R1
    rw [hlen] at R1
    have R1 := Lib.hid R1
    have K1 := Lib.hid L.kept
    have NE := Lib.hid L.ne
    have GB := Lib.hid L.gB
    have HL := Lib.hid hlen
    clear L hL hws hlen
    obtain ⟨l, x, ll, Q1, Q2⟩ := walk_both ws a1 a3 (by rw [HL.out]; omega) b3.1 (by omega)
    have Q1 := Lib.hid Q1
    have Q2 := Lib.hid Q2
    obtain ⟨s, y, vs, T1, T2⟩ := push_both ws a1 a2 (by rw [HL.out]; omega) b2.1 b2.2
    have T1 := Lib.hid T1
    have T2 := Lib.hid T2
    have P1 := Lib.hid (pop_any a1 w1 A1.out)
    have P2 := Lib.hid (rpop_any (some ⟨h, 0, none⟩) 64 64 ws a1 w1 R1.out (by omega))
    obtain ⟨u1, hu1⟩ : ∃ u, (popV ws a1).1 = u := ⟨_, rfl⟩
    obtain ⟨u2, hu2⟩ : ∃ u, (popV ws a1).2.1 = u := ⟨_, rfl⟩
    obtain ⟨u3, hu3⟩ : ∃ u, (popV ws a1).2.2 = u := ⟨_, rfl⟩
    rw [hu1, hu2, hu3] at P1 P2
    clear hu1 hu2 hu3
    go_wp2_with fail
    refine P1.out.mono ?_
    rintro e w' ⟨rfl, rfl⟩
    go_wp2_with fail
    refine P2.out.mono ?_
    rintro e w' ⟨rfl, rfl⟩
    clear P1 P2
    go_wp2_with fail
    refine (Q1.out _ _ _ A1.out).mono ?_
    rintro e w2 ⟨v, rfl, B, n, c, rfl, r2, _, ⟨_, nb⟩, k2⟩
    have hnl := Lib.hid r2.len
    have hnn : n ≤ 16384 := by have := hnl.out; omega
    have RA := Lib.hid r2
    have R2 := Lib.hid (R1.out.old k2)
    have A2 := Lib.hid (A1.out.kept k2 (fun x => x) (fun x => x))
    have K2 := Lib.hid (K1.out.trans k2)
    clear r2 nb k2 R1 A1 K1 Q1
    go_wp2_with fail
    refine (Q2.out _ _ _ _ R2.out).mono ?_
    rintro e w3 ⟨v, rfl, C, n', c', rfl, r3, _, ⟨_, nc⟩, k3⟩
    obtain rfl : n = n' := by rw [← hnl.out, ← r3.len]
    have RA3 := Lib.hid (RA.out.old k3)
    have RC := Lib.hid r3
    have R3 := Lib.hid (R2.out.old k3)
    have A3 := Lib.hid (A2.out.kept k3 (fun x => x) (fun x => x))
    have K3 := Lib.hid (K2.out.trans k3)
    clear r3 nc k3 R2 A2 K2 Q2 RA
    go_wp2_with fail
    refine (sameI_any _ _ _ _ _ _ _ RA3.out RC.out (by omega)).mono ?_
    intro e w4 d
    obtain ⟨rfl, k4⟩ := d.old
    have R4 := Lib.hid (R3.out.old k4)
    have A4 := Lib.hid (A3.out.kept k4 (fun x => x) (fun x => x))
    have K4 := Lib.hid (K3.out.trans k4)
    clear d k4 R3 A3 K3 RA3 RC
    go_wp2_with fail
    refine (T1.out _ _ _ A4.out).mono ?_
    rintro e w5 ⟨rfl, a5, k5⟩
    have R5 := Lib.hid (R4.out.kept k5 (fun ad e => by injection e with e; subst e; exact fun e => NE.out e.symm))
    have A5 := Lib.hid a5
    have K5 := Lib.hid (K4.out.join k5 (fun i hi e => by have := GB.out; omega))
    clear a5 k5 R4 A4 K4 T1
    go_wp2_with fail
    refine (T2.out _ _ _ _ R5.out).mono ?_
    rintro e w6 ⟨D, cd, rfl, r6, k6⟩
    have R6 := Lib.hid r6
    have A6 := Lib.hid (A5.out.kept k6 (fun x => x) (fun x => x))
    have K6 := Lib.hid (K5.out.trans k6)
    clear r6 k6 R5 A5 K5 T2
    go_wp2_with fail
    refine (words_rd _ _ _ _ A6.out R6.out).mono ?_
    rintro e w7 ⟨rfl, k7⟩
    go_wp2_with fail
    refine (awake9_any _).mono ?_
    rintro e w8 ⟨rfl, k8⟩
    go_wp2_with fail
    go_ret
    exact ⟨rfl, (K6.out.trans k7).trans k8⟩

/-- The row's step. -/
theorem lifted (os : Os) (started : os.Started) (H : Type) (enc : TypeId × Value → H) :
    ReturnsInHanded {} Try.checked os 4 .any (Rows.chainRawSpec.pre6 enc Try.prog Try.f4 Rows.chainRawRow.domain false) (Rows.chainRawSpec.post enc Try.prog Try.f4 false true false false) := by
  refine returnsInHanded_of_change (C := Try.checked) own started (by kernel_rfl) Try.func4
    (ChangeSpec.witness6 (enc := enc) (C := Try.checked) false ⟨#[], #[.slice none 0 0, .int .i64 0, .int .i64 0, .int .i64 0], []⟩ 8 (by kernel_rfl) (by kernel_rfl) (by kernel_rfl) (by kernel_rfl)) ?_
  intro W base args ds gs before hval0 hW hcnd _
  have hval : ∀ (j : Nat) t v, Try.f4.params[j]? = some t → args[j]? = some v → Value.okWide Try.prog W .any base t v := hval0
  have hW' := hW
  obtain ⟨p, q, hA0, hV, rfl, hfz, hnd⟩ := hW
  have hA : DataW.TrodAll enc Try.prog W 0 (fun _ => true) true Try.f4.params.toList args.toList ds p := hA0
  rw [Try.params4] at hA hval
  obtain ⟨v0, vs0, d0, ds0, p0, q0, hargs, rfl, rfl, h0, r0⟩ := trodAll_cons hA
  obtain ⟨v1, vs1, d1, ds1, p1, q1, rfl, rfl, rfl, h1, r1⟩ := trodAll_cons r0
  obtain ⟨v2, vs2, d2, ds2, p2, q2, rfl, rfl, rfl, h2, r2⟩ := trodAll_cons r1
  obtain ⟨v3, vs3, d3, ds3, p3, q3, rfl, rfl, rfl, h3, r3⟩ := trodAll_cons r2
  obtain ⟨rfl, rfl, rfl⟩ := trodAll_nil r3
  obtain rfl : args = #[v0, v1, v2, v3] := by cases args; simp_all
  obtain ⟨rfl, rfl⟩ := trodVars_none hV
  have k0 := h0
  have lt0 : ∀ x ∈ p0, x.block < W.heap.size := by obtain ⟨m, hm⟩ := k0; exact DataW.trod_lt m _ _ _ hm
  obtain ⟨a0, len0, cap0, rfl⟩ := okWide_slice Try.underlying22 (hval 0 22 v0 rfl rfl)
  obtain ⟨z0, w0⟩ := ints_in Try.underlying22 Try.underlying47 (by kernel_rfl) h0
  obtain ⟨a1, rfl, rfl, rfl, w1⟩ := open_int Try.underlying3 (hval 1 3 v1 rfl rfl) h1
  obtain ⟨a2, rfl, rfl, rfl, w2⟩ := open_int Try.underlying3 (hval 2 3 v2 rfl rfl) h2
  obtain ⟨a3, rfl, rfl, rfl, w3⟩ := open_int Try.underlying3 (hval 3 3 v3 rfl rfl) h3
  clear hA0 hval0
  refine (walk a0 len0 cap0 z0 a1 a2 a3 W w0 w1 w2 w3).mono fun e W' ⟨he, kept⟩ => ?_
  subst he
  have bel : Below W.heap.size W W' := kept.toBelow (Nat.le_refl _) (fun _ x => x.elim)
  exact ⟨_, rfl, _, _, _, [], _, [], hW', trodAll_mk1 (shut_bool Try.underlying4 _), (trodAll_cons_mk (Below.trod laidOut (by kernel_rfl) (of_decide_eq_true (by kernel_rfl)) k0 bel lt0) (trodAll_cons_mk (shut_int Try.underlying3 w1) (trodAll_cons_mk (shut_int Try.underlying3 w2) (trodAll_cons_mk (shut_int Try.underlying3 w3) trodAll_mk0)))), rfl, bel.frame _, fun h => by cases h⟩

theorem over : Rows.ChainRawSaid :=
  OpenClaim.holds_of_wide 4 Try.f4 rfl rfl rfl rfl rfl rfl rfl ⟨rfl, rfl, rfl, rfl, rfl⟩ rfl rfl rfl rfl rfl (by kernel_rfl) Try.func4 (by kernel_rfl)
    (of_decide_eq_true (by kernel_rfl)) (by unfold Func.isWrapper; first | (rw [if_pos (by decide +kernel)]; kernel_rfl) | (rw [if_neg (by decide +kernel)]; exact ⟨rfl, rfl⟩))
    (fun os started H enc _ => lifted os started H enc)

/-- The statement. -/
theorem proved : Rows.ChainRawSaid := over
#print axioms proved
end Go.Proofs.Ytnhgimglefpbaaa.chainRaw
