/-
  For every input the law ChainBack of rickyard/rickyardlaw9 returns true, and its arguments read afterwards as before. The law's own sentence: What is pushed last is popped first; all words elsewhere are as they were. No further conditions.
-/
import Derived.Test.YtnhgimglefpbaaaRows
import Derived.Test.YtnhgimglefpbaaaKept
import Derived.Test.YtnhgimglefpbaaaShell
import Derived.Test.YtnhgimglefpbaaaShellInts
import Derived.WalkKit
import Derived.ProofKit
import Derived.OpenShut
import Derived.ChangeOld
import Derived.Below
import Derived.Lib.SmallJoins
import Derived.Test.YtnhgimglefpbaaaChainLaw
import Derived.Test.YtnhgimglefpbaaaArenaLaid
import Derived.Test.YtnhgimglefpbaaaRdIn
import Derived.Deep.DeepCutAuto
namespace Go.Proofs.Ytnhgimglefpbaaa.chainBack
open Go.ChangeShapes Go.WideShapes Go.ChangeAt Go.RowKit
set_option linter.unusedVariables false
set_option maxRecDepth 100000

theorem own : ownKnob Try.prog.godebug = none := by kernel_rfl
theorem laidOut : laidOutB Try.prog = true := by kernel_rfl
/-- Where j places are left to pop. -/
structure BackUp (w : World) (p g h : Nat) (ws vs l : List Nat) (A : Option Addr) (j hd : Nat) (W : World) : Prop where
  ar : Ar W p g vs
  ch : Ch vs hd (l.take j).reverse
  row : ∃ ms, Row W h ms ∧ ms.length = 128 ∧ ∀ i, ms[i]? = if i ∈ l.drop j then vs[i]? else ws[i]?
  list : RsI W A l.length (NI l)
  kept : Kept Old w W
theorem BackUp.next {w : World} {p g h : Nat} {ws vs l : List Nat} {A : Option Addr} {j hd x y : Nat} {W : World} (b : BackUp w p g h ws vs l A (j + 1) hd W) (hx : l[j]? = some x) (hy : vs[x]? = some y) (hyl : y < 18446744073709551616)
    (c : Ch vs y (l.take j).reverse) (hp : p ≠ h) (hg : g ≠ h) (hA : ∀ ad, A = some ad → ad.block ≠ h) (hB : w.heap.size ≤ h) (x1 : x < 128) : BackUp w p g h ws vs l A j y (W.setCell ⟨h, x, none⟩ (.int .u64 (y : Int))) := by
  have k := only_setCell W h x (.int .u64 (y : Int))
  obtain ⟨ms, r, ml, mi⟩ := b.row
  refine ⟨b.ar.kept k hp hg, c, ⟨ms.set x y, r.put x hyl, by rw [List.length_set, ml], fun i => ?_⟩, b.list.kept k hA, b.kept.join k (fun i hi e => by have : i = h := e; omega)⟩
  have hd : l.drop j = x :: l.drop (j + 1) := by
    obtain ⟨hj, rfl⟩ := List.getElem?_eq_some_iff.1 hx
    exact List.drop_eq_getElem_cons hj
  rw [List.getElem?_set, hd]
  by_cases e : x = i
  · subst e
    rw [if_pos rfl, if_pos (by omega), if_pos List.mem_cons_self, hy]
  · rw [if_neg e, mi i]
    by_cases f : i ∈ l.drop (j + 1)
    · rw [if_pos f, if_pos (List.mem_cons_of_mem _ f)]
    · rw [if_neg f, if_neg (fun m => (List.mem_cons.1 m).elim (fun z => e z.symm) f)]
theorem BackUp.end_ {w : World} {p g h : Nat} {ws vs l : List Nat} {A : Option Addr} {hd : Nat} {W : World} (b : BackUp w p g h ws vs l A 0 hd W) (vo : ∀ i, i ∉ l → vs[i]? = ws[i]?) : hd = 0 ∧ Rd W (some ⟨h, 0, none⟩) 128 vs := by
  obtain ⟨ms, r, ml, mi⟩ := b.row
  refine ⟨by have := b.ch; simpa [Ch] using this, ?_⟩
  have : ms = vs := List.ext_getElem? fun i => by
    rw [mi i, List.drop_zero]
    by_cases f : i ∈ l
    · rw [if_pos f]
    · rw [if_neg f, vo i f]
  subst this
  have := r.rd
  rwa [ml] at this

set_option maxHeartbeats 8000000 in
/-- The walk: the Go text returns true, and nothing that was there has turned. -/
theorem walk (a0 : Option Addr) (len0 cap0 : Nat) (z0 : Nat → Int) (a1 : Option Addr) (len1 cap1 : Nat) (z1 : Nat → Int) (w : World) (w0 : len0 ≤ cap0 ∧ cap0 ≤ maxLen ∧ (∀ i, i < len0 → (Lit.int .u64 (z0 i)).wf = true) ∧ Sl w a0 1 len0 fun i _ => .int .u64 (z0 i)) (w1 : len1 ≤ cap1 ∧ cap1 ≤ maxLen ∧ (∀ i, i < len1 → (Lit.int .u8 (z1 i)).wf = true) ∧ Sl w a1 1 len1 fun i _ => .int .u8 (z1 i)) :
    Calls Try.prog 5 #[.slice a0 len0 cap0, .slice a1 len1 cap1] w fun e w' => e = .returned (.bool true) ∧ Kept Old w w' := by
  obtain ⟨xs, rd⟩ := rd_sl w0.2.2.1 w0.2.2.2
  have hL := Lib.hid (laid_any 2 a0 len0 cap0 xs w (by omega) (by omega) rd)
  have W1 := Lib.hid w1
  clear rd w0 w1
  go_enter Try.func5, Try.ntmps5
  go_wp2_with fail
  refine hL.out.mono ?_
  rintro e w1 ⟨p, g, h, rfl, L⟩
  obtain ⟨ws, hws⟩ : ∃ ws, ws = laidL (2 * 64) (min (2 * 64) xs.length) xs := ⟨_, rfl⟩
  have hlen : ws.length = 128 := by rw [hws]; exact laid_length _ _ _ (by omega)
  have A1 := Lib.hid L.ar
  have R1 := Lib.hid L.row
  rw [← hws] at A1 R1
  have K1 := Lib.hid L.kept
  have NE := Lib.hid L.ne
  have PH := Lib.hid L.ph
  have GB := Lib.hid L.gB
  have HB := Lib.hid L.hB
  have HL := Lib.hid hlen
  clear L hL hws hlen
  go_wp2_with fail
  refine (places_any _ _ _ z1 _ (by have := W1.out.1; have := W1.out.2.1; omega) W1.out.2.2.1 (W1.out.2.2.2.old K1.out)).mono ?_
  rintro e w2 ⟨l, v, rfl, nd, lt, B, n, c, rfl, r2, _, ⟨_, nb⟩, k2⟩
  have A2 := Lib.hid (A1.out.kept k2 (fun x => x) (fun x => x))
  have R2 := Lib.hid (R1.out.kept k2 (fun x => x))
  have K2 := Lib.hid (K1.out.trans k2)
  have FG := Lib.hid (show ∀ ad, B = some ad → ad.block ≠ g from fun ad e => by have := nb ad e; have := A1.out.row.lt; omega)
  have FH := Lib.hid (show ∀ ad, B = some ad → ad.block ≠ h from fun ad e => by have := nb ad e; have := R1.out.lt; omega)
  have ND := Lib.hid nd
  have LT := Lib.hid lt
  have RL := Lib.hid r2
  have PU := Lib.hid (pushed_any B n c l w2 A2.out r2 FG.out nd (fun x hx => by rw [HL.out]; exact lt x hx))
  have nl := Lib.hid r2.lenN
  have n1 : n ≤ 128 := by have := nodup_length 128 l nd lt; have := nl.out; omega
  clear nd lt r2 nb k2 A1 R1 K1
  go_wp2_with fail
  refine PU.out.mono ?_
  rintro e w3 ⟨hd, rfl, ⟨vs, a3, ch, vl, vo⟩, k3⟩
  rw [List.take_length] at vo
  have hlen : vs.length = 128 := by rw [vl, HL.out]
  have VL := Lib.hid hlen
  have VO := Lib.hid vo
  have S := Lib.hid (show BackUp w p g h ws vs l B n hd w3 from
    ⟨a3, by rw [← nl.out]; exact ch, ⟨ws, R2.out.kept k3 (fun e => NE.out e.symm), HL.out, fun i => by rw [← nl.out, List.drop_length, if_neg (by simp)]⟩, by rw [nl.out]; exact RL.out.kept k3 FG.out, K2.out.join k3 (fun i hi e => by have := GB.out; omega)⟩)
  clear a3 ch vl vo k3 hlen PU
  go_wp2_with fail
  go_loopw [8, 10] (fun s8 s10 wr => ∃ j q : Nat, j ≤ n ∧ s8 = .int .i64 (q : Int) ∧ s10 = .int .i64 ((j : Int) - 1) ∧ Hid (BackUp w p g h ws vs l B j q wr)) (fun _ s10 _ => (intOf s10 + 1).toNat)
  case atStart => exact ⟨n, hd, by omega, rfl, rfl, S⟩
  case round =>
    obtain ⟨j, q, hj, rfl, rfl, U⟩ := hrel
    rename World => W
    cases j with
    | zero =>
      obtain ⟨rfl, r⟩ := U.out.end_ VO.out
      have R := Lib.hid r
      clear r
      go_wp2_with fail
      refine (pop_zero _).mono ?_
      rintro e w' ⟨rfl, rfl⟩
      go_wp2_with fail
      refine (words_rd _ _ _ _ U.out.ar R.out).mono ?_
      rintro e w7 ⟨rfl, k7⟩
      go_wp2_with fail
      refine (awake9_any _).mono ?_
      rintro e w8 ⟨rfl, k8⟩
      go_wp2_with fail
      go_ret
      exact ⟨rfl, (U.out.kept.trans k7).trans k8⟩
    | succ t =>
      have et : (((t + 1 : Nat) : Int) - 1) = (t : Int) := by omega
      rw [et]
      clear et
      have rl := U.out.list
      rw [nl.out] at rl
      obtain ⟨b, o, x, hB', hb, hx, _, c1⟩ := rl.getN (k := t) (by omega)
      subst hB'
      have ch := U.out.ch
      rw [List.take_add_one, hx] at ch
      simp only [Option.toList_some, List.reverse_append, List.reverse_cons, List.reverse_nil, List.nil_append, List.cons_append] at ch
      obtain ⟨rfl, y, hy, hyl, ch'⟩ := ch.pop
      have y1 : y ≤ 128 := by rw [VL.out] at hyl; exact hyl
      have x1 : x < 128 := LT.out x (List.mem_of_getElem? hx)
      have N := Lib.hid (U.out.next hx hy (by omega) ch' PH.out NE.out FH.out HB.out x1)
      obtain ⟨ms, mr, ml, _⟩ := U.out.row
      obtain ⟨m0, _, c2⟩ := mr.has (i := x) (by omega)
      have f2 := mr.frozen x
      have hw := wrap_head y (by omega)
      have P1 := Lib.hid (pop_ok x y W U.out.ar hy hyl)
      have ex : ((x + 1 : Nat) : Int) = (x : Int) + 1 := by omega
      rw [ex]
      clear ex ch ch' hx hy mr ml rl
      go_wp2_with fail
      refine P1.out.mono ?_
      rintro e w' ⟨rfl, rfl⟩
      go_wp2_with fail
      refine ⟨⟨t, y, by omega, rfl, rfl, N⟩, ?_⟩
      simp [intOf]

/-- The row's step. -/
theorem lifted (os : Os) (started : os.Started) (H : Type) (enc : TypeId × Value → H) :
    ReturnsInHanded {} Try.checked os 5 .any (Rows.chainBackSpec.pre6 enc Try.prog Try.f5 Rows.chainBackRow.domain false) (Rows.chainBackSpec.post enc Try.prog Try.f5 false true false false) := by
  refine returnsInHanded_of_change (C := Try.checked) own started (by kernel_rfl) Try.func5
    (ChangeSpec.witness6 (enc := enc) (C := Try.checked) false ⟨#[], #[.slice none 0 0, .slice none 0 0], []⟩ 8 (by kernel_rfl) (by kernel_rfl) (by kernel_rfl) (by kernel_rfl)) ?_
  intro W base args ds gs before hval0 hW hcnd _
  have hval : ∀ (j : Nat) t v, Try.f5.params[j]? = some t → args[j]? = some v → Value.okWide Try.prog W .any base t v := hval0
  have hW' := hW
  obtain ⟨p, q, hA0, hV, rfl, hfz, hnd⟩ := hW
  have hA : DataW.TrodAll enc Try.prog W 0 (fun _ => true) true Try.f5.params.toList args.toList ds p := hA0
  rw [Try.params5] at hA hval
  obtain ⟨v0, vs0, d0, ds0, p0, q0, hargs, rfl, rfl, h0, r0⟩ := trodAll_cons hA
  obtain ⟨v1, vs1, d1, ds1, p1, q1, rfl, rfl, rfl, h1, r1⟩ := trodAll_cons r0
  obtain ⟨rfl, rfl, rfl⟩ := trodAll_nil r1
  obtain rfl : args = #[v0, v1] := by cases args; simp_all
  obtain ⟨rfl, rfl⟩ := trodVars_none hV
  have k0 := h0
  have lt0 : ∀ x ∈ p0, x.block < W.heap.size := by obtain ⟨m, hm⟩ := k0; exact DataW.trod_lt m _ _ _ hm
  obtain ⟨a0, len0, cap0, rfl⟩ := okWide_slice Try.underlying22 (hval 0 22 v0 rfl rfl)
  obtain ⟨z0, w0⟩ := ints_in Try.underlying22 Try.underlying47 (by kernel_rfl) h0
  have k1 := h1
  have lt1 : ∀ x ∈ p1, x.block < W.heap.size := by obtain ⟨m, hm⟩ := k1; exact DataW.trod_lt m _ _ _ hm
  obtain ⟨a1, len1, cap1, rfl⟩ := okWide_slice Try.underlying23 (hval 1 23 v1 rfl rfl)
  obtain ⟨z1, w1⟩ := ints_in Try.underlying23 Try.underlying5 (by kernel_rfl) h1
  clear hA0 hval0
  refine (walk a0 len0 cap0 z0 a1 len1 cap1 z1 W w0 w1).mono fun e W' ⟨he, kept⟩ => ?_
  subst he
  have bel : Below W.heap.size W W' := kept.toBelow (Nat.le_refl _) (fun _ x => x.elim)
  exact ⟨_, rfl, _, _, _, [], _, [], hW', trodAll_mk1 (shut_bool Try.underlying4 _), (trodAll_cons_mk (Below.trod laidOut (by kernel_rfl) (of_decide_eq_true (by kernel_rfl)) k0 bel lt0) (trodAll_cons_mk (Below.trod laidOut (by kernel_rfl) (of_decide_eq_true (by kernel_rfl)) k1 bel lt1) trodAll_mk0)), rfl, bel.frame _, fun h => by cases h⟩

theorem over : Rows.ChainBackSaid :=
  OpenClaim.holds_of_wide 5 Try.f5 rfl rfl rfl rfl rfl rfl rfl ⟨rfl, rfl, rfl, rfl, rfl⟩ rfl rfl rfl rfl rfl (by kernel_rfl) Try.func5 (by kernel_rfl)
    (of_decide_eq_true (by kernel_rfl)) (by unfold Func.isWrapper; first | (rw [if_pos (by decide +kernel)]; kernel_rfl) | (rw [if_neg (by decide +kernel)]; exact ⟨rfl, rfl⟩))
    (fun os started H enc _ => lifted os started H enc)

/-- The statement. -/
theorem proved : Rows.ChainBackSaid := over
#print axioms proved
end Go.Proofs.Ytnhgimglefpbaaa.chainBack
