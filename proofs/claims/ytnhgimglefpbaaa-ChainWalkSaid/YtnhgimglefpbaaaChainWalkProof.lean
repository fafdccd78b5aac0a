/-
  For every input the law ChainWalk of rickyard/rickyardlaw9 returns true, and its arguments read afterwards as before. The law's own sentence: A walk tells all that are there, the last one first, and turns nothing; with a lesser number it tells that there are more; a word that means nothing is met. No further conditions.
-/
import Derived.Test.YtnhgimglefpbaaaRows
import Derived.Test.YtnhgimglefpbaaaKept
import Derived.Test.YtnhgimglefpbaaaShell
import Derived.Test.YtnhgimglefpbaaaShellInts
import Derived.WalkKit
import Derived.ProofKit
import Derived.OpenShut
import Derived.ChangeOld
import Derived.Below
import Derived.Lib.SmallJoins
import Derived.Test.YtnhgimglefpbaaaChainLaw
import Derived.Test.YtnhgimglefpbaaaArenaLaid
import Derived.Test.YtnhgimglefpbaaaRdIn
import Derived.Deep.DeepCutAuto
import Derived.RegionTactic
namespace Go.Proofs.Ytnhgimglefpbaaa.chainWalk
open Go.ChangeShapes Go.WideShapes Go.ChangeAt Go.RowKit
set_option linter.unusedVariables false
set_option maxRecDepth 100000

theorem own : ownKnob Try.prog.godebug = none := by kernel_rfl
theorem laidOut : laidOutB Try.prog = true := by kernel_rfl
/-- What the loop keeps. -/
structure Both (w : World) (p g : Nat) (vs l : List Nat) (B C : Option Addr) (n : Nat) (W : World) : Prop where
  ar : Ar W p g vs
  one : RsI W B n (NI l)
  two : RsI W C n (NI l.reverse)
  kept : Kept Old w W
theorem Both.drew {w : World} {p g : Nat} {vs l : List Nat} {B C : Option Addr} {n : Nat} {W : World} (h : Both w p g vs l B C n W) : Both w p g vs l B C n W.drew :=
  ⟨⟨h.ar.box.drew, h.ar.row.drew, h.ar.big⟩, h.one.drew, h.two.drew, h.kept.drew⟩
theorem walk_some {p g : Nat} {ws l : List Nat} {h : Nat} (m : Int) (w : World) (a : Ar w p g ws) (c : Ch ws h l) (hm : (l.length : Int) ≤ m) (b1 : m ≤ 9223372036854775807) :
    Calls Try.prog 16 #[ptr p, .int .i64 (h : Int), .int .i64 m] w fun e w' => ∃ v, e = .returned (.tuple #[v, .int .i64 0]) ∧ MadeI (NI l) w v w' := by
  refine (walk_any h m w a c.le (by omega) b1).mono ?_
  intro e w' P
  rw [c.walk, if_pos (by omega)] at P
  rcases P with ⟨l', v, e1, rfl, M⟩ | ⟨e1, _⟩
  · obtain rfl := Option.some.inj e1
    exact ⟨v, rfl, M⟩
  · cases e1
theorem walk_none {p g : Nat} {ws : List Nat} {h : Nat} (m : Int) (w : World) (a : Ar w p g ws) (hh : h ≤ ws.length) (c : walkL ws m.toNat h = none) (b0 : -9223372036854775808 ≤ m) (b1 : m ≤ 9223372036854775807) :
    Calls Try.prog 16 #[ptr p, .int .i64 (h : Int), .int .i64 m] w fun e w' => e = .returned (.tuple #[.slice none 0 0, .int .i64 6]) ∧ Kept Old w w' := by
  refine (walk_any h m w a hh b0 b1).mono ?_
  intro e w' P
  rw [c] at P
  rcases P with ⟨l', v, e1, _⟩ | ⟨_, rfl, k⟩
  · cases e1
  · exact ⟨rfl, k⟩

set_option maxHeartbeats 8000000 in
/-- The walk: the Go text returns true, and nothing that was there has turned. -/
theorem walk (a0 : Option Addr) (len0 cap0 : Nat) (z0 : Nat → Int) (a1 : Option Addr) (len1 cap1 : Nat) (z1 : Nat → Int) (a2 : Int) (a3 : Int) (w : World) (w0 : len0 ≤ cap0 ∧ cap0 ≤ maxLen ∧ (∀ i, i < len0 → (Lit.int .u64 (z0 i)).wf = true) ∧ Sl w a0 1 len0 fun i _ => .int .u64 (z0 i)) (w1 : len1 ≤ cap1 ∧ cap1 ≤ maxLen ∧ (∀ i, i < len1 → (Lit.int .u8 (z1 i)).wf = true) ∧ Sl w a1 1 len1 fun i _ => .int .u8 (z1 i)) (w2 : (Lit.int .u8 a2).wf = true) (w3 : (Lit.int .u64 a3).wf = true) :
    Calls Try.prog 6 #[.slice a0 len0 cap0, .slice a1 len1 cap1, .int .u8 a2, .int .u64 a3] w fun e w' => e = .returned (.bool true) ∧ Kept Old w w' := by
  obtain ⟨xs, rd⟩ := rd_sl w0.2.2.1 w0.2.2.2
  have hL := Lib.hid (laid_any 2 a0 len0 cap0 xs w (by omega) (by omega) rd)
  have W1 := Lib.hid w1
  have b2 := bounds_u8 w2
  have b3 := bounds_u64 w3
  obtain ⟨y, rfl⟩ : ∃ n : Nat, a2 = n := ⟨a2.toNat, by omega⟩
  obtain ⟨f, rfl⟩ : ∃ n : Nat, a3 = n := ⟨a3.toNat, by omega⟩
  clear rd w0 w1 w2 w3
  go_enter Try.func6, Try.ntmps6
  go_wp2_with fail
  refine hL.out.mono ?_
  rintro e w1 ⟨p, g, h, rfl, L⟩
  obtain ⟨ws, hws⟩ : ∃ ws, ws = laidL (2 * 64) (min (2 * 64) xs.length) xs := ⟨_, rfl⟩
  have hlen : ws.length = 128 := by rw [hws]; exact laid_length _ _ _ (by omega)
  have A1 := Lib.hid L.ar
  rw [← hws] at A1
  have K1 := Lib.hid L.kept
  have GB := Lib.hid L.gB
  have HL := Lib.hid hlen
  clear L hL hws hlen
  go_wp2_with fail
  refine (places_any _ _ _ z1 _ (by have := W1.out.1; have := W1.out.2.1; omega) W1.out.2.2.1 (W1.out.2.2.2.old K1.out)).mono ?_
  rintro e w2 ⟨l, v, rfl, nd, lt, B, n, c, rfl, r2, _, ⟨_, nb⟩, k2⟩
  have A2 := Lib.hid (A1.out.kept k2 (fun x => x) (fun x => x))
  have K2 := Lib.hid (K1.out.trans k2)
  have FG := Lib.hid (show ∀ ad, B = some ad → ad.block ≠ g from fun ad e => by have := nb ad e; have := A1.out.row.lt; omega)
  have ND := Lib.hid nd
  have LT := Lib.hid lt
  have RL := Lib.hid r2
  have PU := Lib.hid (pushed_any B n c l w2 A2.out r2 FG.out nd (fun x hx => by rw [HL.out]; exact lt x hx))
  have nl := Lib.hid r2.lenN
  have n1 : n ≤ 128 := by have := nodup_length 128 l nd lt; have := nl.out; omega
  clear nd lt r2 nb k2 A1 K1
  go_wp2_with fail
  refine PU.out.mono ?_
  rintro e w3 ⟨hd, rfl, ⟨vs, a3, ch, vl, vo⟩, k3⟩
  rw [List.take_length] at ch
  have hlen : vs.length = 128 := by rw [vl, HL.out]
  have VL := Lib.hid hlen
  have CH := Lib.hid ch
  have A3 := Lib.hid a3
  have R3 := Lib.hid (RL.out.kept k3 FG.out)
  have K3 := Lib.hid (K2.out.join k3 (fun i hi e => by have := GB.out; omega))
  have SL := Lib.hid (slice_ok 0 128 w3 a3 (by omega))
  have rl := Lib.hid (show l.reverse.length = n by rw [List.length_reverse, nl.out])
  clear a3 ch vl vo k3 hlen PU RL K2 A2
  go_wp2_with fail
  refine SL.out.mono ?_
  rintro e w4 ⟨g4, rfl, r4, k4, hg4⟩
  have ec : cutL vs 0 128 = vs := by have := cutL_all vs; rwa [VL.out] at this
  rw [ec] at r4
  have R4 := r4.rd
  rw [VL.out] at R4
  have R4' := Lib.hid R4
  have A4 := Lib.hid (A3.out.kept k4 (fun x => x) (fun x => x))
  have L4 := Lib.hid (R3.out.old k4)
  have K4 := Lib.hid (K3.out.trans k4)
  clear R4 r4 k4 ec A3 R3 K3 SL
  have WS := Lib.hid (walk_some (n : Int) w4 A4.out CH.out (by rw [rl.out]; omega) (by omega))
  go_wp2_with fail
  refine WS.out.mono ?_
  rintro e w5 ⟨v, rfl, C, n', c', rfl, r5, _, ⟨_, _⟩, k5⟩
  obtain rfl : n = n' := by have := r5.lenN; rw [rl.out] at this; exact this
  have A5 := Lib.hid (A4.out.kept k5 (fun x => x) (fun x => x))
  have L5 := Lib.hid (L4.out.old k5)
  have S5 := Lib.hid (R4'.out.old k5)
  have K5 := Lib.hid (K4.out.trans k5)
  have C5 := Lib.hid r5
  clear r5 k5 A4 L4 R4' K4 WS
  go_wp2_with fail
  refine (words_rd _ _ _ _ A5.out S5.out).mono ?_
  rintro e w6 ⟨rfl, k6⟩
  have A6 := Lib.hid (A5.out.kept k6 (fun x => x) (fun x => x))
  have L6 := Lib.hid (L5.out.old k6)
  have K6 := Lib.hid (K5.out.trans k6)
  have C6 := Lib.hid (C5.out.old k6)
  clear k6 A5 L5 S5 K5 C5
  go_wp2_with fail
  go_loopw [18] (fun s18 wr => ∃ k : Nat, k ≤ n ∧ s18 = .int .i64 (k : Int) ∧ Hid (Both w p g vs l B C n wr)) (fun s18 _ => n - (intOf s18).toNat)
  case atStart => exact ⟨0, by omega, rfl, Lib.hid ⟨A6.out, L6.out, C6.out, K6.out⟩⟩
  case round =>
    obtain ⟨k, hk, rfl, HD⟩ := hrel
    rename World => W
    have L7 := HD.out.one
    have C7 := HD.out.two
    by_cases d : k < n
    · obtain ⟨g1, o1, x, rfl, _, hx, _, c1⟩ := C7.getN d
      obtain ⟨g2, o2, x', rfl, _, hx', _, c2⟩ := L7.getN (k := n - 1 - k) (by omega)
      obtain rfl : x = x' := by
        rw [List.getElem?_reverse (by rw [nl.out]; exact d), nl.out] at hx
        rw [hx] at hx'
        exact Option.some.inj hx'
      have e1 : IntKind.i64.wrap ((n : Int) - 1) = (n : Int) - 1 := IntWalk.i64_in _ (by omega)
      have e2 : IntKind.i64.wrap ((n : Int) - 1 - (k : Int)) = (n : Int) - 1 - (k : Int) := IntWalk.i64_in _ (by omega)
      have e3 : 0 ≤ (n : Int) - 1 - (k : Int) := by omega
      have e4 : (n : Int) - 1 - (k : Int) < (n : Int) := by omega
      clear hx hx' C7 L7
      go_wp2_with fail
      go_region
      go_wp2_with fail
      refine ⟨⟨k + 1, by omega, by go_num, Lib.hid HD.out.drew⟩, ?_⟩
      simp [intOf]; omega
    · have A7 := HD.out.ar
      have K7 := HD.out.kept
      have A7' := Lib.hid A7
      have K7' := Lib.hid K7
      have L7' := Lib.hid L7
      clear A7 K7 L7 C7
      cases l with
      | nil =>
        obtain rfl : n = 0 := nl.out.symm
        go_wp2_with fail
        refine (awake9_any _).mono ?_
        rintro e w8 ⟨rfl, k8⟩
        go_wp2_with fail
        go_ret
        exact ⟨rfl, K7'.out.trans k8⟩
      | cons x0 t =>
        have n2 : 1 ≤ n := by have := nl.out; simp at this; omega
        obtain ⟨q, hq⟩ : ∃ q, y % n = q := ⟨_, rfl⟩
        have q1 : q < n := by rw [← hq]; exact Nat.mod_lt _ (by omega)
        have em : (y : Int) % (n : Int) = (q : Int) := by rw [← hq]; rfl
        have nz : ¬ (n : Int) = 0 := by omega
        have hle := CH.out.le
        have x1 : x0 < 128 := LT.out x0 List.mem_cons_self
        have x2 := Lib.hid (show x0 ∉ t.reverse from fun m => (List.nodup_cons.1 ND.out).1 (List.mem_reverse.1 m))
        have WN := Lib.hid (walk_none (h := hd) (q : Int) W A7'.out hle (by rw [CH.out.walk, if_neg (by rw [rl.out]; omega)]) (by omega) (by omega))
        have br := CH.out
        rw [List.reverse_cons] at br
        have BR := Lib.hid br
        clear hq br
        go_wp2_with fail
        refine WN.out.mono ?_
        rintro e w8 ⟨rfl, k8⟩
        have A8 := Lib.hid (A7'.out.kept k8 (fun x => x) (fun x => x))
        have K8 := Lib.hid (K7'.out.trans k8)
        obtain ⟨g2, o2, x', rfl, _, hx', _, c2⟩ := (L7'.out.old k8).getN (k := 0) (by omega)
        obtain rfl : x0 = x' := Option.some.inj hx'
        rw [Nat.add_zero] at c2
        clear hx' k8 A7' K7' L7' WN
        go_upto_region 20 with fail
        go_cut [108] (fun v108 wx => ∃ u : Nat, v108 = .int .i64 0 ∧ 129 ≤ u ∧ Hid (Ar wx p g (vs.set x0 u)) ∧ Hid (Kept (Only g) w8 wx))
        case first =>
          obtain ⟨u, u1, u2, hm⟩ : ∃ u : Nat, 129 ≤ u ∧ u < 18446744073709551616 ∧ (Builtin.max_ #[47, 47] 47 #[.int .u64 (f : Int), .int .u64 129]).run Try.prog w8 = .ok (.int .u64 (u : Int)) w8 := by
            refine ⟨if 129 > f then 129 else f, by split <;> omega, by split <;> omega, (run_max_int2 _ _ _ _ _ _ _).trans ?_⟩
            congr 2
            split <;> split <;> omega
          go_wp2_with fail
          refine (store_ok x0 u _ A8.out (by rw [VL.out]; exact x1) u2).mono ?_
          rintro e w9 ⟨rfl, a9, k9⟩
          have A9 := Lib.hid a9
          have K9 := Lib.hid k9
          clear a9 k9 hm
          go_wp2_with fail
          go_meet
          exact ⟨_, rfl, u1, A9, K9⟩
        case rest =>
          obtain ⟨u, rfl, hu, A9, K9⟩ := hcut
          rename World => W9
          have WN := Lib.hid (walk_none (h := hd) ((n : Int) + 1) W9 A9.out (by rw [List.length_set]; exact hle) (Ch.broken (by rw [VL.out]; omega) BR.out x2.out _) (by omega) (by omega))
          have K10 := Lib.hid (K8.out.join K9.out (fun i hi e => by have := GB.out; omega))
          clear A9 K9 K8 A8
          go_wp2_with fail
          refine WN.out.mono ?_
          rintro e w10 ⟨rfl, k10⟩
          go_wp2_with fail
          refine (awake9_any _).mono ?_
          rintro e w11 ⟨rfl, k11⟩
          go_wp2_with fail
          go_ret
          exact ⟨rfl, (K10.out.trans k10).trans k11⟩

/-- The row's step. -/
theorem lifted (os : Os) (started : os.Started) (H : Type) (enc : TypeId × Value → H) :
    ReturnsInHanded {} Try.checked os 6 .any (Rows.chainWalkSpec.pre6 enc Try.prog Try.f6 Rows.chainWalkRow.domain false) (Rows.chainWalkSpec.post enc Try.prog Try.f6 false true false false) := by
  refine returnsInHanded_of_change (C := Try.checked) own started (by kernel_rfl) Try.func6
    (ChangeSpec.witness6 (enc := enc) (C := Try.checked) false ⟨#[], #[.slice none 0 0, .slice none 0 0, .int .u8 0, .int .u64 0], []⟩ 8 (by kernel_rfl) (by kernel_rfl) (by kernel_rfl) (by kernel_rfl)) ?_
  intro W base args ds gs before hval0 hW hcnd _
  have hval : ∀ (j : Nat) t v, Try.f6.params[j]? = some t → args[j]? = some v → Value.okWide Try.prog W .any base t v := hval0
  have hW' := hW
  obtain ⟨p, q, hA0, hV, rfl, hfz, hnd⟩ := hW
  have hA : DataW.TrodAll enc Try.prog W 0 (fun _ => true) true Try.f6.params.toList args.toList ds p := hA0
  rw [Try.params6] at hA hval
  obtain ⟨v0, vs0, d0, ds0, p0, q0, hargs, rfl, rfl, h0, r0⟩ := trodAll_cons hA
  obtain ⟨v1, vs1, d1, ds1, p1, q1, rfl, rfl, rfl, h1, r1⟩ := trodAll_cons r0
  obtain ⟨v2, vs2, d2, ds2, p2, q2, rfl, rfl, rfl, h2, r2⟩ := trodAll_cons r1
  obtain ⟨v3, vs3, d3, ds3, p3, q3, rfl, rfl, rfl, h3, r3⟩ := trodAll_cons r2
  obtain ⟨rfl, rfl, rfl⟩ := trodAll_nil r3
  obtain rfl : args = #[v0, v1, v2, v3] := by cases args; simp_all
  obtain ⟨rfl, rfl⟩ := trodVars_none hV
  have k0 := h0
  have lt0 : ∀ x ∈ p0, x.block < W.heap.size := by obtain ⟨m, hm⟩ := k0; exact DataW.trod_lt m _ _ _ hm
  obtain ⟨a0, len0, cap0, rfl⟩ := okWide_slice Try.underlying22 (hval 0 22 v0 rfl rfl)
  obtain ⟨z0, w0⟩ := ints_in Try.underlying22 Try.underlying47 (by kernel_rfl) h0
  have k1 := h1
  have lt1 : ∀ x ∈ p1, x.block < W.heap.size := by obtain ⟨m, hm⟩ := k1; exact DataW.trod_lt m _ _ _ hm
  obtain ⟨a1, len1, cap1, rfl⟩ := okWide_slice Try.underlying23 (hval 1 23 v1 rfl rfl)
  obtain ⟨z1, w1⟩ := ints_in Try.underlying23 Try.underlying5 (by kernel_rfl) h1
  obtain ⟨a2, rfl, rfl, rfl, w2⟩ := open_int Try.underlying5 (hval 2 5 v2 rfl rfl) h2
  obtain ⟨a3, rfl, rfl, rfl, w3⟩ := open_int Try.underlying47 (hval 3 47 v3 rfl rfl) h3
  clear hA0 hval0
  refine (walk a0 len0 cap0 z0 a1 len1 cap1 z1 a2 a3 W w0 w1 w2 w3).mono fun e W' ⟨he, kept⟩ => ?_
  subst he
  have bel : Below W.heap.size W W' := kept.toBelow (Nat.le_refl _) (fun _ x => x.elim)
  exact ⟨_, rfl, _, _, _, [], _, [], hW', trodAll_mk1 (shut_bool Try.underlying4 _), (trodAll_cons_mk (Below.trod laidOut (by kernel_rfl) (of_decide_eq_true (by kernel_rfl)) k0 bel lt0) (trodAll_cons_mk (Below.trod laidOut (by kernel_rfl) (of_decide_eq_true (by kernel_rfl)) k1 bel lt1) (trodAll_cons_mk (shut_int Try.underlying5 w2) (trodAll_cons_mk (shut_int Try.underlying47 w3) trodAll_mk0)))), rfl, bel.frame _, fun h => by cases h⟩

theorem over : Rows.ChainWalkSaid :=
  OpenClaim.holds_of_wide 6 Try.f6 rfl rfl rfl rfl rfl rfl rfl ⟨rfl, rfl, rfl, rfl, rfl⟩ rfl rfl rfl rfl rfl (by kernel_rfl) Try.func6 (by kernel_rfl)
    (of_decide_eq_true (by kernel_rfl)) (by unfold Func.isWrapper; first | (rw [if_pos (by decide +kernel)]; kernel_rfl) | (rw [if_neg (by decide +kernel)]; exact ⟨rfl, rfl⟩))
    (fun os started H enc _ => lifted os started H enc)

/-- The statement. -/
theorem proved : Rows.ChainWalkSaid := over
#print axioms proved
end Go.Proofs.Ytnhgimglefpbaaa.chainWalk
