/-
  For every input the law ChainTwo of rickyard/rickyardlaw9 returns true, and its arguments read afterwards as before. The law's own sentence: Two chains of unlike places, pushed and popped in turns, do not touch one another. No further conditions.
-/
import Derived.Test.YtnhgimglefpbaaaRows
import Derived.Test.YtnhgimglefpbaaaKept
import Derived.Test.YtnhgimglefpbaaaShell
import Derived.Test.YtnhgimglefpbaaaShellInts
import Derived.WalkKit
import Derived.ProofKit
import Derived.OpenShut
import Derived.ChangeOld
import Derived.Below
import Derived.Lib.SmallJoins
import Derived.Test.YtnhgimglefpbaaaChainTwo
import Derived.Test.YtnhgimglefpbaaaArenaLaid
import Derived.Deep.DeepCutAuto
import Derived.RegionTactic
import Derived.Deep.RegionLaw
import Derived.ChangeAlike
import Derived.Deep.RegionHeld3
namespace Go.Proofs.Ytnhgimglefpbaaa.chainTwo
open Go.ChangeShapes Go.WideShapes Go.ChangeAt Go.RowKit
set_option linter.unusedVariables false
set_option maxRecDepth 100000

theorem own : ownKnob Try.prog.godebug = none := by kernel_rfl
theorem laidOut : laidOutB Try.prog = true := by kernel_rfl
theorem rsI_at {w : World} {g o n : Nat} {l : List Nat} (h : RsI w (some ⟨g, o, none⟩) n (NI l)) {i x : Nat} (hx : l[i]? = some x) : w.cell? ⟨g, o + i, none⟩ = some (.int .i64 (x : Int)) := by
  have hi := (List.getElem?_eq_some_iff.1 hx).1
  obtain ⟨g', o', e, _, c⟩ := h.lies (by have := h.lenN; omega)
  injection e with e
  injection e with e1 e2
  subst e1
  subst e2
  exact c i x (by rw [NI_get, hx]; rfl)
theorem walk_some {p g : Nat} {ws l : List Nat} {h : Nat} (m : Int) (w : World) (a : Ar w p g ws) (c : Ch ws h l) (hm : (l.length : Int) ≤ m) (b1 : m ≤ 9223372036854775807) :
    Calls Try.prog 16 #[ptr p, .int .i64 (h : Int), .int .i64 m] w fun e w' => ∃ v, e = .returned (.tuple #[v, .int .i64 0]) ∧ MadeI (NI l) w v w' := by
  refine (walk_any h m w a c.le (by omega) b1).mono ?_
  intro e w' P
  rw [c.walk, if_pos (by omega)] at P
  rcases P with ⟨l', v, e1, rfl, M⟩ | ⟨e1, _⟩
  · obtain rfl := Option.some.inj e1
    exact ⟨v, rfl, M⟩
  · cases e1
theorem zero54 (W : World) : (zeroValue 54).run Try.prog W = .ok (.agg #[.slice none 0 0, .slice none 0 0]) W := by kernel_rfl
theorem zero55 (W : World) : (zeroValue 55).run Try.prog W = .ok (.agg #[.int .i64 0, .int .i64 0]) W := by kernel_rfl

set_option maxHeartbeats 8000000 in
/-- The walk: the Go text returns true, and nothing that was there has turned. -/
theorem walk (a0 : Option Addr) (len0 cap0 : Nat) (z0 : Nat → Int) (a1 : Option Addr) (len1 cap1 : Nat) (z1 : Nat → Bool) (w : World) (w0 : len0 ≤ cap0 ∧ cap0 ≤ maxLen ∧ (∀ i, i < len0 → (Lit.int .u8 (z0 i)).wf = true) ∧ Sl w a0 1 len0 fun i _ => .int .u8 (z0 i)) (w1 : len1 ≤ cap1 ∧ cap1 ≤ maxLen ∧ Sl w a1 1 len1 fun i _ => .bool (z1 i)) :
    Calls Try.prog 7 #[.slice a0 len0 cap0, .slice a1 len1 cap1] w fun e w' => e = .returned (.bool true) ∧ Kept Old w w' := by
  have W0 := Lib.hid w0
  have W1 := Lib.hid w1
  have m1 : len1 ≤ 9223372036854775807 := by have := w1.1; have := w1.2.1; have : len1 ≤ maxLen := by omega
                                             simpa [maxLen] using this
  have hN := Lib.hid (new_yes 2 w (by omega) (by omega))
  clear w0 w1
  go_enter Try.func7, Try.ntmps7
  go_wp2_with fail
  refine hN.out.mono ?_
  rintro e w1 ⟨p, g, rfl, a1, k1, hp, hg⟩
  have A1 := Lib.hid a1
  have K1 := Lib.hid k1
  clear a1 k1 hN
  go_wp2_with fail
  refine (places_any _ _ _ z0 _ (by have := W0.out.1; have := W0.out.2.1; omega) W0.out.2.2.1 (W0.out.2.2.2.old K1.out)).mono ?_
  rintro e w2 ⟨l, v, rfl, nd, lt, B, n, c, rfl, r2, _, ⟨_, nb⟩, k2⟩
  have q54 := zero54 w2
  have q55 := zero55 (w2.alloc (.cells #[.slice none 0 0, .slice none 0 0] 54))
  have A2 := A1.out.kept k2 (fun x => x) (fun x => x)
  have lp := A2.box.lt
  have lg := A2.row.lt
  have nl := Lib.hid r2.lenN
  have n1 : n ≤ 128 := by have := nodup_length 128 l nd lt; have := nl.out; omega
  have T := Lib.hid (show Lie w (w2.heap.size + 2) p g w2.heap.size (w2.heap.size + 1) (if n = 0 then none else B) from by
    have z1 := k2.size
    have z2 := K1.out.size
    refine ⟨by omega, by omega, by omega, by omega, by omega, by omega, by omega, by omega, by omega, fun ad e => ?_, by omega, by omega, by omega, by omega⟩
    by_cases n0 : n = 0
    · rw [if_pos n0] at e; cases e
    · rw [if_neg n0] at e
      have := nb ad e
      have := A1.out.row.lt
      obtain ⟨gB, oB, eB, hB, _⟩ := r2.lies (by omega)
      rw [e] at eB
      injection eB with eB
      subst eB
      have hB' : gB < w2.heap.size := hB
      exact ⟨by show gB < _; omega, by show gB ≠ _; have : w1.heap.size ≤ gB := this; omega, by show gB ≠ _; omega, by show gB ≠ _; omega⟩)
  have S := Lib.hid (show Two w (w2.heap.size + 2) p g w2.heap.size (w2.heap.size + 1) n (if n = 0 then none else B) l 0 (fun _ => .slice none 0 0) (fun _ => []) (fun _ => []) (fun _ => 0) ((w2.alloc (.cells #[.slice none 0 0, .slice none 0 0] 54)).alloc (.cells #[.int .i64 0, .int .i64 0] 55)) from by
    refine ⟨⟨_, (A2.alloc _).alloc _, by simp, fun k _ => rfl⟩, fun _ _ _ _ _ x hx => (by cases hx), fun _ _ x hx => (by cases hx), fun _ _ => OwI.nil _ _, fun _ _ => Nat.le_refl _, fun _ _ _ _ _ x hx => (by cases hx), (Blk.new w2 _ [_, _]).alloc _, ?_, ?_, ((K1.out.trans k2).alloc _).alloc _, by simp⟩
    · have := Blk.new (w2.alloc (.cells #[.slice none 0 0, .slice none 0 0] 54)) 55 [.int .i64 0, .int .i64 0]
      simpa using this
    · have r3 := (r2.old ((Kept.refl _ _).alloc (.cells #[.slice none 0 0, .slice none 0 0] 54))).old ((Kept.refl _ _).alloc (.cells #[.int .i64 0, .int .i64 0] 55))
      by_cases n0 : n = 0
      · rw [if_pos n0]; exact ⟨r3.len, r3.fit, fun h => by omega⟩
      · rw [if_neg n0]; exact r3)
  have ND := Lib.hid nd
  have LT := Lib.hid lt
  clear A2 lp lg nd lt r2 nb k2
  go_wp2_with fail
  clear q54 q55
  obtain ⟨B', hB'⟩ : ∃ B', B' = if n = 0 then none else B := ⟨_, rfl⟩
  rw [← hB'] at S T
  have HB' := Lib.hid (show 0 < n → B' = B from fun h => by rw [hB', if_neg (by omega)])
  clear hB'
  generalize hs : w2.heap.size = s at S T
  have HH := Lib.hid hs
  clear hs
  go_loopw [9] (fun s9 wr => ∃ (i : Nat) (V : Nat → Value) (L : Nat → List Nat) (H : Nat → Nat), i ≤ n ∧ s9 = .int .i64 (i : Int) ∧ Hid (Two w (s + 2) p g s (s + 1) n B' l i V L L H wr)) (fun s9 _ => n - (intOf s9).toNat)
  case atStart => exact ⟨0, _, _, _, by omega, rfl, S⟩
  case round =>
    obtain ⟨i, V, L, H, hi, rfl, U⟩ := hrel
    rename World => W
    by_cases d : i < n
    · obtain rfl := HB'.out (by omega)
      obtain ⟨gB, oB, x, rfl, _, hx, _, cx⟩ := U.out.list.getN d
      have x1 := LT.out x (List.mem_of_getElem? hx)
      have HX := Lib.hid hx
      clear hx
      go_upto_region 11 with fail
      go_cut [41] from 26 to 122 (fun v41 wx => ∃ tb : Bool, v41 = .bool tb ∧ W = wx)
      case first =>
        by_cases z : i < len1
        · obtain ⟨g1, o1, rfl, hg1, hc1⟩ := (W1.out.2.2.old U.out.kept).lies (by omega)
          have c1 := hc1 i 0 z (by omega)
          simp only [Nat.mul_one, Nat.add_zero] at c1
          clear hc1
          go_wp2_with fail
          go_meet
          exact ⟨_, rfl, rfl⟩
        · go_wp2_with fail
          go_meet
          exact ⟨_, rfl, rfl⟩
      case rest =>
      obtain ⟨tb, rfl, rfl⟩ := hcut
      go_upto_if 41 with fail
      go_cut [10] from 26 to 122 (fun v10 wx => ∃ k : Nat, k < 2 ∧ v10 = .int .i64 (k : Int) ∧ W = wx)
      case first =>
        cases tb with
        | true =>
          go_wp2_with fail
          go_meet
          exact ⟨1, by omega, rfl, rfl⟩
        | false =>
          go_wp2_with fail
          go_meet
          exact ⟨0, by omega, rfl, rfl⟩
      case rest =>
        obtain ⟨k, hk, rfl, rfl⟩ := hcut
        obtain ⟨vs, a, vl, hc⟩ := U.out.ar
        have kd := (Kept.refl Old W).drew
        have PO := Lib.hid (push_ok (H k) x W.drew (a.kept kd (fun x => x) (fun x => x)) (hc k hk).le (by rw [vl]; exact x1))
        have c8 := U.out.cell8 hk
        have kz1 : (k : Int) < 2 := by omega
        have kz0 : (0 : Int) ≤ (k : Int) := by omega
        have VL := Lib.hid vl
        have HC := Lib.hid hc
        have FW := Lib.hid (U.out.few k hk)
        have n2 : gB ≠ g := (T.out.list _ rfl).2.1
        have n3 : s + 1 ≠ g := fun e => T.out.g8 e.symm
        have l8 := U.out.bx8.lt
        have lB : gB < W.heap.size := by have := (T.out.list _ rfl).1; have : gB < s + 2 := this; have := U.out.base; omega
        clear a vl hc kd
        go_wp2_with fail
        go_region_held3 (fun w' => w'.cell? ⟨s + 1, k, none⟩ = some (.int .i64 (H k : Nat)) ∧ w'.cell? ⟨gB, oB + i, none⟩ = some (.int .i64 (x : Int)))
          (first
            | (exact ⟨‹_›, ‹_›⟩)
            | (exact ⟨c8, cx⟩)
            | go_keep)
          (first | (go_at_call 12; refine PO.out.mono ?_; rintro e V1 ⟨rfl, a1, k1⟩; have y0 := (k1.cell (p := ⟨s + 1, k, none⟩) l8 n3).trans c8; have y1 := (k1.cell (p := ⟨gB, oB + i, none⟩) lB n2).trans cx))
        have kg : Kept (Only g) W V1 := (Kept.refl (Only g) W).drew.trans k1
        have bx := U.out.bx8.kept kg n3
        have c8' := (bx.cell k).trans (pair_get (fun q => .int .i64 (H q : Nat)) k hk)
        have f8' := bx.frozen k
        have U2 := Lib.hid (U.out.push T.out hk VL.out HC.out HX.out x1 ND.out a1 kg)
        clear bx kg k1 a1 y0 y1 c8 PO HC
        go_upto_region 17 with fail
        generalize V1.setCell ⟨s + 1, k, none⟩ (.int .i64 ((x : Int) + 1)) = W2 at U2 ⊢
        clear c8' f8' U cx
        go_cut [10] from 26 to 122 (fun v10 wx => ∃ (V4 : Nat → Value) (L4 : Nat → List Nat) (H4 : Nat → Nat), v10 = .int .i64 (k : Int) ∧ Hid (Two w (s + 2) p g s (s + 1) n (some ⟨gB, oB, none⟩) l (i + 1) V4 L4 L4 H4 wx))
        case first =>
          have kk : Kept Old W2 (W2.alloc (.cells #[.int .i64 (x : Int)] 3)).drew := ((Kept.refl Old W2).alloc _).drew
          obtain ⟨A, ck, hv, _, _, _⟩ := (U2.out.own k hk).rs
          have c7 := U2.out.cell7 hk
          have O2 := (U2.out.own k hk).old kk
          rw [hv] at c7 O2
          have fewL := Lib.hid (show (L k).length + 1 ≤ i + 1 from by have := FW.out; omega)
          have few := FW.out
          have cB := rsI_at U2.out.list HX.out
          have l7 := U2.out.bx7.lt
          have lB2 : gB < W2.heap.size := by have := (T.out.list _ rfl).1; have : gB < s + 2 := this; have := U2.out.base; omega
          have O2' := Lib.hid O2
          have RX := Lib.hid (RsI.one W2 x ⟨by omega, by omega⟩ _ rfl).drew
          have BS := Lib.hid (Nat.le_trans U2.out.base kk.size)
          have KK := Lib.hid kk
          have HV := Lib.hid hv
          have HJ := Lib.hid (show ¬ some s = (V k).ownBlock from fun e => by have := (U2.out.ownLt hk e.symm).1; omega)
          clear O2 kk hv
          go_region_law (refine app_stepI rfl (.tmp 62) (.tmp 67) rfl rfl (s + 2) (.slice A (L k).length ck) (L k).length (NI (L k)) (by simp [Act.eval]) O2'.out (some ⟨W2.heap.size, 0, none⟩) 1 1 [(x : Int)] (by simp [Act.eval]) RX.out (by intro h; cases h) (by omega) (by omega) BS.out ((L k).length + 1) rfl (NI (L k) ++ [(x : Int)]) rfl ?_; intro v3 W3 O3 K3 A3; obtain ⟨A', c', rfl, _⟩ := O3.out.rs; rw [← HV.out] at K3 A3; have b7 := (U2.out.bx7.kept KK.out (fun x => x)).kept K3.out HJ.out; have c7' := (b7.cell k).trans (pair_get V k hk); rw [HV.out] at c7'; have f7' := b7.frozen k; have U3 := Lib.hid (U2.out.app T.out hk fewL.out KK.out O3.out K3.out A3.out); clear b7 K3 A3 O3)
          all_goals (go_wp2_with fail; go_meet; exact ⟨_, _, _, rfl, U3⟩)
        case rest =>
        obtain ⟨V4, L4, H4, rfl, U4⟩ := hcut
        rename World => W4
        obtain ⟨j, hj, ej⟩ : ∃ j : Nat, j < 2 ∧ (1 : Int) - (k : Int) = (j : Int) := ⟨1 - k, by omega, by omega⟩
        have wj : IntKind.i64.wrap (1 - (k : Int)) = (j : Int) := by rw [ej]; exact IntWalk.i64_in _ (by omega)
        have jz1 : (j : Int) < 2 := by omega
        have jz0 : (0 : Int) ≤ (j : Int) := by omega
        obtain ⟨A, cj, hv, rj, hcj, _⟩ := (U4.out.own j hj).rs
        have c7 := U4.out.cell7 hj
        rw [hv] at c7
        have i1 : IntKind.i64.wrap ((i : Int) + 1) = (i : Int) + 1 := IntWalk.i64_in _ (by omega)
        rcases List.eq_nil_or_concat (L4 j) with e0 | ⟨tl, y, e0⟩
        · have hl0 : (L4 j).length = 0 := by rw [e0]; rfl
          rw [hl0] at c7
          clear hv rj hcj e0 hl0
          go_wp2_with fail
          refine ⟨⟨i + 1, V4, L4, H4, by omega, by go_num, U4⟩, ?_⟩
          simp [intOf]; omega
        · have hl0 : (L4 j).length = tl.length + 1 := by rw [e0]; simp
          rw [hl0] at c7 hcj
          by_cases f : i % 3 = 0
          · have em : (i : Int) % 3 = 0 := by omega
            obtain ⟨vs4, a4, vl4, hc4⟩ := U4.out.ar
            have ch := hc4 j hj
            rw [e0, List.concat_eq_append, List.reverse_append] at ch
            simp only [List.reverse_cons, List.reverse_nil, List.nil_append, List.cons_append] at ch
            obtain ⟨eH, r, hr, hrl, ch'⟩ := ch.pop
            have c8 := U4.out.cell8 hj
            rw [eH, show ((y + 1 : Nat) : Int) = (y : Int) + 1 by omega] at c8
            have PP := Lib.hid (pop_ok y r W4 a4 hr hrl)
            obtain ⟨gj, oj, y', rfl, _, hy', _, cy⟩ := rj.getN (k := tl.length) (by rw [hl0]; omega)
            obtain rfl : y = y' := by rw [e0] at hy'; simpa using hy'
            have f8 := U4.out.bx8.frozen j
            have f7 := U4.out.bx7.frozen j
            have ht : (L4 j).take tl.length = tl := by rw [e0]; simp
            have r1 : r ≤ 128 := by rw [vl4] at hrl; exact hrl
            have yb : y < 128 := by have := (List.getElem?_eq_some_iff.1 hr).1; rw [vl4] at this; exact this
            have tb : tl.length ≤ 128 := by have := U4.out.few j hj; omega
            have tcj : tl.length ≤ cj := by omega
            have U5 := U4.out.pop (m := tl.length) (tl := tl) T.out hj ((Kept.refl Old W4).drew) hv (by omega) ⟨vs4, a4, vl4, hc4, ch'⟩ (fun z hz => by rw [e0]; simp [hz]) (by rw [hv]; rfl)
            rw [ht] at U5
            have U5 := Lib.hid U5
            clear ht hy' eH hr hrl ch ch' a4 vl4 hc4 rj hv e0 hl0 f U4
            go_wp2_with fail
            refine PP.out.mono ?_
            rintro e w' ⟨rfl, rfl⟩
            go_wp2_with fail
            go_region
            go_wp2_with fail
            refine ⟨⟨i + 1, _, _, _, by omega, by go_num, U5⟩, ?_⟩
            simp [intOf]; omega
          · have em : ((i : Int) % 3 == 0) = false := by simp; omega
            clear f hv rj hcj e0 hl0
            go_wp2_with fail
            refine ⟨⟨i + 1, V4, L4, H4, by omega, by go_num, U4⟩, ?_⟩
            simp [intOf]; omega
    · go_wp2_with fail
      go_loopw [17] (fun s17 wr => ∃ q : Nat, q ≤ 2 ∧ s17 = .int .i64 (q : Int) ∧ Hid (Two w (s + 2) p g s (s + 1) n B' l i V L L H wr)) (fun s17 _ => 2 - (intOf s17).toNat)
      case atStart => exact ⟨0, by omega, rfl, U⟩
      case round =>
        obtain ⟨q, hq, rfl, U1⟩ := hrel
        rename World => X
        by_cases e : q < 2
        · obtain ⟨vs, a, vl, hc⟩ := U1.out.ar
          have c8 := U1.out.cell8 e
          have qz1 : (q : Int) < 2 := by omega
          have qz0 : (0 : Int) ≤ (q : Int) := by omega
          obtain ⟨m, hm⟩ : ∃ m, (L q).length = m := ⟨_, rfl⟩
          have m1' : m ≤ 128 := by have := U1.out.few q e; omega
          have WS := Lib.hid (walk_some 200 X a (hc q e) (by rw [List.length_reverse, hm]; omega) (by omega))
          have HM := Lib.hid hm
          clear a vl hc hm
          go_wp2_with fail
          refine WS.out.mono ?_
          rintro e' X1 ⟨v, rfl, C, m', c', rfl, r1, _, ⟨_, _⟩, k1⟩
          obtain rfl : m = m' := by have := r1.lenN; rw [List.length_reverse, HM.out] at this; exact this
          have U2 := Lib.hid (U1.out.old k1)
          obtain ⟨A, ck, hv, _, _, _⟩ := (U2.out.own q e).rs
          rw [HM.out] at hv
          have c7 := U2.out.cell7 e
          rw [hv] at c7
          have HV := Lib.hid hv
          have S3 := Lib.hid (And.intro U2.out r1)
          clear hv r1 k1 c8 WS
          go_wp2_with fail
          clear c7
          go_loopw [20] (fun s20 wr => ∃ t : Nat, t ≤ m ∧ s20 = .int .i64 (t : Int) ∧ Hid (Two w (s + 2) p g s (s + 1) n B' l i V L L H wr ∧ RsI wr C m (NI (L q).reverse))) (fun s20 _ => m - (intOf s20).toNat)
          case atStart => exact ⟨0, by omega, rfl, S3⟩
          case round =>
            obtain ⟨t, ht, rfl, P⟩ := hrel
            rename World => Y
            by_cases f : t < m
            · have c7 := P.out.1.cell7 e
              obtain ⟨A2, ck2, hv2, rk2, _, _⟩ := (P.out.1.own q e).rs
              rw [HM.out] at hv2 rk2
              rw [hv2] at c7
              obtain ⟨g1, o1, x, rfl, _, hx, _, c1⟩ := P.out.2.getN f
              obtain ⟨g2, o2, x', rfl, _, hx', _, c2⟩ := rk2.getN (k := m - 1 - t) (by omega)
              obtain rfl : x = x' := by
                rw [List.getElem?_reverse (by rw [HM.out]; exact f), HM.out] at hx
                rw [hx] at hx'
                exact Option.some.inj hx'
              have e1 : IntKind.i64.wrap ((m : Int) - 1) = (m : Int) - 1 := IntWalk.i64_in _ (by omega)
              have e2 : IntKind.i64.wrap ((m : Int) - 1 - (t : Int)) = (m : Int) - 1 - (t : Int) := IntWalk.i64_in _ (by omega)
              have e3 : 0 ≤ (m : Int) - 1 - (t : Int) := by omega
              have e4 : (m : Int) - 1 - (t : Int) < (m : Int) := by omega
              clear hx hx' hv2 rk2
              go_wp2_with fail
              go_region
              go_wp2_with fail
              refine ⟨⟨t + 1, by omega, by go_num, Lib.hid ⟨P.out.1.old ((Kept.refl Old Y).drew), P.out.2.drew⟩⟩, ?_⟩
              simp [intOf]; omega
            · go_wp2_with fail
              refine ⟨⟨q + 1, by omega, by go_num, Lib.hid P.out.1⟩, ?_⟩
              simp [intOf]; omega
        · go_wp2_with fail
          refine (awake9_any _).mono ?_
          rintro e w8 ⟨rfl, k8⟩
          go_wp2_with fail
          go_ret
          exact ⟨rfl, U1.out.kept.trans k8⟩

/-- The row's step. -/
theorem lifted (os : Os) (started : os.Started) (H : Type) (enc : TypeId × Value → H) :
    ReturnsInHanded {} Try.checked os 7 .any (Rows.chainTwoSpec.pre6 enc Try.prog Try.f7 Rows.chainTwoRow.domain false) (Rows.chainTwoSpec.post enc Try.prog Try.f7 false true false false) := by
  refine returnsInHanded_of_change (C := Try.checked) own started (by kernel_rfl) Try.func7
    (ChangeSpec.witness6 (enc := enc) (C := Try.checked) false ⟨#[], #[.slice none 0 0, .slice none 0 0], []⟩ 8 (by kernel_rfl) (by kernel_rfl) (by kernel_rfl) (by kernel_rfl)) ?_
  intro W base args ds gs before hval0 hW hcnd _
  have hval : ∀ (j : Nat) t v, Try.f7.params[j]? = some t → args[j]? = some v → Value.okWide Try.prog W .any base t v := hval0
  have hW' := hW
  obtain ⟨p, q, hA0, hV, rfl, hfz, hnd⟩ := hW
  have hA : DataW.TrodAll enc Try.prog W 0 (fun _ => true) true Try.f7.params.toList args.toList ds p := hA0
  rw [Try.params7] at hA hval
  obtain ⟨v0, vs0, d0, ds0, p0, q0, hargs, rfl, rfl, h0, r0⟩ := trodAll_cons hA
  obtain ⟨v1, vs1, d1, ds1, p1, q1, rfl, rfl, rfl, h1, r1⟩ := trodAll_cons r0
  obtain ⟨rfl, rfl, rfl⟩ := trodAll_nil r1
  obtain rfl : args = #[v0, v1] := by cases args; simp_all
  obtain ⟨rfl, rfl⟩ := trodVars_none hV
  have k0 := h0
  have lt0 : ∀ x ∈ p0, x.block < W.heap.size := by obtain ⟨m, hm⟩ := k0; exact DataW.trod_lt m _ _ _ hm
  obtain ⟨a0, len0, cap0, rfl⟩ := okWide_slice Try.underlying23 (hval 0 23 v0 rfl rfl)
  obtain ⟨z0, w0⟩ := ints_in Try.underlying23 Try.underlying5 (by kernel_rfl) h0
  have k1 := h1
  have lt1 : ∀ x ∈ p1, x.block < W.heap.size := by obtain ⟨m, hm⟩ := k1; exact DataW.trod_lt m _ _ _ hm
  obtain ⟨a1, len1, cap1, rfl⟩ := okWide_slice Try.underlying52 (hval 1 52 v1 rfl rfl)
  obtain ⟨z1, w1⟩ := bools_in Try.underlying52 Try.underlying4 (by kernel_rfl) h1
  clear hA0 hval0
  refine (walk a0 len0 cap0 z0 a1 len1 cap1 z1 W w0 w1).mono fun e W' ⟨he, kept⟩ => ?_
  subst he
  have bel : Below W.heap.size W W' := kept.toBelow (Nat.le_refl _) (fun _ x => x.elim)
  exact ⟨_, rfl, _, _, _, [], _, [], hW', trodAll_mk1 (shut_bool Try.underlying4 _), (trodAll_cons_mk (Below.trod laidOut (by kernel_rfl) (of_decide_eq_true (by kernel_rfl)) k0 bel lt0) (trodAll_cons_mk (Below.trod laidOut (by kernel_rfl) (of_decide_eq_true (by kernel_rfl)) k1 bel lt1) trodAll_mk0)), rfl, bel.frame _, fun h => by cases h⟩

theorem over : Rows.ChainTwoSaid :=
  OpenClaim.holds_of_wide 7 Try.f7 rfl rfl rfl rfl rfl rfl rfl ⟨rfl, rfl, rfl, rfl, rfl⟩ rfl rfl rfl rfl rfl (by kernel_rfl) Try.func7 (by kernel_rfl)
    (of_decide_eq_true (by kernel_rfl)) (by unfold Func.isWrapper; first | (rw [if_pos (by decide +kernel)]; kernel_rfl) | (rw [if_neg (by decide +kernel)]; exact ⟨rfl, rfl⟩))
    (fun os started H enc _ => lifted os started H enc)

/-- The statement. -/
theorem proved : Rows.ChainTwoSaid := over
#print axioms proved
end Go.Proofs.Ytnhgimglefpbaaa.chainTwo
