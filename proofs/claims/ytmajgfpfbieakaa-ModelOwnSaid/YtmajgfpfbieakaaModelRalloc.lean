/-
  What the document's own Alloc answers of a valid model. Own work; proved by a walk through the landed text.
-/
import Derived.Test.YtmajgfpfbieakaaRows
import Derived.Test.YtmajgfpfbieakaaSizeCalls
import Derived.Test.YtmajgfpfbieakaaModelOver
import Derived.Test.YtmajgfpfbieakaaModelRput
import Derived.WalkKit
import Derived.ProofKit
import Derived.OpenShut
import Derived.Outline
import Derived.Deep.Light
import Derived.Deep.QuietTactic
import Derived.BigQuiet
import Derived.IntWalk
import Derived.StillTailTactics
import Derived.RegionTactic
import Derived.Deep.RegionLaw
import Derived.Deep.RegionHeld3
namespace Go.Proofs.Ytmajgfpfbieakaa.Lm
open Go.ChangeShapes Go.WideShapes Go.ChangeAt Go.RowKit
set_option maxRecDepth 100000

theorem put_far {w : World} {b : Nat} {x y : Value} {p : Addr} {v : Value} (h : w.cell? p = some v) (hp : p.block ≠ b) : ((w.setCell ⟨b, 0, none⟩ x).setCell ⟨b, 1, none⟩ y).cell? p = some v := ((put2_kept w b x y).cell (block_lt_of_cell h) hp).trans h
theorem any_take {l : List S} {k : Nat} {x : S} {a w : Int} (hx : l[k]? = some x) : anyB (l.take (k + 1)) a w = (anyB (l.take k) a w || hitB x a w) := by
  unfold anyB
  rw [List.take_add_one, hx, List.any_append]
  simp
theorem any_hit {l : List S} {x : S} {a w : Int} (h : hitB x a w = true) (hx : x ∈ l) : anyB l a w = true := List.any_eq_true.2 ⟨x, hx, h⟩
/-- How many of the first k begin ahead of an address. -/
def uptoL (l : List S) (a : Int) (k : Nat) : Nat := if k ≤ placeL l a then k else placeL l a
theorem Valid.upto {W : Int} {l : List S} (v : Valid W l) {a : Int} {k : Nat} {x : S} (hx : l[k]? = some x) : (x.a < a ∧ uptoL l a (k + 1) = k + 1) ∨ (¬ x.a < a ∧ uptoL l a (k + 1) = uptoL l a k) := by
  unfold uptoL
  by_cases c : x.a < a
  · have := (v.below (p := a) hx).2 c
    exact .inl ⟨c, if_pos (by omega)⟩
  · have : ¬ k < placeL l a := fun q => c ((v.below hx).1 q)
    refine .inr ⟨c, ?_⟩
    rw [if_neg (by omega)]
    split <;> omega
theorem upto_all {l : List S} {a : Int} {n : Nat} (h : l.length = n) : uptoL l a n = placeL l a := by
  unfold uptoL
  have := place_le l a
  split <;> omega
theorem fit_new {n a : Int} (h : in64S a) : Fit (newS n a) := by
  refine ⟨h, ?_, ⟨show (-9223372036854775808 : Int) ≤ -1 by decide, show (-1 : Int) ≤ 9223372036854775807 by decide⟩⟩
  show in64S (classI n)
  unfold classI
  split
  · repeat' split
    all_goals constructor <;> decide
  · constructor <;> decide
set_option maxHeartbeats 1500000 in
theorem ralloc_own (W : Int) (A : Option Addr) (n c : Nat) (l : List S) (nn a : Int) (w : World) (h : RsS w A n l) (v : Valid W l) (hc : n ≤ c) (hA : A = none → c = 0) (ha : in64S a) :
    Calls Try.prog 26 #[md W A n c, .int .i64 nn, .int .i64 a] w (AllocOwn (allocW W l nn a) (allocL W l nn a) (roomB W l nn a) w) := by
  have K1 := Lib.hid (kept2 w (.cells #[.int .i64 W, .slice A n c] 24) (.cells #[.int .i64 0, .slice none 0 0] 24))
  have B3 := Lib.hid ((Bm.new w W (.slice A n c)).alloc (.cells #[.int .i64 0, .slice none 0 0] 24))
  have B6 := Lib.hid (Bm.new2 w (.cells #[.int .i64 W, .slice A n c] 24) _ 0 (.slice none 0 0) rfl)
  have a0 := B3.out.c0
  have a1 := B3.out.c1
  have b0 := B6.out.c0
  have b1 := B6.out.c1
  have f0 := B6.out.f0
  have f1 := B6.out.f1
  have hlen := Lib.hid h.len
  have HR := Lib.hid (h.old K1.out)
  have HV := Lib.hid v
  have CL := Lib.hid (fun V => rclass_any nn V)
  have hA := Lib.hid hA
  have HX := Lib.hid (fit_new (n := nn) ha)
  have n5 : n ≤ 512 := by have := v.len; have := h.len; omega
  have w0 := v.w0
  have w1 := v.w1
  clear h v
  obtain ⟨cl, hcl⟩ : ∃ cl, classI nn = cl := ⟨_, rfl⟩
  have ways := room_ways W l nn a
  have hcl := Lib.hid hcl
  rw [hcl.out] at CL ways
  have RWD := Lib.hid (fun V => rwords_any cl V)
  generalize hW : ((w.alloc (.cells #[.int .i64 W, .slice A n c] 24)).alloc (.cells #[.int .i64 0, .slice none 0 0] 24)) = V at *
  have hW2 := Lib.hid hW
  have hV : w.heap.size + 1 < V.heap.size := by rw [← hW2.out]; simp
  have hV0 : w.heap.size < V.heap.size := by omega
  have E0 := Lib.hid (show roomB W l nn a = false → ∀ V9, MadeS [] w (.slice none 0 0) V9 → AllocOwn (allocW W l nn a) (allocL W l nn a) (roomB W l nn a) w (.returned (.tuple #[.agg #[.int .i64 0, .slice none 0 0], .bool false])) V9 from fun r V9 M => by
    rw [(room_no r).2.2.1, (room_no r).2.2.2, r]
    exact ⟨_, rfl, M, ⟨0, OwS.nil _ _⟩⟩)
  rcases ways with ⟨e1, er⟩ | ⟨e1, e2, er⟩ | ⟨e1, e2, er⟩
  · rw [e1] at CL
    have E0 := Lib.hid (E0.out er)
    clear e1 er
    go_enter Try.func26, Try.ntmps26
    go_wp2_with (go_at_call 21; refine (CL.out _).mono ?_; rintro e w' ⟨rfl, rfl⟩)
    go_quiet (fail)
    go_wp2_with fail
    obtain ⟨V9, hV9, r0, r1, K9⟩ := (show Bm (V.drewN nq) _ _ _ from B6.out).end0 (K1.out.drewN _) (by omega)
    rw [hV9]
    exact bodyPost_ret (v := .tuple #[.agg #[.int .i64 0, .slice none 0 0], .bool false]) (by simp [results, Try.results26, go_sem, r0, r1]) rfl (E0.out _ K9)
  · rw [e1] at CL
    have E0 := Lib.hid (E0.out er)
    have lw := lies_ways W a cl
    have c8 : classB nn = true := e1
    have wc : 32 ≤ wordsI cl ∧ wordsI cl ≤ 4096 := by
      rcases words_ways cl with ⟨q, q0⟩ | ⟨_, _, q, q1, _⟩
      · exfalso
        have := class_up nn (of_decide_eq_true c8).1 (of_decide_eq_true c8).2
        rw [hcl.out] at this
        omega
      · exact ⟨q, q1⟩
    rw [e2] at lw
    generalize wordsI cl = m at *
    obtain ⟨m0, m1⟩ := wc
    clear e1 er e2 c8
    rcases lw with ⟨q, _⟩ | ⟨_, _, q, _⟩ | ⟨_, _, q, q2, _⟩ | ⟨_, _, q, q2, q3⟩
    · omega
    · have q' : decide (a < 0) = true := decide_eq_true q
      go_enter Try.func26, Try.ntmps26
      go_wp2_with (go_at_call 21; refine (CL.out _).mono ?_; rintro e w' ⟨rfl, rfl⟩)
      go_quiet (fail)
      go_wp2_with fail
      obtain ⟨V9, hV9, r0, r1, K9⟩ := (show Bm (V.drewN nq) _ _ _ from B6.out).end0 (K1.out.drewN _) (by omega)
      rw [hV9]
      exact bodyPost_ret (v := .tuple #[.agg #[.int .i64 0, .slice none 0 0], .bool false]) (by simp [results, Try.results26, go_sem, r0, r1]) rfl (E0.out _ K9)
    · have q' : decide (a < 0) = false := decide_eq_false (by omega)
      have q4 : (a % 32 != 0) = true := by simpa using q2
      go_enter Try.func26, Try.ntmps26
      go_wp2_with (go_at_call 21; refine (CL.out _).mono ?_; rintro e w' ⟨rfl, rfl⟩)
      go_quiet (fail)
      go_wp2_with fail
      obtain ⟨V9, hV9, r0, r1, K9⟩ := (show Bm (V.drewN nq) _ _ _ from B6.out).end0 (K1.out.drewN _) (by omega)
      rw [hV9]
      exact bodyPost_ret (v := .tuple #[.agg #[.int .i64 0, .slice none 0 0], .bool false]) (by simp [results, Try.results26, go_sem, r0, r1]) rfl (E0.out _ K9)
    · have q' : decide (a < 0) = false := decide_eq_false (by omega)
      have q4 : (a % 32 != 0) = false := by simp [q2]
      have q9 := of_decide_eq_false q3.symm
      clear q3
      by_cases q5 : W < a
      · have q6 : decide (W < a) = true := decide_eq_true q5
        go_enter Try.func26, Try.ntmps26
        go_wp2_with (go_at_call 21; refine (CL.out _).mono ?_; rintro e w' ⟨rfl, rfl⟩)
        go_quiet (fail)
        go_wp2_with fail
        obtain ⟨V9, hV9, r0, r1, K9⟩ := (show Bm (V.drewN nq) _ _ _ from B6.out).end0 (K1.out.drewN _) (by omega)
        rw [hV9]
        exact bodyPost_ret (v := .tuple #[.agg #[.int .i64 0, .slice none 0 0], .bool false]) (by simp [results, Try.results26, go_sem, r0, r1]) rfl (E0.out _ K9)
      · have q6 : decide (W < a) = false := decide_eq_false q5
        have q7 : IntKind.i64.wrap (W - a) = W - a := IntWalk.i64_in _ (by omega)
        have q8 : decide (W - a < m) = true := decide_eq_true (by omega)
        go_enter Try.func26, Try.ntmps26
        go_wp2_with (go_at_call 21; refine (CL.out _).mono ?_; rintro e w' ⟨rfl, rfl⟩)
        go_quiet (first | (go_at_call 18; with_reducible exact Calls.quiet_of_same ((RWD.out _).mono fun e w' h => ⟨h.1, h.2.symm⟩)))
        go_wp2_with fail
        obtain ⟨V9, hV9, r0, r1, K9⟩ := (show Bm (V.drewN nq) _ _ _ from B6.out).end0 (K1.out.drewN _) (by omega)
        rw [hV9]
        exact bodyPost_ret (v := .tuple #[.agg #[.int .i64 0, .slice none 0 0], .bool false]) (by simp [results, Try.results26, go_sem, r0, r1]) rfl (E0.out _ K9)
  · rw [e1] at CL
    have ly := Lib.hid (lies_of e2)
    have er := Lib.hid er
    obtain ⟨m, hm0⟩ : ∃ m, wordsI cl = m := ⟨_, rfl⟩
    have HM := Lib.hid hm0
    clear hm0
    have RO := Lib.hid (fun (x : S) (hx : x ∈ l) U => rover_any x.a (wordsI x.n) a (wordsI cl) U (HV.out.each x hx).a0 (by have := (HV.out.each x hx).fit; have := (HV.out.each x hx).w0; omega) (by have := (HV.out.each x hx).w0; omega) (HV.out.each x hx).w1 ly.out.a0 (by have := ly.out.fit; have := ly.out.w0; omega) (by have := ly.out.w0; omega) ly.out.w1)
    have y0 := ly.out.a0
    have y1 := ly.out.fit
    have y2 := ly.out.w0
    have y3 := ly.out.w1
    have y4 := ly.out.a1
    rw [HM.out] at RWD RO y1 y2 y3
    have q' : decide (a < 0) = false := decide_eq_false (by omega)
    have q4 : (a % 32 != 0) = false := by simp [y4]
    have q6 : decide (W < a) = false := decide_eq_false (by omega)
    have q7 : IntKind.i64.wrap (W - a) = W - a := IntWalk.i64_in _ (by omega)
    have q8 : decide (W - a < m) = false := decide_eq_false (by omega)
    clear e1 e2 y4
    go_enter Try.func26, Try.ntmps26
    go_wp2_with (go_at_call 21; refine (CL.out _).mono ?_; rintro e w' ⟨rfl, rfl⟩)
    go_quiet (first | (go_at_call 18; with_reducible exact Calls.quiet_of_same ((RWD.out _).mono fun e w' h => ⟨h.1, h.2.symm⟩)))
    go_wp2_with fail
    go_loopw [10, 11] (fun kk ii wr => ∃ k : Nat, k ≤ n ∧ kk = .int .i64 (uptoL l a k : Int) ∧ ii = .int .i64 (k : Int) ∧ Hid (anyB (l.take k) a m = false) ∧ Hid (Kept Old V wr)) (fun _ ii _ => n - (intOf ii).toNat)
    case atStart => exact ⟨0, by omega, by simp [uptoL], rfl, Lib.hid rfl, Lib.hid ((Kept.refl Old V).drewN _)⟩
    case round =>
      obtain ⟨k, hk, rfl, rfl, NO, KU⟩ := hrel
      rename World => U
      have B3 := Lib.hid (B3.out.old KU.out)
      have B6 := Lib.hid (B6.out.old KU.out)
      have HR := Lib.hid (HR.out.old KU.out)
      have K1 := Lib.hid (K1.out.trans KU.out)
      have sU := KU.out.size
      have a0 := B3.out.c0
      have a1 := B3.out.c1
      have b0 := B6.out.c0
      have b1 := B6.out.c1
      have f0 := B6.out.f0
      have f1 := B6.out.f1
      by_cases d : k < n
      · obtain ⟨g, o, x, rfl, hg, hx, _, cx0, cx1, cx2⟩ := HR.out.get d
        have kn : (k : Int) < (n : Int) := by omega
        have RX := Lib.hid (RO.out x (List.mem_of_getElem? hx))
        have RWX := Lib.hid (fun U => rwords_any x.n U)
        have tk := Lib.hid (any_take (a := a) (w := m) hx)
        have up := HV.out.upto (a := a) hx
        have hitm := Lib.hid (fun e => any_hit (l := l) (a := a) (w := m) (x := x) e (List.mem_of_getElem? hx))
        have hhit := show hitB x a m = decide (x.a < a + m ∧ a < x.a + wordsI x.n) from rfl
        generalize hwx : wordsI x.n = wx at *
        generalize hhb : hitB x a m = hb at *
        rw [← hhit] at RX
        clear hx hhit hhb hwx
        cases hb with
        | true =>
          have E0 := Lib.hid (E0.out (by rw [er.out, HM.out, hitm.out rfl]; rfl))
          clear up
          go_wp2_with fail
          go_quiet (first | (go_at_call 18; with_reducible exact Calls.quiet_of_same ((RWX.out _).mono fun e w' h => ⟨h.1, h.2.symm⟩)) | (go_at_call 18; with_reducible exact Calls.quiet_of_same ((RWD.out _).mono fun e w' h => ⟨h.1, h.2.symm⟩)) | (go_at_call 35; exact Calls.quiet_of_same ((RX.out _).mono fun e w' h => ⟨h.1, h.2.symm⟩)))
          go_wp2_with fail
          obtain ⟨V9, hV9, r0, r1, K9⟩ := (show Bm (U.drewN nq) _ _ _ from B6.out).end0 (K1.out.drewN _) (by omega)
          rw [hV9]
          exact bodyPost_ret (v := .tuple #[.agg #[.int .i64 0, .slice none 0 0], .bool false]) (by simp [results, Try.results26, go_sem, r0, r1]) rfl (E0.out _ K9)
        | false =>
          have NO2 := Lib.hid (show anyB (l.take (k + 1)) a m = false from by rw [tk.out, NO.out]; rfl)
          rcases up with ⟨u, u1⟩ | ⟨u, u1⟩
          · have U1 := Lib.hid u1
            clear u1
            go_wp2_with fail
            go_quiet (first | (go_at_call 18; with_reducible exact Calls.quiet_of_same ((RWX.out _).mono fun e w' h => ⟨h.1, h.2.symm⟩)) | (go_at_call 18; with_reducible exact Calls.quiet_of_same ((RWD.out _).mono fun e w' h => ⟨h.1, h.2.symm⟩)) | (go_at_call 35; exact Calls.quiet_of_same ((RX.out _).mono fun e w' h => ⟨h.1, h.2.symm⟩)))
            go_wp2_with fail
            refine ⟨⟨k + 1, by omega, by rw [U1.out]; go_num, by go_num, NO2, Lib.hid (KU.out.drewN _)⟩, ?_⟩
            simp [intOf]; omega
          · have U1 := Lib.hid u1
            clear u1
            go_wp2_with fail
            go_quiet (first | (go_at_call 18; with_reducible exact Calls.quiet_of_same ((RWX.out _).mono fun e w' h => ⟨h.1, h.2.symm⟩)) | (go_at_call 18; with_reducible exact Calls.quiet_of_same ((RWD.out _).mono fun e w' h => ⟨h.1, h.2.symm⟩)) | (go_at_call 35; exact Calls.quiet_of_same ((RX.out _).mono fun e w' h => ⟨h.1, h.2.symm⟩)))
            go_wp2_with fail
            refine ⟨⟨k + 1, by omega, by rw [U1.out], by go_num, NO2, Lib.hid (KU.out.drewN _)⟩, ?_⟩
            simp [intOf]; omega
      · obtain rfl : k = n := by omega
        have an : anyB l a m = false := by have := NO.out; rwa [List.take_of_length_le (by have := hlen.out; omega)] at this
        have ry : roomB W l nn a = true := by rw [er.out, HM.out, an]; rfl
        have e3 : uptoL l a k = placeL l a := upto_all hlen.out
        rw [e3]
        have PU := Lib.hid (fun X (kk : Kept Old U X) => rlput_own A k c l (placeL l a) (newS nn a) X (HR.out.old kk) (by have := place_le l a; have := hlen.out; omega) (by omega) hc hA.out HX.out)
        rw [show spn (newS nn a) = .agg #[.int .i64 a, .int .i64 cl, .int .i64 (-1)] from by unfold newS; rw [hcl.out]] at PU
        have PO := Lib.hid (show ∀ v V9, MadeS (l.take (placeL l a) ++ newS nn a :: l.drop (placeL l a)) w v V9 → OwnS (l.take (placeL l a) ++ newS nn a :: l.drop (placeL l a)) w v V9 → AllocOwn (allocW W l nn a) (allocL W l nn a) (roomB W l nn a) w (.returned (.tuple #[.agg #[.int .i64 W, v], .bool true])) V9 from fun v V9 M O => by
          rw [(room_yes ry).2.2.1, (room_yes ry).2.2.2, ry]
          exact ⟨_, rfl, M, O⟩)
        have KV := Lib.hid (Kept.refl Old U)
        clear ry an e3
        generalize placeL l a = p at *
        go_wp2_with fail
        go_region_held3 (fun w' => w'.cell? ⟨w.heap.size, 0, none⟩ = some (.int .i64 W) ∧ w'.cell? ⟨w.heap.size, 1, none⟩ = some (.slice A k c))
          (first
            | (exact ⟨‹_›, ‹_›⟩)
            | (exact ⟨put_far ‹_› (Nat.ne_of_lt (Nat.lt_succ_self _)), put_far ‹_› (Nat.ne_of_lt (Nat.lt_succ_self _))⟩)
            | go_keep)
          (first
            | (go_at_call 36; refine (PU.out _ (by first | exact KV.out | exact KV.out.drew)).mono ?_; rintro e w5 ⟨v5, rfl, M5, O5⟩; have O5 := Lib.hid O5; have K5 := M5.kept; have B5 := Lib.hid (B6.out.old (by first | exact KV.out.trans K5 | exact KV.out.drew.trans K5)); have b0 := B5.out.c0; have b1 := B5.out.c1; have f0 := B5.out.f0; have f1 := B5.out.f1; have a0 := cell_on K5 (by first | exact a0 | assumption); have a1 := cell_on K5 (by first | exact a1 | assumption); obtain ⟨A5, n5, c5, rfl⟩ := M5.form; have M5 := Lib.hid M5; clear K5))
        go_wp2
        obtain ⟨V9, hV9, r0, r1, K9⟩ := Bm.end2 B5.out M5.out (K1.out.trans (by first | exact KV.out | exact KV.out.drew)) (by omega) (show w.heap.size + 1 < U.heap.size by omega) W
        have OV := Lib.hid (O5.out.put2 (K1.out.trans (by first | exact KV.out | exact KV.out.drew)) (show w.heap.size + 1 < _ by first | exact (show w.heap.size + 1 < U.heap.size by omega) | exact (show w.heap.size + 1 < U.drew.heap.size by show w.heap.size + 1 < U.heap.size; omega)) (.int .i64 W) (.slice A5 n5 c5))
        rw [hV9] at OV
        rw [hV9]
        exact bodyPost_ret (v := .tuple #[.agg #[.int .i64 W, .slice A5 n5 c5], .bool true]) (by simp [results, Try.results26, go_sem, r0, r1]) rfl (PO.out _ _ K9 OV.out)
theorem ralloc_any (W : Int) (A : Option Addr) (n c : Nat) (l : List S) (nn a : Int) (w : World) (h : RsS w A n l) (v : Valid W l) (hc : n ≤ c) (hA : A = none → c = 0) (ha : in64S a) :
    Calls Try.prog 26 #[md W A n c, .int .i64 nn, .int .i64 a] w (AllocPost (allocW W l nn a) (allocL W l nn a) (roomB W l nn a) w) :=
  (ralloc_own W A n c l nn a w h v hc hA ha).mono fun _ _ ⟨v, e, m, _⟩ => ⟨v, e, m⟩
end Go.Proofs.Ytmajgfpfbieakaa.Lm
