/-
  What the document's own Add answers, and leaves. Own work; proved by a walk through the text.
-/
import Derived.Test.YtcaongcpfepcjaaRows
import Derived.Test.YtcaongcpfepcjaaRefEnts
import Derived.Test.YtcaongcpfepcjaaRefPlace
import Derived.Test.YtcaongcpfepcjaaRfApp
import Derived.Test.YtcaongcpfepcjaaSizeCalls
import Derived.Test.YtcaongcpfepcjaaRegionLast
namespace Go.Proofs.Ytcaongcpfepcjaa.Prt
open Go.ChangeShapes Go.WideShapes Go.ChangeAt Go.RowKit
set_option maxRecDepth 100000

/-- What the document's Add leaves. -/
def RAddPost (W : World) (q c P : Nat) (L : List Q) (p : Int) (G : Nat → Prop) (e : Ending) (W' : World) : Prop :=
  e = .returned (.int .i64 (addC P L p)) ∧ RpN W q c P (addL P c L p) G W'
set_option linter.unusedVariables false in
theorem radd_arg {q c P : Nat} {L : List Q} {G : Nat → Prop} (p : Int) (w : World) (h : RpX w q c P L G) (gd : GoodP P c L) (hP : P ≤ 256) (hp : p < 0 ∨ (P : Int) - 8 < p) :
    Calls Try.prog 12 #[ptr q, .int .i64 p] w fun e w' => e = .returned (.int .i64 1) ∧ w = w' := by
  obtain ⟨A, cap, es, h⟩ := h
  have c1 := h.c1
  rcases (show p < 0 ∨ (0 ≤ p ∧ (P : Int) < p) ∨ (0 ≤ p ∧ p ≤ (P : Int) ∧ (P : Int) - p < 8) by omega) with c0 | ⟨c0, c2⟩ | ⟨c0, c2, c3⟩
  · clear hp
    go_enter Try.func12, Try.ntmps12
    go_wp2_with fail
    go_ret
    exact ⟨rfl, rfl⟩
  · have d0 : ¬ p < 0 := by omega
    clear hp
    go_enter Try.func12, Try.ntmps12
    go_wp2_with fail
    go_ret
    exact ⟨rfl, rfl⟩
  · have d0 : ¬ p < 0 := by omega
    have d2 : ¬ (P : Int) < p := by omega
    have wz : IntKind.i64.wrap ((P : Int) - p) = (P : Int) - p := IntWalk.i64_in _ (by omega)
    clear hp
    go_enter Try.func12, Try.ntmps12
    go_wp2_with fail
    go_ret
    exact ⟨rfl, rfl⟩
set_option maxHeartbeats 3000000 in
theorem radd_in {q c P : Nat} {L : List Q} {G : Nat → Prop} (p : Nat) (w : World) (h : RpX w q c P L G) (gd : GoodP P c L) (hP : P ≤ 256) (hp : p + 8 ≤ P) :
    Calls Try.prog 12 #[ptr q, .int .i64 (p : Int)] w (RAddPost w q c P L p G) := by
  have gx := h
  obtain ⟨A, cap, es, h⟩ := h
  have hn : L.length ≤ 32 := by have := gd.len; omega
  have HR := Lib.hid h
  have HG := Lib.hid gd
  have c0 := h.c0
  have c1 := h.c1
  have c2 := h.c2
  have hc := gd.cls
  have P0 := Lib.hid (show ∀ w', placeQ p L = none → Kept Old w w' → RAddPost w q c P L p G (.returned (.int .i64 4)) w' from fun w' e k => by
    have q1 : addC P L p = 4 := by unfold addC; rw [if_neg (by omega), Int.toNat_natCast, e]
    have q3 : addL P c L p = L := by unfold addL; rw [if_neg (by omega), Int.toNat_natCast, e]
    unfold RAddPost
    rw [q1, q3]
    exact ⟨rfl, HR.out.same k⟩)
  have P1 := Lib.hid (show ∀ j w', placeQ p L = some j → RpN w q c P (insQ c L j p) G w' → RAddPost w q c P L p G (.returned (.int .i64 0)) w' from fun j w' e hr => by
    have q1 : addC P L p = 0 := by unfold addC; rw [if_neg (by omega), Int.toNat_natCast, e]
    have q3 : addL P c L p = insQ c L j p := by unfold addL; rw [if_neg (by omega), Int.toNat_natCast, e]
    unfold RAddPost
    rw [q1, q3]
    exact ⟨rfl, hr⟩)
  obtain ⟨n, hln⟩ : ∃ n, L.length = n := ⟨_, rfl⟩
  rw [hln] at c2 hn
  have HL := Lib.hid hln
  have hq := h.lt q h.gq
  have z0 : ¬ (p : Int) < 0 := by omega
  have z1 : ¬ (P : Int) < (p : Int) := by omega
  have z2 : IntKind.i64.wrap ((P : Int) - (p : Int)) = (P : Int) - (p : Int) := IntWalk.i64_in _ (by omega)
  have z3 : ¬ (P : Int) - (p : Int) < 8 := by omega
  clear h gd hln gx
  go_enter Try.func12, Try.ntmps12
  go_wp2_with fail
  go_loopw [5, 6] (fun s5 s6 wr => ∃ j k : Nat, k ≤ n ∧ s5 = .int .i64 (j : Int) ∧ s6 = .int .i64 (k : Int) ∧ Hid (Pl p L j k) ∧ w = wr) (fun _ i _ => n - (intOf i).toNat)
  case atStart => exact ⟨0, 0, by omega, rfl, rfl, Lib.hid (Pl.start _ _), rfl⟩
  case round =>
    obtain ⟨j, k, hk, rfl, rfl, HB, rfl⟩ := hrel
    by_cases ck : k < n
    · obtain ⟨g, o, x, B, cb, en, rfl, hg, hx, hen, hee, a0, a1, rb, hB, hcb⟩ := HR.out.get (k := k) (by rw [HL.out]; exact ck)
      have xp := HG.out.inP x (List.mem_of_getElem? hx)
      have HX := Lib.hid hx
      clear hx hen rb
      by_cases d1 : p + 8 ≤ x.page
      · have OV := Lib.hid (over8_no x.page p w (by omega) (by omega) (.inr d1))
        have HB2 := Lib.hid (HB.out.high HX.out d1)
        have t : ¬ (x.page : Int) < (p : Int) := by omega
        go_wp2_with fail
        refine OV.out.mono ?_
        rintro e w' ⟨rfl, rfl⟩
        go_wp2_with fail
        refine ⟨⟨j, k + 1, by omega, by first | rfl | trivial, by go_num, HB2, by first | trivial | rfl⟩, ?_⟩
        simp [intOf]; omega
      · by_cases d2 : p < x.page + 8
        · have OV := Lib.hid (over8_yes x.page p w (by omega) (by omega) (by omega) (by omega))
          have Q0 := Lib.hid (P0.out w (HB.out.hit HG.out HX.out d1 d2) (Kept.refl _ _))
          go_wp2_with fail
          refine OV.out.mono ?_
          rintro e w' ⟨rfl, rfl⟩
          go_wp2_with fail
          go_ret
          exact Q0.out
        · have OV := Lib.hid (over8_no x.page p w (by omega) (by omega) (.inl (by omega)))
          have HB2 := Lib.hid (HB.out.low HG.out HX.out (by omega))
          have t : (x.page : Int) < (p : Int) := by omega
          have wk : IntKind.i64.wrap ((k : Int) + 1) = ((k + 1 : Nat) : Int) := by rw [IntWalk.i64_in _ (by omega)]; omega
          go_wp2_with fail
          refine OV.out.mono ?_
          rintro e w' ⟨rfl, rfl⟩
          go_wp2_with fail
          refine ⟨⟨k + 1, k + 1, by omega, by first | rfl | trivial, by first | rfl | trivial, HB2, by first | trivial | rfl⟩, ?_⟩
          simp [intOf]; omega
    · obtain rfl : k = n := by omega
      have HJ := Lib.hid (show placeQ p L = some j from (show Pl p L j L.length from by rw [HL.out]; exact HB.out).end)
      have hj : j ≤ k := HB.out.le
      have pp := per_pos hc
      have wp := w_pos hc
      have wl := w_le hc
      have e1 := Lib.hid (perI_c hc)
      have RW := Lib.hid (fun W => (show Calls Try.prog 31 #[.int .i64 (c : Int)] W fun e w' => e = .returned (.int .i64 ((wN c : Nat) : Int)) ∧ W = w' from by rw [← wordsI_c hc]; exact rwords_any _ _))
      have RP := Lib.hid (fun W => (show Calls Try.prog 30 #[.int .i64 (c : Int)] W fun e w' => e = .returned (.int .i64 ((perN c : Nat) : Int)) ∧ W = w' from by rw [← perI_c hc]; exact rper_any _ _))
      have hX : w.heap.size = w.heap.size := rfl
      have BX := Lib.hid (Rf.Bx.new w ⟨(p : Int), none, 0, 0⟩)
      have KX := Lib.hid ((Kept.refl Old w).alloc (.cells #[.int .i64 (p : Int), .slice none 0 0] 71))
      have C0 := Lib.hid c0
      have C2 := Lib.hid c2
      clear c0 c1 HB z0 z1 z2 z3
      go_wp2_with fail
      clear c2
      go_loopw [8] (fun s8 wr => ∃ (i cp : Nat) (B : Option Addr), i ≤ perN c ∧ s8 = .int .i64 (i : Int) ∧ Hid (Rf.Bx wr w.heap.size ⟨(p : Int), B, i, cp⟩) ∧ Hid (OwI wr (w.heap.size + 1) (.slice B i cp) i (NI ((allQ c p).take i))) ∧ Hid (Kept Old w wr)) (fun i _ => perN c - (intOf i).toNat)
      case atStart => exact ⟨0, 0, none, by omega, rfl, BX, by simpa [NI] using Lib.hid (OwI.nil _ _), KX⟩
      case round =>
        obtain ⟨i, cp, B, hi, rfl, B1, O1, K1⟩ := hrel
        rename World => W
        clear BX KX
        have c0 := cellP_on K1.out C0.out
        have lX := Blk.lt B1.out
        have x1 : W.cell? ⟨w.heap.size, 1, none⟩ = some (.slice B i cp) := B1.out.c1
        have xf := Blk.frozen B1.out
        have hqX : q ≠ w.heap.size := by omega
        by_cases ci : i < perN c
        · have m1 := mul_lt_of (w := wN c) ci
          have m2 := w_per hc
          have m3 : (i : Int) * ((wN c : Nat) : Int) = ((i * wN c : Nat) : Int) := by simp
          have m4 : IntKind.i64.wrap ((i : Int) * ((wN c : Nat) : Int)) = (i : Int) * ((wN c : Nat) : Int) := by rw [m3]; exact IntWalk.i64_in _ (by omega)
          have m5 : IntKind.i64.wrap ((p : Int) * 64) = (p : Int) * 64 := IntWalk.i64_in _ (by omega)
          have m6 : IntKind.i64.wrap ((p : Int) * 64 + (i : Int) * ((wN c : Nat) : Int)) = ((stk c p i : Nat) : Int) := by
            unfold stk
            rw [m3, IntWalk.i64_in _ (by omega)]
            omega
          have sl := stk_lt (page := p) hc ci
          have nx := Lib.hid (show NI ((allQ c p).take (i + 1)) = NI ((allQ c p).take i) ++ [((stk c p i : Nat) : Int)] from by rw [take_at (allQ_get ci), NI_append]; rfl)
          have R1 := Lib.hid (RsI.one W ((stk c p i : Nat) : Int) ⟨by omega, by omega⟩ W.heap.size rfl).drew
          have OO := Lib.hid (O1.out.alloc (.cells #[.int .i64 ((stk c p i : Nat) : Int)] 3)).drew
          have KW := Lib.hid ((Kept.refl Old W).alloc (.cells #[.int .i64 ((stk c p i : Nat) : Int)] 3)).drew
          have hb := Lib.hid (Nat.le_trans (show w.heap.size + 1 ≤ W.heap.size from lX) KW.out.size)
          clear m3 hX
          go_wp2_with fail
          refine (RP.out _).mono ?_
          rintro e w' ⟨rfl, rfl⟩
          go_wp2_with fail
          refine wp_region_last 15 (fun w' => w'.cell? ⟨w.heap.size, 1, none⟩ = some (.slice B i cp) ∧ w'.cell? ⟨q, 0, none⟩ = some (.int .i64 (c : Int))) (by kernel_rfl) rfl (by decide +kernel) ⟨x1, c0⟩ (fun hHeld => ?_)
          simp only [List.pop_toArray, List.dropLast_cons_cons, List.dropLast_singleton]
          refine wpAnyH_take (i := 0) (v := .pointer (some ⟨w.heap.size, 1, none⟩)) rfl (by kernel_rfl) (by decide +kernel) (by decide +kernel) (fun _ _ _ h => h) (Or.inl ⟨by rfl, fun w' hSw => ?_⟩) hHeld ?_
          · (go_simp)
          simp only [Act.put, List.getElem_toArray, List.getElem_cons_zero, List.setIfInBounds_toArray, List.set_cons_zero, List.set_cons_succ]
          refine wpAnyH_take (i := 1) (v := .slice B i cp) rfl (by kernel_rfl) (by decide +kernel) (by decide +kernel) (fun _ _ _ h => h) (Or.inl ⟨by rfl, fun w' hSw => ?_⟩) hHeld ?_
          · (go_simp)
          simp only [Act.put, List.getElem_toArray, List.getElem_cons_succ, List.getElem_cons_zero, List.setIfInBounds_toArray, List.set_cons_zero, List.set_cons_succ]
          refine wpAnyH_take (i := 2) (v := .int .i64 (p : Int)) rfl (by kernel_rfl) (by decide +kernel) (by decide +kernel) (fun _ _ _ h => h) (Or.inl ⟨by rfl, fun w' hSw => ?_⟩) hHeld ?_
          · (go_simp)
          simp only [Act.put, List.getElem_toArray, List.getElem_cons_succ, List.getElem_cons_zero, List.setIfInBounds_toArray, List.set_cons_zero, List.set_cons_succ]
          refine wpAnyH_take (i := 3) (v := .int .i64 ((p : Int) * 64)) rfl (by kernel_rfl) (by decide +kernel) (by decide +kernel) (fun _ _ _ h => h) (Or.inl ⟨by rfl, fun w' hSw => ?_⟩) hHeld ?_
          · (go_simp)
          simp only [Act.put, List.getElem_toArray, List.getElem_cons_succ, List.getElem_cons_zero, List.setIfInBounds_toArray, List.set_cons_zero, List.set_cons_succ]
          refine wpAnyH_take (i := 4) (v := .int .i64 (i : Int)) rfl (by kernel_rfl) (by decide +kernel) (by decide +kernel) (fun _ _ _ h => h) (Or.inl ⟨by rfl, fun w' hSw => ?_⟩) hHeld ?_
          · (go_simp)
          simp only [Act.put, List.getElem_toArray, List.getElem_cons_succ, List.getElem_cons_zero, List.setIfInBounds_toArray, List.set_cons_zero, List.set_cons_succ]
          refine wpAnyH_take (i := 5) (v := ptr q) rfl (by kernel_rfl) (by decide +kernel) (by decide +kernel) (fun _ _ _ h => h) (Or.inl ⟨by rfl, fun w' hSw => ?_⟩) hHeld ?_
          · (go_simp)
          simp only [Act.put, List.getElem_toArray, List.getElem_cons_succ, List.getElem_cons_zero, List.setIfInBounds_toArray, List.set_cons_zero, List.set_cons_succ]
          refine wpAnyH_take (i := 6) (v := ptr q) rfl (by kernel_rfl) (by decide +kernel) (by decide +kernel) (fun _ _ _ h => h) (Or.inl ⟨by rfl, fun w' hSw => ?_⟩) hHeld ?_
          · (go_simp)
          simp only [Act.put, List.getElem_toArray, List.getElem_cons_succ, List.getElem_cons_zero, List.setIfInBounds_toArray, List.set_cons_zero, List.set_cons_succ]
          refine wpAnyH_take (i := 7) (v := .pointer (some ⟨q, 0, none⟩)) rfl (by kernel_rfl) (by decide +kernel) (by decide +kernel) (fun _ _ _ h => h) (Or.inl ⟨by rfl, fun w' hSw => ?_⟩) hHeld ?_
          · (go_simp)
          simp only [Act.put, List.getElem_toArray, List.getElem_cons_succ, List.getElem_cons_zero, List.setIfInBounds_toArray, List.set_cons_zero, List.set_cons_succ]
          refine wpAnyH_take (i := 8) (v := .int .i64 (c : Int)) rfl (by kernel_rfl) (by decide +kernel) (by decide +kernel) (fun _ _ _ h => h) (Or.inl ⟨by rfl, fun w' hSw => ?_⟩) hHeld ?_
          · (go_simp)
          simp only [Act.put, List.getElem_toArray, List.getElem_cons_succ, List.getElem_cons_zero, List.setIfInBounds_toArray, List.set_cons_zero, List.set_cons_succ]
          refine wpAnyH_ready (rs := [9]) (by decide +kernel) (by simp) (AllReadyH.cons rfl (fun K hK => ?_) AllReadyH.nil)
          simp only [List.getElem_toArray, List.getElem_cons_succ, List.getElem_cons_zero]
          rw [if_pos (by rfl)]
          go_simp
          go_at_call 31
          refine (RW.out _).mono ?_
          rintro e w' ⟨rfl, rfl⟩
          refine hK.out _ _ hHeld (fun hHeld => ?_)
          clear hK K
          refine wpAnyH_take (i := 10) (v := .int .i64 ((i : Int) * ((wN c : Nat) : Int))) rfl (by kernel_rfl) (by decide +kernel) (by decide +kernel) (fun _ _ _ h => h) (Or.inl ⟨by rfl, fun w' hSw => ?_⟩) hHeld ?_
          · (go_simp)
          simp only [Act.put, List.getElem_toArray, List.getElem_cons_succ, List.getElem_cons_zero, List.setIfInBounds_toArray, List.set_cons_zero, List.set_cons_succ]
          refine wpAnyH_take (i := 11) (v := .int .i64 ((stk c p i : Nat) : Int)) rfl (by kernel_rfl) (by decide +kernel) (by decide +kernel) (fun _ _ _ h => h) (Or.inl ⟨by rfl, fun w' hSw => ?_⟩) hHeld ?_
          · (go_simp)
          simp only [Act.put, List.getElem_toArray, List.getElem_cons_succ, List.getElem_cons_zero, List.setIfInBounds_toArray, List.set_cons_zero, List.set_cons_succ]
          refine wpAnyH_ready (rs := [12]) (by decide +kernel) (by simp) (AllReadyH.cons rfl (fun K hK => ?_) AllReadyH.nil)
          simp only [List.getElem_toArray, List.getElem_cons_succ, List.getElem_cons_zero]
          rw [if_pos (by rfl)]
          go_simp
          refine hK.out _ _ ⟨cellP_on KW.out x1, cellP_on KW.out c0⟩ (fun hHeld => ?_)
          clear hK K
          refine wpAnyH_ready (rs := [13]) (by decide +kernel) (by simp) (AllReadyH.cons rfl (fun K hK => ?_) AllReadyH.nil)
          refine app_stepI rfl (.tmp 71) (.tmp 82) rfl rfl (w.heap.size + 1) (.slice B i cp) i (NI ((allQ c p).take i)) (by first | rfl | simp [Act.eval]) OO.out (some ⟨W.heap.size, 0, none⟩) 1 1 [((stk c p i : Nat) : Int)] (by first | rfl | simp [Act.eval]) R1.out (fun h => by cases h) (by omega) (by omega) hb.out (i + 1) rfl (NI ((allQ c p).take (i + 1))) nx.out.symm ?_
          intro v4 w4 O4 k4 a4
          obtain ⟨A4, c4, rfl, _⟩ := O4.out.rs
          have XB := Blk.kept (D := fun k => some k = (Value.slice B i cp).ownBlock) (Blk.drew (Blk.alloc B1.out (.cells #[.int .i64 ((stk c p i : Nat) : Int)] 3))) k4.out (fun e => by have := (O1.out.own _ e).1; omega)
          have QB := (HR.out.box.kept (K1.out.alloc (.cells #[.int .i64 ((stk c p i : Nat) : Int)] 3)).drew (fun x => x)).kept k4.out (fun e => by have := (O1.out.own _ e).1; omega)
          have x4 := XB.cell 1
          have c04 := QB.cell 0
          have f4 := XB.frozen 1
          have XB := Lib.hid XB
          simp only [List.getElem?_cons_succ, List.getElem?_cons_zero] at x4 c04
          refine hK.out _ _ ⟨x4, c04⟩ (fun hHeld => ?_)
          clear hK K
          refine wpAnyH_take (i := 14) (v := .pointer (some ⟨w.heap.size, 1, none⟩)) rfl (by kernel_rfl) (by decide +kernel) (by decide +kernel) (fun _ _ _ h => h) (Or.inl ⟨by rfl, fun w' hSw => ?_⟩) hHeld ?_
          · (go_simp)
          simp only [Act.put, List.getElem_toArray, List.getElem_cons_succ, List.getElem_cons_zero, List.setIfInBounds_toArray, List.set_cons_zero, List.set_cons_succ]
          refine wpAnyH_done (by decide +kernel) ?_ _
          unfold LastQ
          refine wpOp_step rfl (fun K hK => ?_)
          simp only [List.getElem_toArray, List.getElem_cons_succ, List.getElem_cons_zero]
          rw [if_pos (by rfl)]
          go_simp
          refine hK _ _ ?_
          clear hK K
          clear c04
          have K4 := Lib.hid ((K1.out.alloc (.cells #[.int .i64 ((stk c p i : Nat) : Int)] 3)).drew.join k4.out (fun j hj e => by have := (O1.out.own j e).1; have hj : j < w.heap.size := hj; omega))
          have B5 := Lib.hid (XB.out.put 1 (.slice A4 (i + 1) c4))
          have O5 := Lib.hid (O4.out.kept (only_setCell w4 w.heap.size 1 (.slice A4 (i + 1) c4)) (fun j hj e => by have := (O4.out.own j hj.symm).1; have e : j = w.heap.size := e; omega))
          have K5 := Lib.hid (K4.out.setCell (p := ⟨w.heap.size, 1, none⟩) (fun h => absurd h (Nat.lt_irrefl _)) (.slice A4 (i + 1) c4))
          clear x1 c0 x4 f4 XB k4 a4 O4 K4 hHeld
          go_wp2
          refine ⟨⟨i + 1, c4, A4, by omega, by go_num, B5, O5, K5⟩, ?_⟩
          simp [intOf]; omega
        · obtain rfl : i = perN c := by omega
          have al : (allQ c p).take (perN c) = allQ c p := List.take_of_length_le (by rw [allQ_length]; exact Nat.le_refl _)
          have O1 : Hid (OwI W (w.heap.size + 1) (.slice B (perN c) cp) (perN c) (NI (allQ c p))) := by rw [al] at O1; exact O1
          clear al
          have x0 : W.cell? ⟨w.heap.size, 0, none⟩ = some (.int .i64 (p : Int)) := B1.out.c0
          have d2 := cellP_on K1.out C2.out
          have RW2 := Lib.hid (show Rf.Rs W A k es from by rw [← HL.out]; exact HR.out.rs.old K1.out)
          have R1 := Lib.hid (RW2.out.take (i := j) hj)
          have hjI : (j : Int) ≤ (k : Int) := by omega
          have kc : k ≤ cap := by have := HR.out.cp; rw [HL.out] at this; exact this
          have hjc : j ≤ cap := by omega
          have SH := HR.out.sh
          have fy := Lib.hid (show Rf.in64 (⟨(p : Int), B, perN c, cp⟩ : Rf.R).a from ⟨by show _ ≤ (p : Int); omega, by show (p : Int) ≤ _; omega⟩)
          have bY := Lib.hid (show Rf.Bx ((W.alloc (.cells #[] 71)).alloc (.cells #[.int .i64 (p : Int), .slice B (perN c) cp] 71)) (W.heap.size + 1) ⟨(p : Int), B, perN c, cp⟩ from by have h := Rf.Bx.new (W.alloc (.cells #[] 71)) ⟨(p : Int), B, perN c, cp⟩; rw [show (W.alloc (.cells #[] 71)).heap.size = W.heap.size + 1 by simp] at h; exact h)
          have eY := Lib.hid (show Blk ((W.alloc (.cells #[.int .i64 (p : Int), .slice B (perN c) cp] 71)).alloc (.cells #[] 71)) (W.heap.size + 1) 71 [] from by simpa using Blk.new (W.alloc (.cells #[.int .i64 (p : Int), .slice B (perN c) cp] 71)) 71 [])
          have fz := Lib.hid (fun w' (k : Kept Old W w') => (HR.out.box.kept (K1.out.trans k) (fun x => x)).frozen 2)
          have E := Lib.hid (show ∀ A' c' w', Hid (Rf.Ow w' W.heap.size (.slice A' (j + 1 + (k - j)) c') (j + 1 + (k - j)) (es.take j ++ [⟨(p : Int), B, perN c, cp⟩] ++ es.drop j)) → Hid (Kept Old W w') → RAddPost w q c P L p G (.returned (.int .i64 0)) (w'.setCell ⟨q, 2, none⟩ (.slice A' (j + 1 + (k - j)) c')) from fun A' c' w' o kk => by
            have ll : (insQ c L j p).length = j + 1 + (k - j) := by unfold insQ; rw [List.length_append, List.length_take, List.length_cons, List.length_drop, HL.out]; omega
            have KQ : Kept (Only q) w (w'.setCell ⟨q, 2, none⟩ (.slice A' (j + 1 + (k - j)) c')) := ((K1.out.trans kk.out).any).trans (only_setCell _ _ _ _)
            have KV : Kept (Only q) W (w'.setCell ⟨q, 2, none⟩ (.slice A' (j + 1 + (k - j)) c')) := (kk.out.any).trans (only_setCell _ _ _ _)
            obtain ⟨s1, s2, s3, s4⟩ := o.out.at
            obtain ⟨o1, o2, o3, o4⟩ := O1.out.at
            have zW := K1.out.size
            have zV := kk.out.size
            refine P1.out j _ HJ.out (HR.out.next KQ (L' := insQ c L j p) (A' := A') (cap' := c') (es' := es.take j ++ [⟨(p : Int), B, perN c, cp⟩] ++ es.drop j) ?_ ?_ s1 (by rw [ll]; exact s2) ?_ ?_ ?_)
            · rw [ll]; exact HR.out.box2 (K1.out.trans kk.out) _
            · rw [ll]; exact s3.kept (only_setCell _ _ _ _) (fun ad e z => by have := (s4 ad e).1; have z : ad.block = q := z; omega)
            · have e1 := HR.out.ents KQ
              have e2 : insQ c L j p = L.take j ++ [⟨p, allQ c p⟩] ++ L.drop j := by unfold insQ; rw [List.append_assoc, List.singleton_append]
              rw [e2]
              refine ((e1.take j).app (Ents.one ⟨rfl, ?_, ?_, o1, o2⟩)).app (e1.drop j)
              · show perN c = (allQ c p).length; rw [allQ_length]
              · exact o3.kept KV (fun ad e z => by have := (o4 ad e).1; have z : ad.block = q := z; omega)
            · intro ad e
              have := s4 ad e
              rw [size_setP]
              exact ⟨by omega, this.2⟩
            · intro e he
              rcases List.mem_append.1 he with he | he
              · rcases List.mem_append.1 he with he | he
                · exact .inl (List.mem_of_mem_take he)
                · obtain rfl := List.mem_singleton.1 he
                  refine .inr fun ad e => ?_
                  have := o4 ad e
                  rw [size_setP]
                  omega
              · exact .inl (List.mem_of_mem_drop he))
          have hX2 : w.heap.size < W.heap.size := lX
          clear HG P0 P1 C0 HJ RW e1 O1
          go_wp2_with fail
          refine (RP.out _).mono ?_
          rintro e w' ⟨rfl, rfl⟩
          go_wp2_with fail
          clear RP c0
          rcases SH with ⟨rfl, rfl⟩ | ⟨g, o, rfl⟩
          · obtain rfl : k = 0 := by omega
            obtain rfl : j = 0 := by omega
            have R2 := Lib.hid (show Rf.Rs W none 0 (es.drop 0) from by simpa using RW2.out)
            refine wp_region_last 21 (fun w' => w'.cell? ⟨q, 2, none⟩ = some (.slice none 0 0) ∧ w'.cell? ⟨w.heap.size, 0, none⟩ = some (.int .i64 (p : Int)) ∧ w'.cell? ⟨w.heap.size, 1, none⟩ = some (.slice B (perN c) cp)) (by kernel_rfl) rfl (by decide +kernel) ⟨d2, x0, x1⟩ (fun hHeld => ?_)
            simp only [List.pop_toArray, List.dropLast_cons_cons, List.dropLast_singleton]
            refine wpAnyH_take (i := 0) (v := ptr q) rfl (by kernel_rfl) (by decide +kernel) (by decide +kernel) (fun _ _ _ h => h) (Or.inl ⟨by rfl, fun w' hSw => ?_⟩) hHeld ?_
            · (go_simp)
            simp only [Act.put, List.getElem_toArray, List.getElem_cons_zero, List.setIfInBounds_toArray, List.set_cons_zero, List.set_cons_succ]
            refine wpAnyH_take (i := 2) (v := ptr q) rfl (by kernel_rfl) (by decide +kernel) (by decide +kernel) (fun _ _ _ h => h) (Or.inl ⟨by rfl, fun w' hSw => ?_⟩) hHeld ?_
            · (go_simp)
            simp only [Act.put, List.getElem_toArray, List.getElem_cons_succ, List.getElem_cons_zero, List.setIfInBounds_toArray, List.set_cons_zero, List.set_cons_succ]
            refine wpAnyH_take (i := 3) (v := ptr q) rfl (by kernel_rfl) (by decide +kernel) (by decide +kernel) (fun _ _ _ h => h) (Or.inl ⟨by rfl, fun w' hSw => ?_⟩) hHeld ?_
            · (go_simp)
            simp only [Act.put, List.getElem_toArray, List.getElem_cons_succ, List.getElem_cons_zero, List.setIfInBounds_toArray, List.set_cons_zero, List.set_cons_succ]
            refine wpAnyH_take (i := 4) (v := .pointer (some ⟨q, 2, none⟩)) rfl (by kernel_rfl) (by decide +kernel) (by decide +kernel) (fun _ _ _ h => h) (Or.inl ⟨by rfl, fun w' hSw => ?_⟩) hHeld ?_
            · (go_simp)
            simp only [Act.put, List.getElem_toArray, List.getElem_cons_succ, List.getElem_cons_zero, List.setIfInBounds_toArray, List.set_cons_zero, List.set_cons_succ]
            refine wpAnyH_take (i := 5) (v := .slice none 0 0) rfl (by kernel_rfl) (by decide +kernel) (by decide +kernel) (fun _ _ _ h => h) (Or.inl ⟨by rfl, fun w' hSw => ?_⟩) hHeld ?_
            · (go_simp)
            simp only [Act.put, List.getElem_toArray, List.getElem_cons_succ, List.getElem_cons_zero, List.setIfInBounds_toArray, List.set_cons_zero, List.set_cons_succ]
            refine wpAnyH_take (i := 6) (v := .int .i64 (0 : Int)) rfl (by kernel_rfl) (by decide +kernel) (by decide +kernel) (fun _ _ _ h => h) (Or.inl ⟨by rfl, fun w' hSw => ?_⟩) hHeld ?_
            · (go_simp)
            simp only [Act.put, List.getElem_toArray, List.getElem_cons_succ, List.getElem_cons_zero, List.setIfInBounds_toArray, List.set_cons_zero, List.set_cons_succ]
            refine wpAnyH_take (i := 7) (v := .slice none 0 0) rfl (by kernel_rfl) (by decide +kernel) (by decide +kernel) (fun _ _ _ h => h) (Or.inl ⟨by rfl, fun w' hSw => ?_⟩) hHeld ?_
            · (go_simp)
            simp only [Act.put, List.getElem_toArray, List.getElem_cons_succ, List.getElem_cons_zero, List.setIfInBounds_toArray, List.set_cons_zero, List.set_cons_succ]
            refine wpAnyH_take (i := 9) (v := .agg #[.int .i64 (p : Int), .slice B (perN c) cp]) rfl (by kernel_rfl) (by decide +kernel) (by decide +kernel) (fun _ _ _ h => h) (Or.inl ⟨by rfl, fun w' hSw => ?_⟩) hHeld ?_
            · (go_simp)
            simp only [Act.put, List.getElem_toArray, List.getElem_cons_succ, List.getElem_cons_zero, List.setIfInBounds_toArray, List.set_cons_zero, List.set_cons_succ]
            refine wpAnyH_take (i := 12) (v := ptr q) rfl (by kernel_rfl) (by decide +kernel) (by decide +kernel) (fun _ _ _ h => h) (Or.inl ⟨by rfl, fun w' hSw => ?_⟩) hHeld ?_
            · (go_simp)
            simp only [Act.put, List.getElem_toArray, List.getElem_cons_succ, List.getElem_cons_zero, List.setIfInBounds_toArray, List.set_cons_zero, List.set_cons_succ]
            refine wpAnyH_take (i := 13) (v := ptr q) rfl (by kernel_rfl) (by decide +kernel) (by decide +kernel) (fun _ _ _ h => h) (Or.inl ⟨by rfl, fun w' hSw => ?_⟩) hHeld ?_
            · (go_simp)
            simp only [Act.put, List.getElem_toArray, List.getElem_cons_succ, List.getElem_cons_zero, List.setIfInBounds_toArray, List.set_cons_zero, List.set_cons_succ]
            refine wpAnyH_take (i := 14) (v := .pointer (some ⟨q, 2, none⟩)) rfl (by kernel_rfl) (by decide +kernel) (by decide +kernel) (fun _ _ _ h => h) (Or.inl ⟨by rfl, fun w' hSw => ?_⟩) hHeld ?_
            · (go_simp)
            simp only [Act.put, List.getElem_toArray, List.getElem_cons_succ, List.getElem_cons_zero, List.setIfInBounds_toArray, List.set_cons_zero, List.set_cons_succ]
            refine wpAnyH_take (i := 15) (v := .slice none 0 0) rfl (by kernel_rfl) (by decide +kernel) (by decide +kernel) (fun _ _ _ h => h) (Or.inl ⟨by rfl, fun w' hSw => ?_⟩) hHeld ?_
            · (go_simp)
            simp only [Act.put, List.getElem_toArray, List.getElem_cons_succ, List.getElem_cons_zero, List.setIfInBounds_toArray, List.set_cons_zero, List.set_cons_succ]
            refine wpAnyH_take (i := 16) (v := .int .i64 (0 : Int)) rfl (by kernel_rfl) (by decide +kernel) (by decide +kernel) (fun _ _ _ h => h) (Or.inl ⟨by rfl, fun w' hSw => ?_⟩) hHeld ?_
            · (go_simp)
            simp only [Act.put, List.getElem_toArray, List.getElem_cons_succ, List.getElem_cons_zero, List.setIfInBounds_toArray, List.set_cons_zero, List.set_cons_succ]
            refine wpAnyH_take (i := 17) (v := .slice none 0 0) rfl (by kernel_rfl) (by decide +kernel) (by decide +kernel) (fun _ _ _ h => h) (Or.inl ⟨by rfl, fun w' hSw => ?_⟩) hHeld ?_
            · (go_simp)
            simp only [Act.put, List.getElem_toArray, List.getElem_cons_succ, List.getElem_cons_zero, List.setIfInBounds_toArray, List.set_cons_zero, List.set_cons_succ]
            refine wpAnyH_ready (rs := [1, 10]) (by decide +kernel) (by simp) (AllReadyH.cons rfl (fun K hK => ?_) (AllReadyH.cons rfl (fun K hK => ?_) AllReadyH.nil))
            rotate_left 1
            simp only [List.getElem_toArray, List.getElem_cons_succ, List.getElem_cons_zero]
            rw [if_pos (by rfl)]
            go_simp
            refine hK.out _ _ ⟨cellP_on ((Kept.refl Old W).alloc _).drew d2, cellP_on ((Kept.refl Old W).alloc _).drew x0, cellP_on ((Kept.refl Old W).alloc _).drew x1⟩ (fun hHeld => ?_)
            clear hK K
            refine wpAnyH_ready (rs := [1]) (by decide +kernel) (by simp) (AllReadyH.cons rfl (fun K hK => ?_) AllReadyH.nil)
            simp only [List.getElem_toArray, List.getElem_cons_succ, List.getElem_cons_zero]
            rw [if_pos (by rfl)]
            go_simp
            refine hK.out _ _ ⟨cellP_on (((Kept.refl Old W).alloc _).alloc _).drew d2, cellP_on (((Kept.refl Old W).alloc _).alloc _).drew x0, cellP_on (((Kept.refl Old W).alloc _).alloc _).drew x1⟩ (fun hHeld => ?_)
            clear hK K
            refine wpAnyH_ready (rs := [8]) (by decide +kernel) (by simp) (AllReadyH.cons rfl (fun K hK => ?_) AllReadyH.nil)
            refine Rf.em_step (W := W) rfl (.tmp 86) (.tmp 92) rfl rfl none 0 0 (es.take 0) (by first | rfl | simp [Act.eval]) R1.out (fun _ => ⟨rfl, rfl⟩) (by omega) (by first | exact ((Kept.refl Old W).alloc _).drew | exact (((Kept.refl Old W).alloc _).alloc _).drew) (by first | exact ⟨W.heap.size, rfl, Blk.new W _ [], Nat.le_refl _⟩ | exact ⟨W.heap.size, rfl, Blk.alloc (Blk.new W _ []) _, Nat.le_refl _⟩ | exact ⟨W.heap.size + 1, rfl, eY.out, Nat.le_succ _⟩) ?_
            intro v1 w1 O2 K2 pr
            refine hK.out _ _ ⟨cellP_on K2.out d2, cellP_on K2.out x0, cellP_on K2.out x1⟩ (fun hHeld => ?_)
            clear hK K
            rotate_left 1
            simp only [List.getElem_toArray, List.getElem_cons_succ, List.getElem_cons_zero]
            rw [if_pos (by rfl)]
            go_simp
            refine hK.out _ _ ⟨cellP_on ((Kept.refl Old W).alloc _).drew d2, cellP_on ((Kept.refl Old W).alloc _).drew x0, cellP_on ((Kept.refl Old W).alloc _).drew x1⟩ (fun hHeld => ?_)
            clear hK K
            refine wpAnyH_ready (rs := [8, 10]) (by decide +kernel) (by simp) (AllReadyH.cons rfl (fun K hK => ?_) (AllReadyH.cons rfl (fun K hK => ?_) AllReadyH.nil))
            rotate_left 1
            simp only [List.getElem_toArray, List.getElem_cons_succ, List.getElem_cons_zero]
            rw [if_pos (by rfl)]
            go_simp
            refine hK.out _ _ ⟨cellP_on (((Kept.refl Old W).alloc _).alloc _).drew d2, cellP_on (((Kept.refl Old W).alloc _).alloc _).drew x0, cellP_on (((Kept.refl Old W).alloc _).alloc _).drew x1⟩ (fun hHeld => ?_)
            clear hK K
            refine wpAnyH_ready (rs := [8]) (by decide +kernel) (by simp) (AllReadyH.cons rfl (fun K hK => ?_) AllReadyH.nil)
            refine Rf.em_step (W := W) rfl (.tmp 86) (.tmp 92) rfl rfl none 0 0 (es.take 0) (by first | rfl | simp [Act.eval]) R1.out (fun _ => ⟨rfl, rfl⟩) (by omega) (by first | exact ((Kept.refl Old W).alloc _).drew | exact (((Kept.refl Old W).alloc _).alloc _).drew) (by first | exact ⟨W.heap.size, rfl, Blk.new W _ [], Nat.le_refl _⟩ | exact ⟨W.heap.size, rfl, Blk.alloc (Blk.new W _ []) _, Nat.le_refl _⟩ | exact ⟨W.heap.size + 1, rfl, eY.out, Nat.le_succ _⟩) ?_
            intro v1 w1 O2 K2 pr
            refine hK.out _ _ ⟨cellP_on K2.out d2, cellP_on K2.out x0, cellP_on K2.out x1⟩ (fun hHeld => ?_)
            clear hK K
            rotate_left 2
            refine Rf.em_step (W := W) rfl (.tmp 86) (.tmp 92) rfl rfl none 0 0 (es.take 0) (by first | rfl | simp [Act.eval]) R1.out (fun _ => ⟨rfl, rfl⟩) (by omega) (by first | exact ((Kept.refl Old W).alloc _).drew | exact (((Kept.refl Old W).alloc _).alloc _).drew) (by first | exact ⟨W.heap.size, rfl, Blk.new W _ [], Nat.le_refl _⟩ | exact ⟨W.heap.size, rfl, Blk.alloc (Blk.new W _ []) _, Nat.le_refl _⟩ | exact ⟨W.heap.size + 1, rfl, eY.out, Nat.le_succ _⟩) ?_
            intro v1 w1 O2 K2 pr
            refine hK.out _ _ ⟨cellP_on K2.out d2, cellP_on K2.out x0, cellP_on K2.out x1⟩ (fun hHeld => ?_)
            clear hK K
            refine wpAnyH_ready (rs := [10]) (by decide +kernel) (by simp) (AllReadyH.cons rfl (fun K hK => ?_) AllReadyH.nil)
            simp only [List.getElem_toArray, List.getElem_cons_succ, List.getElem_cons_zero]
            rw [if_pos (by rfl)]
            go_simp
            refine hK.out _ _ ⟨cellP_on (K2.out.alloc _) d2, cellP_on (K2.out.alloc _) x0, cellP_on (K2.out.alloc _) x1⟩ (fun hHeld => ?_)
            clear hK K
            all_goals
              refine wpAnyH_ready (rs := [11]) (by decide +kernel) (by simp) (AllReadyH.cons rfl (fun K hK => ?_) AllReadyH.nil)
              refine Rf.one_step (W := W) rfl (.tmp 93) (.tmp 95) rfl rfl v1 0 (es.take 0) (by first | rfl | simp [Act.eval]) ⟨(p : Int), B, perN c, cp⟩ fy.out (by omega) (by first | exact O2.out | exact O2.out.alloc _) (by first | exact K2.out | exact K2.out.alloc _) (by first | exact ⟨w1.heap.size, rfl, Rf.Bx.new w1 ⟨(p : Int), B, perN c, cp⟩⟩ | exact ⟨W.heap.size + 1, rfl, pr.out _ _ bY.out⟩ | exact ⟨W.heap.size, rfl, pr.out _ _ (Rf.Bx.alloc (Rf.Bx.new W ⟨(p : Int), B, perN c, cp⟩) _)⟩) ?_
              intro v2 w2 O3 K3
              refine hK.out _ _ ⟨cellP_on K3.out d2, cellP_on K3.out x0, cellP_on K3.out x1⟩ (fun hHeld => ?_)
              clear hK K
              refine wpAnyH_ready (rs := [18]) (by decide +kernel) (by simp) (AllReadyH.cons rfl (fun K hK => ?_) AllReadyH.nil)
              refine Rf.cut_step (W := W) rfl (.tmp 96) (.tmp 102) rfl rfl v2 (0 + 1) (es.take 0 ++ [⟨(p : Int), B, perN c, cp⟩]) (by first | rfl | simp [Act.eval]) none (0) (0) (es.drop 0) (by first | rfl | simp [Act.eval]) R2.out (fun _ => ⟨rfl, rfl⟩) (by omega) (by omega) O3.out K3.out ?_
              intro A3 c3 w3 O4 K4
              have e4 := cellP_on K4.out d2
              have f4 := fz.out w3 K4.out
              refine hK.out _ _ ⟨cellP_on K4.out d2, cellP_on K4.out x0, cellP_on K4.out x1⟩ (fun hHeld => ?_)
              clear hK K
              refine wpAnyH_take (i := 19) (v := ptr q) rfl (by kernel_rfl) (by decide +kernel) (by decide +kernel) (fun _ _ _ h => h) (Or.inl ⟨by rfl, fun w' hSw => ?_⟩) hHeld ?_
              · (go_simp)
              simp only [Act.put, List.getElem_toArray, List.getElem_cons_succ, List.getElem_cons_zero, List.setIfInBounds_toArray, List.set_cons_zero, List.set_cons_succ]
              refine wpAnyH_take (i := 20) (v := .pointer (some ⟨q, 2, none⟩)) rfl (by kernel_rfl) (by decide +kernel) (by decide +kernel) (fun _ _ _ h => h) (Or.inl ⟨by rfl, fun w' hSw => ?_⟩) hHeld ?_
              · (go_simp)
              simp only [Act.put, List.getElem_toArray, List.getElem_cons_succ, List.getElem_cons_zero, List.setIfInBounds_toArray, List.set_cons_zero, List.set_cons_succ]
              refine wpAnyH_done (by decide +kernel) ?_ _
              unfold LastQ
              refine wpOp_step rfl (fun K hK => ?_)
              simp only [List.getElem_toArray, List.getElem_cons_succ, List.getElem_cons_zero]
              rw [if_pos (by rfl)]
              go_simp
              refine hK _ _ ?_
              clear hK K
              have E5 := Lib.hid (E.out A3 c3 w3 O4 K4)
              clear hHeld e4 f4 O4 K4 O3 K3 E
              go_wp2_with fail
              go_ret
              exact E5.out
          · obtain ⟨A', hA', R2⟩ : ∃ A' : Option Addr, (if cap = j then some (⟨g, o, none⟩ : Addr) else some ⟨g, o + j * 2, none⟩) = A' ∧ Hid (Rf.Rs W A' (k - j) (es.drop j)) := ⟨_, rfl, Lib.hid (RW2.out.tail _ fun g' o' e h => by injection e with e; injection e with e1 e2; subst e1; subst e2; exact if_neg (by omega))⟩
            have hA'' : A' ≠ none := by rw [← hA']; split <;> simp
            refine wp_region_last 21 (fun w' => w'.cell? ⟨q, 2, none⟩ = some (.slice (some ⟨g, o, none⟩) k cap) ∧ w'.cell? ⟨w.heap.size, 0, none⟩ = some (.int .i64 (p : Int)) ∧ w'.cell? ⟨w.heap.size, 1, none⟩ = some (.slice B (perN c) cp)) (by kernel_rfl) rfl (by decide +kernel) ⟨d2, x0, x1⟩ (fun hHeld => ?_)
            simp only [List.pop_toArray, List.dropLast_cons_cons, List.dropLast_singleton]
            refine wpAnyH_take (i := 0) (v := ptr q) rfl (by kernel_rfl) (by decide +kernel) (by decide +kernel) (fun _ _ _ h => h) (Or.inl ⟨by rfl, fun w' hSw => ?_⟩) hHeld ?_
            · (go_simp)
            simp only [Act.put, List.getElem_toArray, List.getElem_cons_zero, List.setIfInBounds_toArray, List.set_cons_zero, List.set_cons_succ]
            refine wpAnyH_take (i := 2) (v := ptr q) rfl (by kernel_rfl) (by decide +kernel) (by decide +kernel) (fun _ _ _ h => h) (Or.inl ⟨by rfl, fun w' hSw => ?_⟩) hHeld ?_
            · (go_simp)
            simp only [Act.put, List.getElem_toArray, List.getElem_cons_succ, List.getElem_cons_zero, List.setIfInBounds_toArray, List.set_cons_zero, List.set_cons_succ]
            refine wpAnyH_take (i := 3) (v := ptr q) rfl (by kernel_rfl) (by decide +kernel) (by decide +kernel) (fun _ _ _ h => h) (Or.inl ⟨by rfl, fun w' hSw => ?_⟩) hHeld ?_
            · (go_simp)
            simp only [Act.put, List.getElem_toArray, List.getElem_cons_succ, List.getElem_cons_zero, List.setIfInBounds_toArray, List.set_cons_zero, List.set_cons_succ]
            refine wpAnyH_take (i := 4) (v := .pointer (some ⟨q, 2, none⟩)) rfl (by kernel_rfl) (by decide +kernel) (by decide +kernel) (fun _ _ _ h => h) (Or.inl ⟨by rfl, fun w' hSw => ?_⟩) hHeld ?_
            · (go_simp)
            simp only [Act.put, List.getElem_toArray, List.getElem_cons_succ, List.getElem_cons_zero, List.setIfInBounds_toArray, List.set_cons_zero, List.set_cons_succ]
            refine wpAnyH_take (i := 5) (v := .slice (some ⟨g, o, none⟩) k cap) rfl (by kernel_rfl) (by decide +kernel) (by decide +kernel) (fun _ _ _ h => h) (Or.inl ⟨by rfl, fun w' hSw => ?_⟩) hHeld ?_
            · (go_simp)
            simp only [Act.put, List.getElem_toArray, List.getElem_cons_succ, List.getElem_cons_zero, List.setIfInBounds_toArray, List.set_cons_zero, List.set_cons_succ]
            refine wpAnyH_take (i := 6) (v := .int .i64 (j : Int)) rfl (by kernel_rfl) (by decide +kernel) (by decide +kernel) (fun _ _ _ h => h) (Or.inl ⟨by rfl, fun w' hSw => ?_⟩) hHeld ?_
            · (go_simp)
            simp only [Act.put, List.getElem_toArray, List.getElem_cons_succ, List.getElem_cons_zero, List.setIfInBounds_toArray, List.set_cons_zero, List.set_cons_succ]
            refine wpAnyH_take (i := 7) (v := .slice (some ⟨g, o, none⟩) j cap) rfl (by kernel_rfl) (by decide +kernel) (by decide +kernel) (fun _ _ _ h => h) (Or.inl ⟨by rfl, fun w' hSw => ?_⟩) hHeld ?_
            · (go_simp)
            simp only [Act.put, List.getElem_toArray, List.getElem_cons_succ, List.getElem_cons_zero, List.setIfInBounds_toArray, List.set_cons_zero, List.set_cons_succ]
            refine wpAnyH_take (i := 9) (v := .agg #[.int .i64 (p : Int), .slice B (perN c) cp]) rfl (by kernel_rfl) (by decide +kernel) (by decide +kernel) (fun _ _ _ h => h) (Or.inl ⟨by rfl, fun w' hSw => ?_⟩) hHeld ?_
            · (go_simp)
            simp only [Act.put, List.getElem_toArray, List.getElem_cons_succ, List.getElem_cons_zero, List.setIfInBounds_toArray, List.set_cons_zero, List.set_cons_succ]
            refine wpAnyH_take (i := 12) (v := ptr q) rfl (by kernel_rfl) (by decide +kernel) (by decide +kernel) (fun _ _ _ h => h) (Or.inl ⟨by rfl, fun w' hSw => ?_⟩) hHeld ?_
            · (go_simp)
            simp only [Act.put, List.getElem_toArray, List.getElem_cons_succ, List.getElem_cons_zero, List.setIfInBounds_toArray, List.set_cons_zero, List.set_cons_succ]
            refine wpAnyH_take (i := 13) (v := ptr q) rfl (by kernel_rfl) (by decide +kernel) (by decide +kernel) (fun _ _ _ h => h) (Or.inl ⟨by rfl, fun w' hSw => ?_⟩) hHeld ?_
            · (go_simp)
            simp only [Act.put, List.getElem_toArray, List.getElem_cons_succ, List.getElem_cons_zero, List.setIfInBounds_toArray, List.set_cons_zero, List.set_cons_succ]
            refine wpAnyH_take (i := 14) (v := .pointer (some ⟨q, 2, none⟩)) rfl (by kernel_rfl) (by decide +kernel) (by decide +kernel) (fun _ _ _ h => h) (Or.inl ⟨by rfl, fun w' hSw => ?_⟩) hHeld ?_
            · (go_simp)
            simp only [Act.put, List.getElem_toArray, List.getElem_cons_succ, List.getElem_cons_zero, List.setIfInBounds_toArray, List.set_cons_zero, List.set_cons_succ]
            refine wpAnyH_take (i := 15) (v := .slice (some ⟨g, o, none⟩) k cap) rfl (by kernel_rfl) (by decide +kernel) (by decide +kernel) (fun _ _ _ h => h) (Or.inl ⟨by rfl, fun w' hSw => ?_⟩) hHeld ?_
            · (go_simp)
            simp only [Act.put, List.getElem_toArray, List.getElem_cons_succ, List.getElem_cons_zero, List.setIfInBounds_toArray, List.set_cons_zero, List.set_cons_succ]
            refine wpAnyH_take (i := 16) (v := .int .i64 (j : Int)) rfl (by kernel_rfl) (by decide +kernel) (by decide +kernel) (fun _ _ _ h => h) (Or.inl ⟨by rfl, fun w' hSw => ?_⟩) hHeld ?_
            · (go_simp)
            simp only [Act.put, List.getElem_toArray, List.getElem_cons_succ, List.getElem_cons_zero, List.setIfInBounds_toArray, List.set_cons_zero, List.set_cons_succ]
            refine wpAnyH_take (i := 17) (v := .slice A' (k - j) (cap - j)) rfl (by kernel_rfl) (by decide +kernel) (by decide +kernel) (fun _ _ _ h => h) (Or.inl ⟨by rfl, fun w' hSw => ?_⟩) hHeld ?_
            · (go_simp)
            simp only [Act.put, List.getElem_toArray, List.getElem_cons_succ, List.getElem_cons_zero, List.setIfInBounds_toArray, List.set_cons_zero, List.set_cons_succ]
            refine wpAnyH_ready (rs := [1, 10]) (by decide +kernel) (by simp) (AllReadyH.cons rfl (fun K hK => ?_) (AllReadyH.cons rfl (fun K hK => ?_) AllReadyH.nil))
            rotate_left 1
            simp only [List.getElem_toArray, List.getElem_cons_succ, List.getElem_cons_zero]
            rw [if_pos (by rfl)]
            go_simp
            refine hK.out _ _ ⟨cellP_on ((Kept.refl Old W).alloc _).drew d2, cellP_on ((Kept.refl Old W).alloc _).drew x0, cellP_on ((Kept.refl Old W).alloc _).drew x1⟩ (fun hHeld => ?_)
            clear hK K
            refine wpAnyH_ready (rs := [1]) (by decide +kernel) (by simp) (AllReadyH.cons rfl (fun K hK => ?_) AllReadyH.nil)
            simp only [List.getElem_toArray, List.getElem_cons_succ, List.getElem_cons_zero]
            rw [if_pos (by rfl)]
            go_simp
            refine hK.out _ _ ⟨cellP_on (((Kept.refl Old W).alloc _).alloc _).drew d2, cellP_on (((Kept.refl Old W).alloc _).alloc _).drew x0, cellP_on (((Kept.refl Old W).alloc _).alloc _).drew x1⟩ (fun hHeld => ?_)
            clear hK K
            refine wpAnyH_ready (rs := [8]) (by decide +kernel) (by simp) (AllReadyH.cons rfl (fun K hK => ?_) AllReadyH.nil)
            refine Rf.em_step (W := W) rfl (.tmp 86) (.tmp 92) rfl rfl (some ⟨g, o, none⟩) j cap (es.take j) (by first | rfl | simp [Act.eval]) R1.out (fun h => by cases h) (by omega) (by first | exact ((Kept.refl Old W).alloc _).drew | exact (((Kept.refl Old W).alloc _).alloc _).drew) (by first | exact ⟨W.heap.size, rfl, Blk.new W _ [], Nat.le_refl _⟩ | exact ⟨W.heap.size, rfl, Blk.alloc (Blk.new W _ []) _, Nat.le_refl _⟩ | exact ⟨W.heap.size + 1, rfl, eY.out, Nat.le_succ _⟩) ?_
            intro v1 w1 O2 K2 pr
            refine hK.out _ _ ⟨cellP_on K2.out d2, cellP_on K2.out x0, cellP_on K2.out x1⟩ (fun hHeld => ?_)
            clear hK K
            rotate_left 1
            simp only [List.getElem_toArray, List.getElem_cons_succ, List.getElem_cons_zero]
            rw [if_pos (by rfl)]
            go_simp
            refine hK.out _ _ ⟨cellP_on ((Kept.refl Old W).alloc _).drew d2, cellP_on ((Kept.refl Old W).alloc _).drew x0, cellP_on ((Kept.refl Old W).alloc _).drew x1⟩ (fun hHeld => ?_)
            clear hK K
            refine wpAnyH_ready (rs := [8, 10]) (by decide +kernel) (by simp) (AllReadyH.cons rfl (fun K hK => ?_) (AllReadyH.cons rfl (fun K hK => ?_) AllReadyH.nil))
            rotate_left 1
            simp only [List.getElem_toArray, List.getElem_cons_succ, List.getElem_cons_zero]
            rw [if_pos (by rfl)]
            go_simp
            refine hK.out _ _ ⟨cellP_on (((Kept.refl Old W).alloc _).alloc _).drew d2, cellP_on (((Kept.refl Old W).alloc _).alloc _).drew x0, cellP_on (((Kept.refl Old W).alloc _).alloc _).drew x1⟩ (fun hHeld => ?_)
            clear hK K
            refine wpAnyH_ready (rs := [8]) (by decide +kernel) (by simp) (AllReadyH.cons rfl (fun K hK => ?_) AllReadyH.nil)
            refine Rf.em_step (W := W) rfl (.tmp 86) (.tmp 92) rfl rfl (some ⟨g, o, none⟩) j cap (es.take j) (by first | rfl | simp [Act.eval]) R1.out (fun h => by cases h) (by omega) (by first | exact ((Kept.refl Old W).alloc _).drew | exact (((Kept.refl Old W).alloc _).alloc _).drew) (by first | exact ⟨W.heap.size, rfl, Blk.new W _ [], Nat.le_refl _⟩ | exact ⟨W.heap.size, rfl, Blk.alloc (Blk.new W _ []) _, Nat.le_refl _⟩ | exact ⟨W.heap.size + 1, rfl, eY.out, Nat.le_succ _⟩) ?_
            intro v1 w1 O2 K2 pr
            refine hK.out _ _ ⟨cellP_on K2.out d2, cellP_on K2.out x0, cellP_on K2.out x1⟩ (fun hHeld => ?_)
            clear hK K
            rotate_left 2
            refine Rf.em_step (W := W) rfl (.tmp 86) (.tmp 92) rfl rfl (some ⟨g, o, none⟩) j cap (es.take j) (by first | rfl | simp [Act.eval]) R1.out (fun h => by cases h) (by omega) (by first | exact ((Kept.refl Old W).alloc _).drew | exact (((Kept.refl Old W).alloc _).alloc _).drew) (by first | exact ⟨W.heap.size, rfl, Blk.new W _ [], Nat.le_refl _⟩ | exact ⟨W.heap.size, rfl, Blk.alloc (Blk.new W _ []) _, Nat.le_refl _⟩ | exact ⟨W.heap.size + 1, rfl, eY.out, Nat.le_succ _⟩) ?_
            intro v1 w1 O2 K2 pr
            refine hK.out _ _ ⟨cellP_on K2.out d2, cellP_on K2.out x0, cellP_on K2.out x1⟩ (fun hHeld => ?_)
            clear hK K
            refine wpAnyH_ready (rs := [10]) (by decide +kernel) (by simp) (AllReadyH.cons rfl (fun K hK => ?_) AllReadyH.nil)
            simp only [List.getElem_toArray, List.getElem_cons_succ, List.getElem_cons_zero]
            rw [if_pos (by rfl)]
            go_simp
            refine hK.out _ _ ⟨cellP_on (K2.out.alloc _) d2, cellP_on (K2.out.alloc _) x0, cellP_on (K2.out.alloc _) x1⟩ (fun hHeld => ?_)
            clear hK K
            all_goals
              refine wpAnyH_ready (rs := [11]) (by decide +kernel) (by simp) (AllReadyH.cons rfl (fun K hK => ?_) AllReadyH.nil)
              refine Rf.one_step (W := W) rfl (.tmp 93) (.tmp 95) rfl rfl v1 j (es.take j) (by first | rfl | simp [Act.eval]) ⟨(p : Int), B, perN c, cp⟩ fy.out (by omega) (by first | exact O2.out | exact O2.out.alloc _) (by first | exact K2.out | exact K2.out.alloc _) (by first | exact ⟨w1.heap.size, rfl, Rf.Bx.new w1 ⟨(p : Int), B, perN c, cp⟩⟩ | exact ⟨W.heap.size + 1, rfl, pr.out _ _ bY.out⟩ | exact ⟨W.heap.size, rfl, pr.out _ _ (Rf.Bx.alloc (Rf.Bx.new W ⟨(p : Int), B, perN c, cp⟩) _)⟩) ?_
              intro v2 w2 O3 K3
              refine hK.out _ _ ⟨cellP_on K3.out d2, cellP_on K3.out x0, cellP_on K3.out x1⟩ (fun hHeld => ?_)
              clear hK K
              refine wpAnyH_ready (rs := [18]) (by decide +kernel) (by simp) (AllReadyH.cons rfl (fun K hK => ?_) AllReadyH.nil)
              refine Rf.cut_step (W := W) rfl (.tmp 96) (.tmp 102) rfl rfl v2 (j + 1) (es.take j ++ [⟨(p : Int), B, perN c, cp⟩]) (by first | rfl | simp [Act.eval]) A' ((k - j)) ((cap - j)) (es.drop j) (by first | rfl | simp [Act.eval]) R2.out (fun h => absurd h hA'') (by omega) (by omega) O3.out K3.out ?_
              intro A3 c3 w3 O4 K4
              have e4 := cellP_on K4.out d2
              have f4 := fz.out w3 K4.out
              refine hK.out _ _ ⟨cellP_on K4.out d2, cellP_on K4.out x0, cellP_on K4.out x1⟩ (fun hHeld => ?_)
              clear hK K
              refine wpAnyH_take (i := 19) (v := ptr q) rfl (by kernel_rfl) (by decide +kernel) (by decide +kernel) (fun _ _ _ h => h) (Or.inl ⟨by rfl, fun w' hSw => ?_⟩) hHeld ?_
              · (go_simp)
              simp only [Act.put, List.getElem_toArray, List.getElem_cons_succ, List.getElem_cons_zero, List.setIfInBounds_toArray, List.set_cons_zero, List.set_cons_succ]
              refine wpAnyH_take (i := 20) (v := .pointer (some ⟨q, 2, none⟩)) rfl (by kernel_rfl) (by decide +kernel) (by decide +kernel) (fun _ _ _ h => h) (Or.inl ⟨by rfl, fun w' hSw => ?_⟩) hHeld ?_
              · (go_simp)
              simp only [Act.put, List.getElem_toArray, List.getElem_cons_succ, List.getElem_cons_zero, List.setIfInBounds_toArray, List.set_cons_zero, List.set_cons_succ]
              refine wpAnyH_done (by decide +kernel) ?_ _
              unfold LastQ
              refine wpOp_step rfl (fun K hK => ?_)
              simp only [List.getElem_toArray, List.getElem_cons_succ, List.getElem_cons_zero]
              rw [if_pos (by rfl)]
              go_simp
              refine hK _ _ ?_
              clear hK K
              have E5 := Lib.hid (E.out A3 c3 w3 O4 K4)
              clear hHeld e4 f4 O4 K4 O3 K3 E
              go_wp2_with fail
              go_ret
              exact E5.out
end Go.Proofs.Ytcaongcpfepcjaa.Prt
