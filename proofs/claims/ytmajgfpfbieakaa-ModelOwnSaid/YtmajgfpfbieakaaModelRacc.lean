/-
  What the document's own accept answers of a valid model and a deed. Own work; proved by a walk through the landed text.
-/
import Derived.Test.YtmajgfpfbieakaaRows
import Derived.Test.YtmajgfpfbieakaaSizeCalls
import Derived.Test.YtmajgfpfbieakaaModelRalloc
import Derived.Test.YtmajgfpfbieakaaModelRfree
import Derived.WalkKit
import Derived.ProofKit
import Derived.OpenShut
import Derived.Outline
import Derived.Deep.Light
import Derived.Deep.QuietTactic
import Derived.BigQuiet
import Derived.IntWalk
import Derived.StillTailTactics
import Derived.RegionTactic
import Derived.Deep.RegionLaw
import Derived.Deep.RegionHeld3
namespace Go.Proofs.Ytmajgfpfbieakaa.Lm
open Go.ChangeShapes Go.WideShapes Go.ChangeAt Go.RowKit
set_option maxRecDepth 100000

/-- What accept answers: the model behind the deed if it is accepted, else any list (the caller drops it). -/
def RaccPost (W : Int) (L : List S) (B : Bool) (w : World) (e : Ending) (w' : World) : Prop := ∃ W' L' v, e = .returned (.tuple #[.agg #[.int .i64 W', v], .bool B]) ∧ (B = true → W' = W ∧ L' = L) ∧ (∃ A n c, v = .slice A n c ∧ RsS w' A n L' ∧ n ≤ c ∧ (A = none → c = 0)) ∧ Kept Old w w'
theorem racc_ways (W : Int) (l : List S) (d : D) :
    (d.k = 1 ∧ d.c = 0 ∧ accB W l d = roomB W l d.n d.a ∧ (roomB W l d.n d.a = true → accL W l d = insL l (newS d.n d.a))) ∨
    (d.k = 1 ∧ d.c = 3 ∧ accB W l d = classB d.n ∧ accL W l d = l) ∨
    (d.k = 1 ∧ d.c = 1 ∧ accB W l d = (!classB d.n) ∧ accL W l d = l) ∨
    (d.k = 2 ∧ d.c = 0 ∧ accB W l d = hasB l d.a ∧ (hasB l d.a = true → accL W l d = delL l d.a)) ∨
    (d.k = 2 ∧ d.c = 2 ∧ accB W l d = (!hasB l d.a) ∧ accL W l d = l) ∨
    (d.k = 1 ∧ d.c ≠ 0 ∧ d.c ≠ 3 ∧ d.c ≠ 1 ∧ accB W l d = false ∧ accL W l d = l) ∨
    (d.k = 2 ∧ d.c ≠ 0 ∧ d.c ≠ 2 ∧ accB W l d = false ∧ accL W l d = l) ∨
    (d.k ≠ 1 ∧ d.k ≠ 2 ∧ accB W l d = false ∧ accL W l d = l) := by
  unfold accB accL
  by_cases k1 : d.k = 1
  · by_cases c0 : d.c = 0
    · exact .inl ⟨k1, c0, by simp [k1, c0], fun r => by simp [k1, c0, r]⟩
    · by_cases c3 : d.c = 3
      · exact .inr (.inl ⟨k1, c3, by simp [k1, c3], by simp [k1, c3]⟩)
      · by_cases c1 : d.c = 1
        · exact .inr (.inr (.inl ⟨k1, c1, by simp [k1, c1], by simp [k1, c1]⟩))
        · exact .inr (.inr (.inr (.inr (.inr (.inl ⟨k1, c0, c3, c1, by simp [k1, c0, c3, c1], by simp [k1, c0]⟩)))))
  · by_cases k2 : d.k = 2
    · by_cases c0 : d.c = 0
      · exact .inr (.inr (.inr (.inl ⟨k2, c0, by simp [k2, c0], fun r => by simp [k2, c0, r]⟩)))
      · by_cases c2 : d.c = 2
        · exact .inr (.inr (.inr (.inr (.inl ⟨k2, c2, by simp [k2, c2], by simp [k2, c2]⟩))))
        · exact .inr (.inr (.inr (.inr (.inr (.inr (.inl ⟨k2, c0, c2, by simp [k2, c0, c2], by simp [k2, c0]⟩))))))
    · exact .inr (.inr (.inr (.inr (.inr (.inr (.inr ⟨k1, k2, by simp [k1, k2], by simp [k1, k2]⟩))))))
theorem kept3 (w : World) (x y z : Obj) : Kept Old w (((w.alloc x).alloc y).alloc z) := (((Kept.refl Old w).alloc x).alloc y).alloc z
theorem Bm.put_end {w w' : World} {b : Nat} {W0 : Int} {u : Value} {A : Option Addr} {n c : Nat} {L : List S} (z : Bm w' b W0 u) (k : Kept Old w w') (hb : w.heap.size ≤ b) (r : RsS w' A n L) (hn : ∀ ad, A = some ad → 0 < n → ad.block ≠ b) (x : Int) :
    ∃ W, (w'.setCell ⟨b, 0, none⟩ (.int .i64 x)).setCell ⟨b, 1, none⟩ (.slice A n c) = W ∧ W.cell? ⟨b, 0, none⟩ = some (.int .i64 x) ∧ W.cell? ⟨b, 1, none⟩ = some (.slice A n c) ∧ RsS W A n L ∧ Kept Old w W := by
  have kk := put2_kept w' b (.int .i64 x) (.slice A n c)
  refine ⟨_, rfl, (z.put2 _ _).cell 0, (z.put2 _ _).cell 1, ⟨r.len, r.fit, fun h0 => ?_⟩, k.join kk (fun i hi e => by have e : i = b := e; omega)⟩
  obtain ⟨g, o, rfl, hg, cc⟩ := r.lies h0
  exact ⟨g, o, rfl, Nat.lt_of_lt_of_le hg kk.size, fun i x hx => (cc i x hx).kept kk hg (hn _ rfl h0)⟩
set_option maxHeartbeats 1500000 in
theorem racc_any (W : Int) (A : Option Addr) (n c : Nat) (l : List S) (d : D) (w : World) (h : RsS w A n l) (v : Valid W l) (hc : n ≤ c) (hA : A = none → c = 0) (fd : FitD d) :
    Calls Try.prog 30 #[md W A n c, ded d] w (RaccPost W (accL W l d) (accB W l d) w) := by
  have K1 := Lib.hid (kept3 w (.cells #[.int .i64 W, .slice A n c] 24) (.cells #[.int .i64 d.k, .int .i64 d.n, .int .i64 d.a, .int .i64 d.c] 56) (.cells #[.int .i64 0, .slice none 0 0] 24))
  have B2 := Lib.hid (((Bm.new w W (.slice A n c)).alloc (.cells #[.int .i64 d.k, .int .i64 d.n, .int .i64 d.a, .int .i64 d.c] 56)).alloc (.cells #[.int .i64 0, .slice none 0 0] 24))
  have B3 := Lib.hid (show BxD (((w.alloc (.cells #[.int .i64 W, .slice A n c] 24)).alloc (.cells #[.int .i64 d.k, .int .i64 d.n, .int .i64 d.a, .int .i64 d.c] 56)).alloc (.cells #[.int .i64 0, .slice none 0 0] 24)) (w.heap.size + 1) d from by
    have := (BxD.new (w.alloc (.cells #[.int .i64 W, .slice A n c] 24)) d).alloc (.cells #[.int .i64 0, .slice none 0 0] 24)
    rwa [show (w.alloc (.cells #[.int .i64 W, .slice A n c] 24)).heap.size = w.heap.size + 1 by simp] at this)
  have B4 := Lib.hid (show Bm (((w.alloc (.cells #[.int .i64 W, .slice A n c] 24)).alloc (.cells #[.int .i64 d.k, .int .i64 d.n, .int .i64 d.a, .int .i64 d.c] 56)).alloc (.cells #[.int .i64 0, .slice none 0 0] 24)) (w.heap.size + 2) 0 (.slice none 0 0) from by
    have := Bm.new ((w.alloc (.cells #[.int .i64 W, .slice A n c] 24)).alloc (.cells #[.int .i64 d.k, .int .i64 d.n, .int .i64 d.a, .int .i64 d.c] 56)) 0 (.slice none 0 0)
    rwa [show ((w.alloc (.cells #[.int .i64 W, .slice A n c] 24)).alloc (.cells #[.int .i64 d.k, .int .i64 d.n, .int .i64 d.a, .int .i64 d.c] 56)).heap.size = w.heap.size + 2 by simp] at this)
  have a0 := B2.out.c0
  have a1 := B2.out.c1
  have d0 := B3.out.c0
  have d1 := B3.out.c1
  have d2 := B3.out.c2
  have d3 := B3.out.c3
  have b0 := B4.out.c0
  have b1 := B4.out.c1
  have f0 := B4.out.f0
  have f1 := B4.out.f1
  have l2 := Blk.lt B2.out
  have l3 := Blk.lt B3.out
  have l4 := Blk.lt B4.out
  have HR := Lib.hid (h.old K1.out)
  have nA : ∀ ad, A = some ad → 0 < n → ad.block ≠ w.heap.size + 2 := fun ad e h0 => by
    obtain ⟨g, o, e2, hg, _⟩ := h.lies h0
    rw [e] at e2
    injection e2 with e2
    subst e2
    show g ≠ _
    omega
  have nA := Lib.hid nA
  have CL := Lib.hid (fun X => rclass_any d.n X)
  generalize hW : (((w.alloc (.cells #[.int .i64 W, .slice A n c] 24)).alloc (.cells #[.int .i64 d.k, .int .i64 d.n, .int .i64 d.a, .int .i64 d.c] 56)).alloc (.cells #[.int .i64 0, .slice none 0 0] 24)) = V at *
  have RA := Lib.hid (ralloc_any W A n c l d.n d.a V HR.out v hc hA fd.2.2.1)
  have RF := Lib.hid (rfree_any W A n c l d.a V HR.out v hc)
  have FI := Lib.hid (fun X (k : Kept Old V X) => rfind_any W A n c l d.a X (HR.out.old k) v)
  have DN := Lib.hid (show ∀ Bo, accB W l d = Bo → (Bo = true → accL W l d = l) → ∀ V9, RsS V9 A n l → Kept Old w V9 → RaccPost W (accL W l d) (accB W l d) w (.returned (.tuple #[.agg #[.int .i64 W, .slice A n c], .bool Bo])) V9 from fun Bo e1 e2 V9 r k => by
    rw [e1]
    exact ⟨W, l, _, rfl, fun hb => ⟨rfl, (e2 hb).symm⟩, ⟨A, n, c, rfl, r, hc, hA⟩, k⟩)
  have DM := Lib.hid (show ∀ Bo W' L', accB W l d = Bo → (Bo = true → W' = W ∧ L' = accL W l d) → ∀ v V9, MadeS L' w v V9 → RaccPost W (accL W l d) (accB W l d) w (.returned (.tuple #[.agg #[.int .i64 W', v], .bool Bo])) V9 from fun Bo W' L' e1 e2 v V9 M => by
    rw [e1]
    obtain ⟨A9, n9, c9, e, r, hn9, q, k⟩ := M
    exact ⟨W', L', v, rfl, e2, ⟨A9, n9, c9, e, r, hn9, q.1⟩, k⟩)
  clear h v fd
  rcases racc_ways W l d with ⟨k, q, e1, e2⟩ | ⟨k, q, e1, e2⟩ | ⟨k, q, e1, e2⟩ | ⟨k, q, e1, e2⟩ | ⟨k, q, e1, e2⟩ | ⟨k, q, q1, q2, e1, e2⟩ | ⟨k, q, q1, e1, e2⟩ | ⟨k, k1, e1, e2⟩
  · have t0 : (d.k == 1) = true := beq_iff_eq.2 k
    have t1 : (d.c == 0) = true := beq_iff_eq.2 q
    have DM := Lib.hid (DM.out _ (allocW W l d.n d.a) (allocL W l d.n d.a) e1 (fun r => ⟨(room_yes r).2.2.2, ((room_yes r).2.2.1).trans (e2 r).symm⟩))
    generalize roomB W l d.n d.a = rb at *
    generalize allocL W l d.n d.a = L1 at *
    generalize allocW W l d.n d.a = W1 at *
    generalize classB d.n = cb at *
    generalize classI d.n = ci at *
    clear k q e1 e2
    go_enter Try.func30, Try.ntmps30
    go_wp2_with (first
      | (go_at_call 21; refine (CL.out _).mono ?_; rintro e w' ⟨rfl, rfl⟩)
      | (go_at_call 26; refine RA.out.mono ?_; rintro e V2 ⟨v2, rfl, M2⟩; have B5 := Lib.hid (B4.out.old M2.kept); have b0 := B5.out.c0; have b1 := B5.out.c1; have f0 := B5.out.f0; have f1 := B5.out.f1; obtain ⟨A2, n2, c2, rfl⟩ := M2.form; have M2 := Lib.hid M2))
    obtain ⟨V9, hV9, r0, r1, K9⟩ := Bm.end2 B5.out M2.out K1.out (by omega) l4 W1
    rw [hV9]
    exact bodyPost_ret (v := .tuple #[.agg #[.int .i64 W1, .slice A2 n2 c2], .bool rb]) (by simp [results, Try.results30, go_sem, r0, r1]) rfl (DM.out _ _ K9)
  · have t0 : (d.k == 1) = true := beq_iff_eq.2 k
    have t1 : (d.c == 0) = false := beq_eq_false_iff_ne.2 (by omega)
    have t2 : (d.c == 3) = true := beq_iff_eq.2 q
    have DN := Lib.hid (DN.out _ e1 (fun _ => e2))
    generalize classB d.n = cb at *
    generalize classI d.n = ci at *
    clear k q e1 e2
    go_enter Try.func30, Try.ntmps30
    go_wp2_with (go_at_call 21; refine (CL.out _).mono ?_; rintro e w' ⟨rfl, rfl⟩)
    obtain ⟨V9, hV9, r0, r1, R9, K9⟩ := Bm.put_end (c := c) B4.out K1.out (by omega) HR.out nA.out W
    rw [hV9]
    exact bodyPost_ret (v := .tuple #[.agg #[.int .i64 W, .slice A n c], .bool cb]) (by simp [results, Try.results30, go_sem, r0, r1]) rfl (DN.out _ R9 K9)
  · have t0 : (d.k == 1) = true := beq_iff_eq.2 k
    have t1 : (d.c == 0) = false := beq_eq_false_iff_ne.2 (by omega)
    have t2 : (d.c == 3) = false := beq_eq_false_iff_ne.2 (by omega)
    have t3 : (d.c == 1) = true := beq_iff_eq.2 q
    have DN := Lib.hid (DN.out _ e1 (fun _ => e2))
    generalize classB d.n = cb at *
    generalize classI d.n = ci at *
    clear k q e1 e2
    go_enter Try.func30, Try.ntmps30
    go_wp2_with (go_at_call 21; refine (CL.out _).mono ?_; rintro e w' ⟨rfl, rfl⟩)
    obtain ⟨V9, hV9, r0, r1, R9, K9⟩ := Bm.put_end (c := c) B4.out K1.out (by omega) HR.out nA.out W
    rw [hV9]
    exact bodyPost_ret (v := .tuple #[.agg #[.int .i64 W, .slice A n c], .bool (!cb)]) (by simp [results, Try.results30, go_sem, r0, r1]) rfl (DN.out _ R9 K9)
  · have t0 : (d.k == 1) = false := beq_eq_false_iff_ne.2 (by omega)
    have t4 : (d.k == 2) = true := beq_iff_eq.2 k
    have t1 : (d.c == 0) = true := beq_iff_eq.2 q
    have fc : ((freeC l d.a == 0) = hasB l d.a) := by unfold freeC; cases hasB l d.a <;> rfl
    have DM := Lib.hid (DM.out _ (freeW W l d.a) (freeL l d.a) e1 (fun r => ⟨freeW_yes r, by rw [e2 r]; unfold freeL; rw [if_pos r]⟩))
    generalize hasB l d.a = rb at *
    generalize freeL l d.a = L1 at *
    generalize freeC l d.a = C1 at *
    generalize freeW W l d.a = W1 at *
    generalize classB d.n = cb at *
    generalize classI d.n = ci at *
    clear k q e1 e2
    go_enter Try.func30, Try.ntmps30
    go_wp2_with (first
      | (go_at_call 21; refine (CL.out _).mono ?_; rintro e w' ⟨rfl, rfl⟩)
      | (go_at_call 27; refine RF.out.mono ?_; rintro e V2 ⟨v2, rfl, M2⟩; have B5 := Lib.hid (B4.out.old M2.kept); have b0 := B5.out.c0; have b1 := B5.out.c1; have f0 := B5.out.f0; have f1 := B5.out.f1; have l5 := Blk.lt B5.out; obtain ⟨A2, n2, c2, rfl⟩ := M2.form; have M2 := Lib.hid M2))
    obtain ⟨V9, hV9, r0, r1, K9⟩ := Bm.end2 B5.out M2.out K1.out (by omega) l4 W1
    rw [hV9]
    have KA := (Kept.refl Old V9).alloc (.cells #[.int .i64 W1, .slice A2 n2 c2] 24)
    have r0 := cell_on KA r0
    have r1 := cell_on KA r1
    exact bodyPost_ret (v := .tuple #[.agg #[.int .i64 W1, .slice A2 n2 c2], .bool rb]) (by simp [results, Try.results30, go_sem, r0, r1]) rfl (DM.out _ _ (K9.old KA))
  · have t0 : (d.k == 1) = false := beq_eq_false_iff_ne.2 (by omega)
    have t4 : (d.k == 2) = true := beq_iff_eq.2 k
    have t1 : (d.c == 0) = false := beq_eq_false_iff_ne.2 (by omega)
    have t2 : (d.c == 2) = true := beq_iff_eq.2 q
    have DN := Lib.hid (DN.out _ e1 (fun _ => e2))
    have fi : decide (rfindI l d.a < 0) = !hasB l d.a := by
      unfold rfindI
      cases hasB l d.a with
      | true => exact decide_eq_false (by rw [if_pos rfl]; omega)
      | false => rfl
    generalize hasB l d.a = rb at *
    generalize rfindI l d.a = I at *
    generalize classB d.n = cb at *
    generalize classI d.n = ci at *
    clear k q e1 e2
    go_enter Try.func30, Try.ntmps30
    go_wp2_with (go_at_call 21; refine (CL.out _).mono ?_; rintro e w' ⟨rfl, rfl⟩)
    have n2 : w.heap.size ≠ w.heap.size + 2 := by omega
    have n3 : w.heap.size + 1 ≠ w.heap.size + 2 := by omega
    go_region_held3 (fun w' => w'.cell? ⟨w.heap.size, 0, none⟩ = some (.int .i64 W) ∧ w'.cell? ⟨w.heap.size, 1, none⟩ = some (.slice A n c) ∧ w'.cell? ⟨w.heap.size + 1, 2, none⟩ = some (.int .i64 d.a))
      (first
        | (exact ⟨‹_›, ‹_›, ‹_›⟩)
        | (exact ⟨put_far ‹_› n2, put_far ‹_› n2, put_far ‹_› n3⟩)
        | go_keep)
      (first
        | (go_at_call 37; refine (FI.out _ (by first | exact Kept.refl Old V | exact (Kept.refl Old V).drew)).mono ?_; rintro e w' ⟨rfl, rfl⟩))
    go_wp2
    obtain ⟨V9, hV9, r0, r1, R9, K9⟩ := Bm.put_end (c := c) B4.out K1.out (by omega) HR.out nA.out W
    rw [hV9]
    have r0 : V9.drew.cell? ⟨w.heap.size + 2, 0, none⟩ = _ := r0
    have r1 : V9.drew.cell? ⟨w.heap.size + 2, 1, none⟩ = _ := r1
    exact bodyPost_ret (v := .tuple #[.agg #[.int .i64 W, .slice A n c], .bool (!rb)]) (by simp [results, Try.results30, go_sem, r0, r1]) rfl (DN.out _ R9.drew K9.drew)
  · have t0 : (d.k == 1) = true := beq_iff_eq.2 k
    have t4 : (d.k == 2) = false := beq_eq_false_iff_ne.2 (by omega)
    have t1 : (d.c == 0) = false := beq_eq_false_iff_ne.2 q
    have t2 : (d.c == 3) = false := beq_eq_false_iff_ne.2 q1
    have t3 : (d.c == 1) = false := beq_eq_false_iff_ne.2 q2
    have DN := Lib.hid (DN.out _ e1 (fun _ => e2))
    generalize classB d.n = cb at *
    generalize classI d.n = ci at *
    clear k q q1 q2 e1 e2
    go_enter Try.func30, Try.ntmps30
    go_wp2_with (go_at_call 21; refine (CL.out _).mono ?_; rintro e w' ⟨rfl, rfl⟩)
    obtain ⟨V9, hV9, r0, r1, R9, K9⟩ := Bm.put_end (c := c) B4.out K1.out (by omega) HR.out nA.out W
    rw [hV9]
    exact bodyPost_ret (v := .tuple #[.agg #[.int .i64 W, .slice A n c], .bool false]) (by simp [results, Try.results30, go_sem, r0, r1]) rfl (DN.out _ R9 K9)
  · have t0 : (d.k == 1) = false := beq_eq_false_iff_ne.2 (by omega)
    have t4 : (d.k == 2) = true := beq_iff_eq.2 k
    have t1 : (d.c == 0) = false := beq_eq_false_iff_ne.2 q
    have t2 : (d.c == 2) = false := beq_eq_false_iff_ne.2 q1
    have DN := Lib.hid (DN.out _ e1 (fun _ => e2))
    generalize classB d.n = cb at *
    generalize classI d.n = ci at *
    clear k q q1 e1 e2
    go_enter Try.func30, Try.ntmps30
    go_wp2_with (go_at_call 21; refine (CL.out _).mono ?_; rintro e w' ⟨rfl, rfl⟩)
    obtain ⟨V9, hV9, r0, r1, R9, K9⟩ := Bm.put_end (c := c) B4.out K1.out (by omega) HR.out nA.out W
    rw [hV9]
    exact bodyPost_ret (v := .tuple #[.agg #[.int .i64 W, .slice A n c], .bool false]) (by simp [results, Try.results30, go_sem, r0, r1]) rfl (DN.out _ R9 K9)
  · have t0 : (d.k == 1) = false := beq_eq_false_iff_ne.2 k
    have t4 : (d.k == 2) = false := beq_eq_false_iff_ne.2 k1
    have DN := Lib.hid (DN.out _ e1 (fun _ => e2))
    generalize classB d.n = cb at *
    generalize classI d.n = ci at *
    clear k k1 e1 e2
    go_enter Try.func30, Try.ntmps30
    go_wp2_with (go_at_call 21; refine (CL.out _).mono ?_; rintro e w' ⟨rfl, rfl⟩)
    obtain ⟨V9, hV9, r0, r1, R9, K9⟩ := Bm.put_end (c := c) B4.out K1.out (by omega) HR.out nA.out W
    rw [hV9]
    exact bodyPost_ret (v := .tuple #[.agg #[.int .i64 W, .slice A n c], .bool false]) (by simp [results, Try.results30, go_sem, r0, r1]) rfl (DN.out _ R9 K9)
end Go.Proofs.Ytmajgfpfbieakaa.Lm
