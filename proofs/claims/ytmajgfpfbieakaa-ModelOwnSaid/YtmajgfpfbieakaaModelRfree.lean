/-
  What the document's own find, Find and Free answer of a valid model. Own work; each is proved by a walk through the landed text.
-/
import Derived.Test.YtmajgfpfbieakaaRows
import Derived.Test.YtmajgfpfbieakaaLiveApp
import Derived.WalkKit
import Derived.ProofKit
import Derived.OpenShut
import Derived.Outline
import Derived.Deep.Light
import Derived.Deep.QuietTactic
import Derived.BigQuiet
import Derived.IntWalk
import Derived.StillTailTactics
import Derived.RegionTactic
import Derived.Deep.RegionLaw
import Derived.Deep.RegionHeld3
namespace Go.Proofs.Ytmajgfpfbieakaa.Lm
open Go.ChangeShapes Go.WideShapes Go.ChangeAt Go.RowKit
set_option maxRecDepth 100000

/-- What find answers. -/
def rfindI (l : List S) (a : Int) : Int := if hasB l a then (placeL l a : Int) else -1
theorem Valid.rfind_at {W : Int} {l : List S} (v : Valid W l) {a : Int} {k : Nat} {x : S} (hx : l[k]? = some x) : (x.a = a ∧ rfindI l a = (k : Int)) ∨ x.a ≠ a := by
  by_cases e : x.a = a
  · obtain ⟨h1, h2⟩ := v.found hx e
    exact .inl ⟨e, by unfold rfindI; rw [if_pos h1, h2]⟩
  · exact .inr e
theorem rfind_none {l : List S} {a : Int} (h : ∀ x ∈ l, x.a ≠ a) : rfindI l a = -1 := by
  unfold rfindI
  cases e : hasB l a with
  | false => simp
  | true =>
    obtain ⟨y, hy, ey, _⟩ := has_at e
    exact absurd ey (h y (List.mem_of_getElem? hy))
set_option maxHeartbeats 1500000 in
theorem rfind_any (W : Int) (A : Option Addr) (n c : Nat) (l : List S) (a : Int) (w : World) (h : RsS w A n l) (v : Valid W l) :
    Calls Try.prog 37 #[.slice A n c, .int .i64 a] w fun e w' => e = .returned (.int .i64 (rfindI l a)) ∧ w = w' := by
  have HR := Lib.hid h
  have HV := Lib.hid v
  have hlen := Lib.hid h.len
  have n5 : n ≤ 512 := by have := v.len; have := h.len; omega
  clear h v
  go_enter Try.func37, Try.ntmps37
  go_wp2_with fail
  go_loopw [5] (fun i wr => ∃ k : Nat, k ≤ n ∧ i = .int .i64 (k : Int) ∧ Hid (∀ x ∈ l.take k, x.a ≠ a) ∧ w = wr) (fun i _ => n - (intOf i).toNat)
  case atStart => exact ⟨0, by omega, rfl, Lib.hid (fun x hx => by cases hx), rfl⟩
  case round =>
    obtain ⟨k, hk, rfl, NO, rfl⟩ := hrel
    by_cases d : k < n
    · obtain ⟨g, o, x, rfl, hg, hx, _, cx0, cx1, cx2⟩ := HR.out.get d
      have kn : (k : Int) < (n : Int) := by omega
      rcases HV.out.rfind_at (a := a) hx with ⟨e, e1⟩ | e
      · have E := Lib.hid e1
        have et : (x.a == a) = true := beq_iff_eq.2 e
        clear e1 e hx
        go_wp2_with fail
        go_ret
        exact ⟨by rw [E.out]; rfl, rfl⟩
      · have NO2 := Lib.hid (show ∀ y ∈ l.take (k + 1), y.a ≠ a from fun y hy => by
          rw [List.take_add_one, hx] at hy
          rcases List.mem_append.1 hy with q | q
          · exact NO.out y q
          · simp at q; subst q; exact e)
        have et : (x.a == a) = false := beq_eq_false_iff_ne.2 e
        clear e hx
        go_wp2_with fail
        refine ⟨⟨k + 1, by omega, by go_num, NO2, by first | trivial | rfl⟩, ?_⟩
        simp [intOf]; omega
    · obtain rfl : k = n := by omega
      have E := Lib.hid (rfind_none (l := l) (a := a) (by have := NO.out; rwa [List.take_of_length_le (by have := hlen.out; omega)] at this))
      go_wp2_with fail
      go_ret
      exact ⟨by rw [E.out]; rfl, rfl⟩
/-- A live stack and whether there is one. -/
def FindPost (x : S) (B : Bool) (w : World) (e : Ending) (w' : World) : Prop := e = .returned (.tuple #[spn x, .bool B]) ∧ Kept Old w w'
theorem find_no {l : List S} {a : Int} (h : hasB l a = false) : findS l a = ⟨0, 0, 0⟩ ∧ freeL l a = [] ∧ freeC l a = 2 ∧ rfindI l a = -1 := by
  unfold findS freeL freeC rfindI
  simp [h]
theorem find_yes {l : List S} {a : Int} (h : hasB l a = true) : ∃ x, l[placeL l a]? = some x ∧ placeL l a < l.length ∧ findS l a = x ∧ freeL l a = l.take (placeL l a) ++ l.drop (placeL l a + 1) ∧ freeC l a = 0 ∧ rfindI l a = (placeL l a : Int) := by
  obtain ⟨y, hy, _, hl⟩ := has_at h
  refine ⟨y, hy, hl, ?_, ?_, ?_, ?_⟩
  · unfold findS; rw [if_pos h, List.getD_eq_getElem?_getD, hy]; rfl
  · unfold freeL delL; rw [if_pos h]
  · unfold freeC; rw [if_pos h]
  · unfold rfindI; rw [if_pos h]
theorem freeW_no {W : Int} {l : List S} {a : Int} (h : hasB l a = false) : freeW W l a = 0 := by unfold freeW; simp [h]
theorem freeW_yes {W : Int} {l : List S} {a : Int} (h : hasB l a = true) : freeW W l a = W := by unfold freeW; simp [h]
set_option maxHeartbeats 1500000 in
theorem rfindm_any (W : Int) (A : Option Addr) (n c : Nat) (l : List S) (a : Int) (w : World) (h : RsS w A n l) (v : Valid W l) :
    Calls Try.prog 28 #[md W A n c, .int .i64 a] w (FindPost (findS l a) (hasB l a) w) := by
  have K1 := Lib.hid (kept2 w (.cells #[.int .i64 W, .slice A n c] 24) (.cells #[.int .i64 0, .int .i64 0, .int .i64 0] 40))
  have B2 := Lib.hid ((Bm.new w W (.slice A n c)).alloc (.cells #[.int .i64 0, .int .i64 0, .int .i64 0] 40))
  have B4 := Lib.hid (BxS.new2 w (.cells #[.int .i64 W, .slice A n c] 24) _ ⟨0, 0, 0⟩ rfl)
  have a0 := B2.out.c0
  have a1 := B2.out.c1
  have b0 := B4.out.c0
  have b1 := B4.out.c1
  have b2 := B4.out.c2
  have f0 := B4.out.f 0
  have f1 := B4.out.f 1
  have f2 := B4.out.f 2
  have HR := Lib.hid (h.old K1.out)
  have C := Lib.hid (fun V h => rfind_any W A n c l a V h v)
  have n5 : n ≤ 512 := by have := v.len; have := h.len; omega
  have hlen := h.len
  clear h v
  generalize hW : ((w.alloc (.cells #[.int .i64 W, .slice A n c] 24)).alloc (.cells #[.int .i64 0, .int .i64 0, .int .i64 0] 40)) = V at *
  have C := Lib.hid (C.out V HR.out)
  cases r : hasB l a with
  | false =>
    rw [(find_no r).2.2.2] at C
    rw [(find_no r).1]
    clear r
    go_enter Try.func28, Try.ntmps28
    go_wp2_with (go_at_call 37; refine C.out.mono ?_; rintro e w' ⟨rfl, rfl⟩)
    obtain ⟨V9, hV9, q0, q1, q2, K9⟩ := B4.out.end3 K1.out (by omega) 0 0 0
    rw [hV9]
    exact bodyPost_ret (v := .tuple #[.agg #[.int .i64 0, .int .i64 0, .int .i64 0], .bool false]) (by simp [results, Try.results28, go_sem, q0, q1, q2]) rfl ⟨rfl, K9⟩
  | true =>
    obtain ⟨x, hx, hl, e1, _, _, e4⟩ := find_yes r
    rw [e4] at C
    rw [e1]
    generalize placeL l a = p at *
    obtain ⟨g, o, y, rfl, hg, hy, _, cx0, cx1, cx2⟩ := HR.out.get (k := p) (by omega)
    obtain rfl : y = x := by rw [hx] at hy; exact (Option.some.inj hy).symm
    have p1 : (p : Int) < (n : Int) := by omega
    clear r hx hy e1 e4
    go_enter Try.func28, Try.ntmps28
    go_wp2_with (go_at_call 37; refine C.out.mono ?_; rintro e w' ⟨rfl, rfl⟩)
    obtain ⟨V9, hV9, q0, q1, q2, K9⟩ := B4.out.end3 K1.out (by omega) y.a y.n y.c
    rw [hV9]
    exact bodyPost_ret (v := .tuple #[.agg #[.int .i64 y.a, .int .i64 y.n, .int .i64 y.c], .bool true]) (by simp [results, Try.results28, go_sem, q0, q1, q2]) rfl ⟨rfl, K9⟩
theorem put_far' {w : World} {b : Nat} {x y : Value} {p : Addr} {v : Value} (h : w.cell? p = some v) (hp : p.block ≠ b) : ((w.setCell ⟨b, 0, none⟩ x).setCell ⟨b, 1, none⟩ y).cell? p = some v := ((put2_kept w b x y).cell (block_lt_of_cell h) hp).trans h
set_option maxHeartbeats 1500000 in
theorem rfree_any (W : Int) (A : Option Addr) (n c : Nat) (l : List S) (a : Int) (w : World) (h : RsS w A n l) (v : Valid W l) (hc : n ≤ c) :
    Calls Try.prog 27 #[md W A n c, .int .i64 a] w (FreePost (freeW W l a) (freeL l a) (freeC l a) w) := by
  have K1 := Lib.hid (kept2 w (.cells #[.int .i64 W, .slice A n c] 24) (.cells #[.int .i64 0, .slice none 0 0] 24))
  have B2 := Lib.hid ((Bm.new w W (.slice A n c)).alloc (.cells #[.int .i64 0, .slice none 0 0] 24))
  have B4 := Lib.hid (Bm.new2 w (.cells #[.int .i64 W, .slice A n c] 24) _ 0 (.slice none 0 0) rfl)
  have a0 := B2.out.c0
  have a1 := B2.out.c1
  have b0 := B4.out.c0
  have b1 := B4.out.c1
  have f0 := B4.out.f0
  have f1 := B4.out.f1
  have HR := Lib.hid (h.old K1.out)
  have C := Lib.hid (fun V h => rfind_any W A n c l a V h v)
  have n5 : n ≤ 512 := by have := v.len; have := h.len; omega
  have hlen := h.len
  clear h v
  generalize hW : ((w.alloc (.cells #[.int .i64 W, .slice A n c] 24)).alloc (.cells #[.int .i64 0, .slice none 0 0] 24)) = V at *
  have hW2 := Lib.hid hW
  have hV : w.heap.size + 1 < V.heap.size := by rw [← hW2.out]; simp
  have hV0 : w.heap.size < V.heap.size := by omega
  have C := Lib.hid (C.out V HR.out)
  cases r : hasB l a with
  | false =>
    rw [(find_no r).2.2.2] at C
    rw [(find_no r).2.1, (find_no r).2.2.1, freeW_no r]
    clear r
    go_enter Try.func27, Try.ntmps27
    go_wp2_with (go_at_call 37; refine C.out.mono ?_; rintro e w' ⟨rfl, rfl⟩)
    obtain ⟨V9, hV9, r0, r1, K9⟩ := B4.out.end0 K1.out (by omega)
    rw [hV9]
    exact bodyPost_ret (v := .tuple #[.agg #[.int .i64 0, .slice none 0 0], .int .i64 2]) (by simp [results, Try.results27, go_sem, r0, r1]) rfl ⟨_, rfl, K9⟩
  | true =>
    obtain ⟨x, hx, hl, _, e2, e3, e4⟩ := find_yes r
    rw [e4] at C
    rw [e2, e3, freeW_yes r]
    generalize placeL l a = p at *
    obtain ⟨g, o, y, rfl, hg, _, _, _, _, _⟩ := HR.out.get (k := p) (by omega)
    have p1 : (p : Int) + 1 ≤ (n : Int) := by omega
    have p2 : p ≤ c := by omega
    have p3 : (p : Int) ≤ (n : Int) := by omega
    have p4 : p + 1 ≤ c := by omega
    have p5 : IntKind.i64.wrap ((p : Int) + 1) = (p : Int) + 1 := IntWalk.i64_in _ (by omega)
    have p6 : ((p : Int) + 1).toNat = p + 1 := by omega
    have p7 : (0 : Int) ≤ (p : Int) + 1 := by omega
    have p8 : p + 1 ≤ n := by omega
    have R1 := Lib.hid (HR.out.take (i := p) (by omega))
    obtain ⟨A', hA', R2⟩ : ∃ A' : Option Addr, (if c = p + 1 then some (⟨g, o, none⟩ : Addr) else some ⟨g, o + (p + 1) * 3, none⟩) = A' ∧ Hid (RsS V A' (n - (p + 1)) (l.drop (p + 1))) := ⟨_, rfl, Lib.hid (HR.out.tail _ fun g' o' e h => by injection e with e; injection e with e1 e2; subst e1; subst e2; exact if_neg (by omega))⟩
    have hA'' : A' ≠ none := by rw [← hA']; split <;> simp
    clear r hx e2 e3 e4
    go_enter Try.func27, Try.ntmps27
    go_wp2_with (go_at_call 37; refine C.out.mono ?_; rintro e w' ⟨rfl, rfl⟩)
    go_region_law (first
      | (refine em_step (W := V) rfl (.tmp 16) (.tmp 20) rfl rfl (some ⟨g, o, none⟩) p c (l.take p) (by first | rfl | simp [Act.eval, Act.put]) R1.out (fun h => by cases h) (by omega) (by first | exact ((Kept.refl Old V).alloc _).drew) (by first | exact ⟨V.heap.size, rfl, Blk.new V _ [], Nat.le_refl _⟩) ?_; intro v1 w1 O1 K1' pr; have a0' := cell_on K1'.out a0; have a1' := cell_on K1'.out a1; have B4' := B4.out.old K1'.out; have b0' := B4'.c0; have b1' := B4'.c1; have f0' := B4'.f0; have f1' := B4'.f1)
      | (refine cut_step (W := V) rfl (.tmp 21) (.tmp 26) rfl rfl v1 p (l.take p) (by first | rfl | simp [Act.eval, Act.put]) A' (n - (p + 1)) (c - (p + 1)) (l.drop (p + 1)) (by first | rfl | simp [Act.eval, Act.put]) R2.out (fun h => absurd h hA'') (by omega) (by omega) O1.out K1'.out ?_; intro A3 c3 w3 O3 K3; have a0'' := cell_on K3.out a0; have a1'' := cell_on K3.out a1; have B4'' := Lib.hid (B4.out.old K3.out); have b0'' := B4''.out.c0; have b1'' := B4''.out.c1; have f0'' := B4''.out.f0; have f1'' := B4''.out.f1))
    all_goals
      go_wp2
      obtain ⟨V9, hV9, r0, r1, K9⟩ := Bm.end2 B4''.out (madeS_end O3.out K3.out) K1.out (by omega) (by omega) W
      rw [hV9]
      exact bodyPost_ret (v := .tuple #[.agg #[.int .i64 W, .slice A3 (p + (n - (p + 1))) c3], .int .i64 0]) (by simp [results, Try.results27, go_sem, r0, r1]) rfl ⟨_, rfl, K9⟩
end Go.Proofs.Ytmajgfpfbieakaa.Lm
