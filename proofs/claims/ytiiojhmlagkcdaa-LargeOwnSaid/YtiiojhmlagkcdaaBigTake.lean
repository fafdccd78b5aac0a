/-
  What Take and Drop answer: the list without the first stack of a class, without its first stack. Own work; proved by a walk through the landed text.
-/
import Derived.Test.YtiiojhmlagkcdaaRows
import Derived.Test.YtiiojhmlagkcdaaBigApp
import Derived.Test.YtiiojhmlagkcdaaSizeCalls
import Derived.Test.YtiiojhmlagkcdaaBigCalls
import Derived.Test.YtiiojhmlagkcdaaBigList
import Derived.Test.YtiiojhmlagkcdaaBigWithout
import Derived.Deep.RegionWith
import Derived.WalkKit
import Derived.ProofKit
import Derived.OpenShut
import Derived.Outline
import Derived.Deep.Light
import Derived.Deep.QuietTactic
import Derived.BigQuiet
import Derived.IntWalk
import Derived.StillTailTactics
import Derived.RegionTactic
import Derived.Deep.RegionLaw
import Derived.ChangeAlike
import Derived.Deep.RegionHeld3
import Derived.Deep.CutRange
namespace Go.Proofs.Ytiiojhmlagkcdaa.Bg
open Go.ChangeShapes Go.WideShapes Go.ChangeAt Go.RowKit
set_option maxRecDepth 100000




/-- What a call that takes answers. -/
def TakePost (L : List R) (a C : Int) (w : World) (e : Ending) (w' : World) : Prop := ∃ v, e = .returned (.tuple #[v, .int .i64 a, .int .i64 C]) ∧ Made1 L w v w'
def DropPost (L : List R) (x : R) (ok : Bool) (w : World) (e : Ending) (w' : World) : Prop := ∃ v, e = .returned (.tuple #[v, run x, .bool ok]) ∧ Made1 L w v w'
theorem Made1.kept {L : List R} {w w' : World} {v : Value} (h : Made1 L w v w') : Kept Old w w' := by
  obtain ⟨_, _, _, _, _, _, _, k⟩ := h
  exact k
theorem Bx.end2 {w W : World} {b : Nat} {x : R} (h : Bx W b x) (K : Kept Old w W) (hb : w.heap.size ≤ b) (y : R) :
    ∃ V, (W.setCell ⟨b, 0, none⟩ (.int .i64 y.1)).setCell ⟨b, 1, none⟩ (.int .i64 y.2) = V ∧ V.cell? ⟨b, 0, none⟩ = some (.int .i64 y.1) ∧ V.cell? ⟨b, 1, none⟩ = some (.int .i64 y.2) ∧ Kept Old w V ∧ Bx V b y ∧ Kept (Only b) W V :=
  ⟨_, rfl, (h.put2 y.1 y.2).c0, (h.put2 y.1 y.2).c1, Bx.kept2 K hb _ _, h.put2 y.1 y.2, (only_setCell _ _ _ _).trans (only_setCell _ _ _ _)⟩
set_option maxHeartbeats 2000000 in
theorem take_any (A : Option Addr) (n c : Nat) (l : List R) (cl : Int) (w : World) (h : Rs w A n l) (hn : n ≤ 900) (hc : n ≤ c) :
    Calls Try.prog 14 #[.slice A n c, .int .i64 cl] w (TakePost (takeL l cl) (takeA l cl) (takeC l cl) w) := by
  have HR := Lib.hid h
  have hlen := h.len
  have hp := ix_le l cl
  have LO := Lib.hid (fun i y => ix_lo l cl (i := i) (y := y))
  have AT := Lib.hid (take_ways l cl)
  clear h
  generalize hC : takeC l cl = C at *
  generalize hL : takeL l cl = L at *
  generalize hA : takeA l cl = a at *
  generalize ixL l cl = p at *
  clear hC hL hA
  go_enter Try.func14, Try.ntmps14
  go_wp2_with fail
  go_loopw [11] (fun j wr => ∃ k : Nat, k ≤ p ∧ j = .int .i64 (k : Int) ∧ Hid (Kept Old w wr)) (fun j _ => n - (intOf j).toNat)
  case atStart => exact ⟨0, by omega, rfl, Lib.hid (Kept.refl _ _)⟩
  case round =>
    obtain ⟨k, hk, rfl, K⟩ := hrel
    rename World => W
    by_cases d : k < n
    · obtain ⟨g, o, x, rfl, _, hx, f1, f2, c0, c1⟩ := (HR.out.old K.out).get d
      by_cases d2 : k < p
      · have t : (x.2 == cl) = false := beq_eq_false_iff_ne.2 (LO.out k x hx d2)
        clear hx
        go_wp2
        refine ⟨⟨k + 1, by omega, by go_num, Lib.hid (K.out.alloc _)⟩, ?_⟩
        simp [intOf]; omega
      · obtain rfl : k = p := by omega
        obtain ⟨y, hy, ey, _, rfl, rfl, rfl⟩ : ∃ y, l[k]? = some y ∧ y.2 = cl ∧ k < l.length ∧ C = 0 ∧ L = l.take k ++ l.drop (k + 1) ∧ a = y.1 := by
          rcases AT.out with ⟨_, e, _⟩ | ⟨y, h1, h2, h3, h4, h5, h6⟩
          · omega
          · exact ⟨y, h1, h2, h3, h4, h5, h6⟩
        obtain rfl : y = x := by rw [hx] at hy; exact (Option.some.inj hy).symm
        have t : (y.2 == cl) = true := by simp [ey]
        have b1 := Bx.new W y
        have x0 := b1.c0
        have x1 := b1.c1
        have bl := Blk.lt b1
        have K1 := Lib.hid (K.out.alloc (.cells #[.int .i64 y.1, .int .i64 y.2] 24))
        have R1 := Lib.hid (HR.out.old K1.out)
        clear hx hy ey AT LO b1
        go_wp2_with fail
        go_region_with (go_at_call 28; refine (without_ok _ n c k l _ (by first | exact R1.out | exact R1.out.drew) (by omega) hn hc).mono ?_; rintro e w2 ⟨v2, rfl, M2⟩; have y0 := cell_on M2.kept x0; have E := Lib.hid (Made1.from M2 (by first | exact K1.out | exact K1.out.drew)); clear M2)
        all_goals
          go_wp2
          go_ret3
          first | exact ⟨_, rfl, E.out⟩ | exact ⟨_, rfl, E.out.drew⟩
    · obtain ⟨_, _, rfl, rfl, rfl⟩ : (∀ x ∈ l, x.2 ≠ cl) ∧ p = l.length ∧ C = 2 ∧ L = [] ∧ a = 0 := by
        rcases AT.out with e | ⟨y, h1, h2, h3, _⟩
        · exact e
        · omega
      go_wp2
      go_ret3
      exact ⟨_, rfl, Made1.of_nil K.out⟩
/-- A list that was made outlives stores into a block of the caller's own. -/
theorem Made1.put {L : List R} {w W1 w2 V : World} {v : Value} {b : Nat} (h : Made1 L W1 v w2) (k : Kept Old w W1) (hb : w.heap.size ≤ b) (hb1 : b < W1.heap.size) (kv : Kept (Only b) w2 V) : Made1 L w v V := by
  obtain ⟨A, n, c, h1, r, h2, h3, K⟩ := h
  refine ⟨A, n, c, h1, r.kept kv (fun ad e q => ?_), h2, ⟨h3.1, fun ad e => Nat.le_trans k.size (h3.2 ad e)⟩, (k.trans K).join kv (fun i hi e => ?_)⟩
  · have q : ad.block = b := q
    have := h3.2 ad e
    omega
  · have e : i = b := e
    omega
theorem without_first (A : Option Addr) (n c : Nat) (x : R) (t : List R) (w : World) (h : Rs w A n (x :: t)) (hn : n ≤ 900) (hc : n ≤ c) : Calls Try.prog 28 #[.slice A n c, .int .i64 0] w fun e w' => ∃ v, e = .returned v ∧ Made1 t w v w' :=
  without_ok A n c 0 (x :: t) w h (by have := h.len; simp at this; omega) hn hc
set_option maxHeartbeats 2000000 in
theorem drop_any (A : Option Addr) (n c : Nat) (l : List R) (w : World) (h : Rs w A n l) (hn : n ≤ 900) (hc : n ≤ c) :
    Calls Try.prog 15 #[.slice A n c] w (DropPost (l.drop 1) (headL l) (dropB l) w) := by
  have HR := Lib.hid h
  have hlen := h.len
  have k0 := Lib.hid ((Kept.refl Old w).alloc (.cells #[.int .i64 0, .int .i64 0] 24))
  have B0 := Lib.hid (Bx.new w (0, 0))
  clear h
  by_cases z : n = 0
  · subst z
    obtain rfl : l = [] := List.eq_nil_of_length_eq_zero hlen
    have b0 := B0.out.c0
    have b1 := B0.out.c1
    have bf := Blk.frozen B0.out
    go_enter Try.func15, Try.ntmps15
    go_wp2
    exact bodyPost_ret (v := .tuple #[.slice none 0 0, run (0, 0), .bool false]) (by simp [results, Try.results15, go_sem]) rfl ⟨_, rfl, Made1.of_nil k0.out⟩
  · obtain ⟨g, o, x, rfl, _, hx, f1, f2, c0, c1⟩ := (HR.out.old k0.out).get (k := 0) (by omega)
    obtain ⟨t, rfl⟩ : ∃ t, l = x :: t := by
      cases l with
      | nil => cases hx
      | cons y t => simp at hx; subst hx; exact ⟨t, rfl⟩
    have hd : dropB (x :: t) = true := decide_eq_true (by simp)
    rw [hd, show headL (x :: t) = x from rfl]
    have R1 := Lib.hid (HR.out.old k0.out)
    have b0 := B0.out.c0
    have b1 := B0.out.c1
    have bl := Blk.lt B0.out
    have nz : ((n : Int) == 0) = false := beq_eq_false_iff_ne.2 (by omega)
    simp only [Nat.zero_mul, Nat.add_zero] at c0 c1
    clear hx hd
    go_enter Try.func15, Try.ntmps15
    go_wp2_with fail
    go_region_with (go_at_call 28; refine (without_first _ n c x t _ (by first | exact R1.out | exact R1.out.drew) hn hc).mono ?_; rintro e w2 ⟨v2, rfl, M2⟩; have k2 := M2.kept; have y0 := cell_on k2 c0; have y1 := cell_on k2 c1; have B2 : Bx w2 w.heap.size (0, 0) := (by first | exact B0.out.old k2 | exact B0.out.drew.old k2); have d0 := B2.c0; have d1 := B2.c1; have df := Blk.frozen B2; have dl := Blk.lt B2; have B2 := Lib.hid B2; have E := Lib.hid (show ∀ V, Kept (Only w.heap.size) w2 V → Made1 t w v2 V from fun V kv => M2.put (by first | exact k0.out | exact k0.out.drew) (Nat.le_refl _) (by first | exact bl | exact bl) kv); have KK := Lib.hid (M2.from (by first | exact k0.out | exact k0.out.drew)).kept; clear M2 k2)
    all_goals
      obtain ⟨V, hV, g0, g1, _, _, kv⟩ := B2.out.end2 KK.out (Nat.le_refl _) x
      have P := Lib.hid (E.out V kv)
      clear kv
      go_wp2
      exact bodyPost_ret (v := .tuple #[v2, run x, .bool true]) (by simp [results, Try.results15, go_sem, hV, g0, g1]) rfl ⟨_, rfl, by first | exact P.out | (rw [hV]; exact P.out) | exact P.out.drew⟩
end Go.Proofs.Ytiiojhmlagkcdaa.Bg
