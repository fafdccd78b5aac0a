/-
  What a store's own functions answer and leave: room, empty, find, takeSmall, takeLarge, giveSmall, giveLarge. Own work; each is proved by a walk through the landed text.
-/
import Derived.Test.YtjfkmgicbakmgaaGreatRows
import Derived.WalkKit
import Derived.ProofKit
import Derived.OpenShut
import Derived.Outline
import Derived.Deep.Light
import Derived.Deep.QuietTactic
import Derived.BigQuiet
import Derived.IntWalk
import Derived.StillTailTactics
import Derived.RegionTactic
import Derived.Deep.RegionLaw
import Derived.Deep.RegionHeld3
import Derived.Test.YtjfkmgicbakmgaaGreatJLive
import Derived.Test.YtjfkmgicbakmgaaGreatJStoreCalls
namespace Go.Proofs.YtjfkmgicbakmgaaGreat.Sto
open Go.ChangeShapes Go.WideShapes Go.ChangeAt Go.RowKit
set_option maxRecDepth 100000

theorem page_at (n : Nat) (hn : n ≤ 1000000) (w : World) : Calls Tryz.prog 75 #[.int .i64 (n : Int)] w fun e w' => e = .returned (.int .i64 ((n : Int) / 64)) ∧ w = w' := by
  have wr : IntKind.i64.wrap ((n : Int) / 64) = (n : Int) / 64 := IntWalk.i64_in _ (by omega)
  go_enter Tryz.func75, Tryz.ntmps75
  go_wp2
  go_ret
  exact ⟨rfl, rfl⟩
section calls
variable {w0 W : World} {s P : Nat} {k : K} {live : List Lm.S} {F : Nat → Prop} {pl : Pl} {O : Int → Int → Prop}
theorem StM.c (m : StM w0 W s P k live F pl) (i : Nat) : W.cell? ⟨s, i, none⟩ = (cells pl k.on)[i]? := m.st.box.cell i
theorem StM.f (m : StM w0 W s P k live F pl) (i : Nat) : W.frozen? ⟨s, i, none⟩ = false := m.st.box.frozen i
theorem heap_alloc_at {X : World} (n cl : Int) (m : StM w0 W s P k live F pl) (q : Kept Old W X) : Calls Tryz.prog 119 #[ptr pl.h, .int .i64 n, .int .i64 cl] X fun e W' => e = .returned (.tuple #[.int .i64 (allocA k.rl k.sl n cl).x, .int .i64 (allocA k.rl k.sl n cl).e]) ∧ Left w0 W W' s P { k with rl := (allocA k.rl k.sl n cl).rl, sl := (allocA k.rl k.sl n cl).sl } live F pl := by
  refine (heap_alloc n cl (m.old q)).mono ?_
  rintro e W' ⟨rfl, L⟩
  exact ⟨rfl, Left.trans (pl1 := pl.re W.heap.size 97) ⟨rfl, rfl, rfl⟩ q.any L⟩
def RoomPost (w0 W : World) (s P : Nat) (k : K) (live : List Lm.S) (F : Nat → Prop) (pl : Pl) (o : AnsA) (e : Ending) (W' : World) : Prop :=
  e = .returned (.tuple #[.int .i64 (if o.e = 0 then o.x else 0), .int .i64 (if o.e = 0 then 0 else 3)]) ∧ Left w0 W W' s P { k with rl := o.rl, sl := o.sl } live F pl
set_option maxHeartbeats 2000000 in
theorem room_any (c : Int) (m : StM w0 W s P k live F pl) : Calls Tryz.prog 83 #[ptr s, .int .i64 c] W (RoomPost w0 W s P k live F pl (allocA k.rl k.sl (pagesI c) c)) := by
  have HA := Lib.hid (fun X (q : Kept Old W X) => heap_alloc_at (pagesI c) c m q)
  have c1 : W.cell? ⟨s, 1, none⟩ = some (ptr pl.h) := m.c 1
  have hs := m.st.box.lt
  generalize allocA k.rl k.sl (pagesI c) c = o at *
  have PG := Lib.hid (fun X => szpages_any c X)
  generalize pagesI c = pg at *
  clear m
  by_cases z : o.e = 0
  · have z1 : (o.e == 0) = true := by simp [z]
    have z2 : (o.e != 0) = false := by simp [z]
    have EP := Lib.hid (show ∀ W', Left w0 W W' s P { k with rl := o.rl, sl := o.sl } live F pl → RoomPost w0 W s P k live F pl o (.returned (.tuple #[.int .i64 o.x, .int .i64 0])) W' from fun W' L => ⟨by rw [if_pos z, if_pos z], L⟩)
    clear z
    go_enter Tryz.func83, Tryz.ntmps83
    go_wp2_with fail
    go_region_with (first
      | (go_at_call 120; refine (PG.out _).mono ?_; rintro e w' ⟨rfl, rfl⟩)
      | (go_at_call 119; refine (HA.out _ (by first | exact Kept.refl Old W | exact (Kept.refl Old W).drew)).mono ?_; rintro e w' ⟨rfl, L⟩; have L := Lib.hid L))
    all_goals
      go_wp2_with fail
      go_ret2
      exact EP.out _ L.out
  · have z1 : (o.e == 0) = false := by simp [z]
    have z2 : (o.e != 0) = true := by simp [z]
    have EP := Lib.hid (show ∀ W', Left w0 W W' s P { k with rl := o.rl, sl := o.sl } live F pl → RoomPost w0 W s P k live F pl o (.returned (.tuple #[.int .i64 0, .int .i64 3])) W' from fun W' L => ⟨by rw [if_neg z, if_neg z], L⟩)
    clear z
    go_enter Tryz.func83, Tryz.ntmps83
    go_wp2_with fail
    go_region_with (first
      | (go_at_call 120; refine (PG.out _).mono ?_; rintro e w' ⟨rfl, rfl⟩)
      | (go_at_call 119; refine (HA.out _ (by first | exact Kept.refl Old W | exact (Kept.refl Old W).drew)).mono ?_; rintro e w' ⟨rfl, L⟩; have L := Lib.hid L))
    all_goals
      go_wp2_with fail
      go_ret2
      exact EP.out _ L.out
set_option maxHeartbeats 2000000 in
theorem empty_any (q : Int) (m : StM w0 W s P k live F pl) : Calls Tryz.prog 96 #[ptr s, .int .i64 q] W fun e W' => e = .returned (.int .i64 (freeA k.rl k.sl q).e) ∧ Left w0 W W' s P { k with rl := (freeA k.rl k.sl q).rl, sl := (freeA k.rl k.sl q).sl } live F pl := by
  have HF := Lib.hid (heap_free q m)
  have c1 : W.cell? ⟨s, 1, none⟩ = some (ptr pl.h) := m.c 1
  generalize freeA k.rl k.sl q = o at *
  clear m
  go_enter Tryz.func96, Tryz.ntmps96
  go_wp2_with fail
  refine HF.out.mono ?_
  rintro e w' ⟨rfl, L⟩
  have L := Lib.hid L
  go_wp2_with fail
  go_ret
  obtain ⟨⟨pl', m', e'⟩, f⟩ := L.out
  exact ⟨rfl, ⟨_, m'.old ((Kept.refl Old _).alloc _), ⟨e'.a, e'.h, e'.pq⟩⟩, f.trans ((Kept.refl _ _).alloc _)⟩
set_option maxHeartbeats 2000000 in
theorem find_any (a : Int) (m : StM w0 W s P k live F pl) {Z : Int} (v : Lm.Valid Z live) : Calls Tryz.prog 50 #[ptr s, .int .i64 a] W fun e W' => e = .returned (.tuple #[.int .i64 (Lm.placeL live a : Int), .bool (Lm.hasB live a)]) ∧ Kept Old W W' := by
  have c13 : W.cell? ⟨s, 13, none⟩ = some pl.lv := m.c 13
  obtain ⟨A, c, e, R, h1, h2⟩ := m.lv.ow.rs
  rw [e] at c13
  have BS := Lib.hid (Sf.bs_any Z A live.length c live a W R v (by have := v.len; omega))
  generalize Lm.placeL live a = kk at *
  generalize Lm.hasB live a = bb at *
  clear m v e R h1 h2
  go_enter Tryz.func50, Tryz.ntmps50
  go_wp2_with (go_at_call 86; refine BS.out.mono ?_; rintro e w' ⟨rfl, k2⟩)
  go_ret2
  exact ⟨rfl, k2⟩
end calls
end Go.Proofs.YtjfkmgicbakmgaaGreat.Sto
