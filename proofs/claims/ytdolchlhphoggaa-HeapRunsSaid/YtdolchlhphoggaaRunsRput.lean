/-
  What the document's own PutRun answers of right runs. Own work; each is proved by a walk through the landed text.
-/
import Derived.Test.YtdolchlhphoggaaRows
import Derived.Test.YtdolchlhphoggaaRunsMem
import Derived.Test.YtdolchlhphoggaaRunsCalls
import Derived.Test.YtdolchlhphoggaaRunsPutLem
import Derived.Test.YtdolchlhphoggaaRunsRef
import Derived.WalkKit
import Derived.ProofKit
import Derived.OpenShut
import Derived.Outline
import Derived.Deep.Light
import Derived.Deep.QuietTactic
import Derived.BigQuiet
import Derived.IntWalk
import Derived.StillTailTactics
import Derived.RegionTactic
import Derived.Deep.RegionLaw
import Derived.ChangeAlike
import Derived.Deep.RegionHeld3
import Derived.Deep.CutRange
namespace Go.Proofs.Ytdolchlhphoggaa
open Go.ChangeShapes Go.WideShapes Go.ChangeAt Go.RowKit
set_option maxRecDepth 100000

/-! ### Two lists of the call's own, apart from one another -/
theorem Ow.far {D : Nat → Prop} {w w' : World} {B : Nat} {v : Value} {n : Nat} {l : List R} (h : Ow w B v n l) (k : Kept D w w') (hd : ∀ g, some g = v.ownBlock → ¬ D g) : Ow w' B v n l := by
  refine ⟨⟨h.row.1, ?_⟩, h.fit⟩
  rcases h.row.2 with hn | ⟨g, cap, cur, rfl, hb, hg, rest⟩
  · exact .inl hn
  · refine .inr ⟨g, cap, cur, rfl, hb, ?_, rest⟩
    rw [k.block g (Array.getElem?_eq_some_iff.1 hg).1 (hd g rfl)]
    exact hg
structure Two (w : World) (B : Nat) (va : Value) (na : Nat) (la : List R) (vb : Value) (nb : Nat) (lb : List R) : Prop where
  a : Ow w B va na la
  b : Ow w B vb nb lb
  apart : ∀ k, some k = va.ownBlock → some k ≠ vb.ownBlock
theorem Two.swap {w : World} {B : Nat} {va vb : Value} {na nb : Nat} {la lb : List R} (h : Two w B va na la vb nb lb) : Two w B vb nb lb va na la := ⟨h.b, h.a, fun k e f => h.apart k f e⟩
theorem Two.alloc {w : World} {B : Nat} {va vb : Value} {na nb : Nat} {la lb : List R} (h : Two w B va na la vb nb lb) (o : Obj) : Two (w.alloc o) B va na la vb nb lb := ⟨h.a.alloc o, h.b.alloc o, h.apart⟩
theorem Two.left {w w' : World} {B : Nat} {va vb v' : Value} {na nb n' : Nat} {la lb l' : List R} (h : Two w B va na la vb nb lb) (o : Ow w' B v' n' l') (k : Kept (fun k => some k = va.ownBlock) w w') (at_ : v'.ownBlock = va.ownBlock ∨ v'.ownBlock = some w.heap.size) : Two w' B v' n' l' vb nb lb :=
  ⟨o, h.b.far k (fun g e f => h.apart g f e), fun g e f => by
    rcases at_ with q | q
    · exact h.apart g (by rw [e, q]) f
    · rw [q] at e
      have := (h.b.own g f).2
      injection e with e
      omega⟩
theorem Two.put {w : World} {b : Nat} {va vb : Value} {na nb : Nat} {la lb : List R} (h : Two w (b + 1) va na la vb nb lb) (p : Addr) (hp : p.block = b) (u : Value) : Two (w.setCell p u) (b + 1) va na la vb nb lb := by
  have k : Kept (fun i => i = b) w (w.setCell p u) := Kept.setCell (Kept.refl _ _) (fun _ => hp) u
  exact ⟨h.a.far k (fun g e f => by have := (h.a.own g e).1; omega), h.b.far k (fun g e f => by have := (h.b.own g e).1; omega), h.apart⟩
theorem Bx.put1 {w : World} {b : Nat} {x : R} (h : Bx w b x) (z : Int) : Bx (w.setCell ⟨b, 1, none⟩ (.int .i64 z)) b (x.1, z) := Blk.put h 1 (.int .i64 z)
/-- A round's state. -/
structure Pr (w : World) (b : Nat) (va vb : Value) (na nb : Nat) (s : St) (W : World) : Prop where
  two : Two W (b + 1) va na s.ah vb nb s.be
  box : Bx W b (s.a, s.n)
  kept : Kept Old w W
  own : w.heap.size ≤ b
theorem Pr.alloc {w W : World} {b : Nat} {va vb : Value} {na nb : Nat} {s : St} (h : Pr w b va vb na nb s W) (o : Obj) : Pr w b va vb na nb s (W.alloc o) := ⟨h.two.alloc o, h.box.alloc o, h.kept.alloc o, h.own⟩
theorem Pr.size {w W : World} {b : Nat} {va vb : Value} {na nb : Nat} {s : St} (h : Pr w b va vb na nb s W) : b + 1 ≤ W.heap.size := Blk.lt h.box
theorem Pr.left {w W W' : World} {b : Nat} {va vb v' : Value} {na nb n' : Nat} {s : St} {l' : List R} (h : Pr w b va vb na nb s W) (o : Ow W' (b + 1) v' n' l') (k : Kept (fun k => some k = va.ownBlock) W W') (at_ : v'.ownBlock = va.ownBlock ∨ v'.ownBlock = some W.heap.size) : Pr w b v' vb n' nb ⟨s.a, s.n, l', s.be⟩ W' :=
  ⟨h.two.left o k at_, h.two.a.box k h.box, h.two.a.stepB (Nat.le_trans h.own (Nat.le_succ _)) h.kept k, h.own⟩
theorem Pr.right {w W W' : World} {b : Nat} {va vb v' : Value} {na nb n' : Nat} {s : St} {l' : List R} (h : Pr w b va vb na nb s W) (o : Ow W' (b + 1) v' n' l') (k : Kept (fun k => some k = vb.ownBlock) W W') (at_ : v'.ownBlock = vb.ownBlock ∨ v'.ownBlock = some W.heap.size) : Pr w b va v' na n' ⟨s.a, s.n, s.ah, l'⟩ W' :=
  ⟨(h.two.swap.left o k at_).swap, h.two.b.box k h.box, h.two.b.stepB (Nat.le_trans h.own (Nat.le_succ _)) h.kept k, h.own⟩
theorem Pr.put2 {w W : World} {b : Nat} {va vb : Value} {na nb : Nat} {s : St} (h : Pr w b va vb na nb s W) (y z : Int) : Pr w b va vb na nb ⟨y, z, s.ah, s.be⟩ ((W.setCell ⟨b, 0, none⟩ (.int .i64 y)).setCell ⟨b, 1, none⟩ (.int .i64 z)) :=
  ⟨(h.two.put _ rfl _).put _ rfl _, h.box.put2 y z, Bx.kept2 h.kept h.own _ _, h.own⟩
theorem Pr.put1 {w W : World} {b : Nat} {va vb : Value} {na nb : Nat} {s : St} (h : Pr w b va vb na nb s W) (z : Int) : Pr w b va vb na nb ⟨s.a, z, s.ah, s.be⟩ (W.setCell ⟨b, 1, none⟩ (.int .i64 z)) :=
  ⟨h.two.put _ rfl _, h.box.put1 z, h.kept.setCell (p := ⟨b, 1, none⟩) (fun e => absurd e (Nat.not_lt.2 h.own)) _, h.own⟩

theorem rput_ways (r : R) : (decide (r.2 < 1) = true ∧ True) ∨ (¬ r.2 < 1 ∧ r.1 < 0) ∨ (¬ r.2 < 1 ∧ ¬ r.1 < 0 ∧ 256 < r.1) ∨ (¬ r.2 < 1 ∧ ¬ r.1 < 0 ∧ ¬ 256 < r.1 ∧ 256 - r.1 < r.2) ∨ liesB r 256 = true := by
  unfold liesB
  simp only [decide_eq_true_eq, and_true]
  omega
theorem rput_bad (A : Option Addr) (n c : Nat) (r : R) (w : World) (hb : liesB r 256 = false) : Calls Try.prog 41 #[.slice A n c, run r] w fun e w' => e = .returned (.tuple #[.slice none 0 0, .int .i64 1]) ∧ Kept Old w w' := by
  rcases rput_ways r with ⟨d, _⟩ | ⟨d1, d2⟩ | ⟨d1, d2, d3⟩ | ⟨d1, d2, d3, d4⟩ | d
  · have d := of_decide_eq_true d
    clear hb
    go_enter Try.func41, Try.ntmps41
    go_wp2
    go_ret2
    exact ⟨rfl, (Kept.refl _ _).alloc _⟩
  · clear hb
    go_enter Try.func41, Try.ntmps41
    go_wp2
    go_ret2
    exact ⟨rfl, (Kept.refl _ _).alloc _⟩
  · clear hb
    go_enter Try.func41, Try.ntmps41
    go_wp2
    go_ret2
    exact ⟨rfl, (Kept.refl _ _).alloc _⟩
  · clear hb
    go_enter Try.func41, Try.ntmps41
    go_wp2
    go_ret2
    exact ⟨rfl, (Kept.refl _ _).alloc _⟩
  · rw [hb] at d; cases d
theorem free_snoc {l : List R} {a n : Int} {k : Nat} {x : R} (h : ∀ y ∈ l.take k, y.1 + y.2 ≤ a ∨ a + n ≤ y.1) (hx : l[k]? = some x) (c : x.1 + x.2 ≤ a ∨ a + n ≤ x.1) : ∀ y ∈ l.take (k + 1), y.1 + y.2 ≤ a ∨ a + n ≤ y.1 := by
  intro y hy
  rw [take_snoc hx] at hy
  rcases List.mem_append.1 hy with hy | hy
  · exact h y hy
  · obtain rfl := List.mem_singleton.1 hy; exact c
set_option maxHeartbeats 4000000 in
theorem rput_twice (A : Option Addr) (n c : Nat) (l : List R) (r : R) (w : World) (h : Rs w A n l) (hr : Right 256 0 l) (hn : n ≤ 900) (h0 : 0 ≤ r.1) (h1 : 1 ≤ r.2) (h2 : r.1 + r.2 ≤ 256) (hf : freeB l r.1 r.2 = false) : Calls Try.prog 41 #[.slice A n c, run r] w fun e w' => e = .returned (.tuple #[.slice none 0 0, .int .i64 4]) ∧ Kept Old w w' := by
  have HR := Lib.hid h
  have HT := Lib.hid hr
  have hf := Lib.hid hf
  clear h hr
  have q1 : r.1 ≤ 256 := by omega
  have q2 : r.2 ≤ 256 - r.1 := by omega
  go_enter Try.func41, Try.ntmps41
  go_wp2_with fail
  have K0 := Lib.hid ((Kept.refl Old w).alloc (.cells #[.int .i64 r.1, .int .i64 r.2] 63))
  have B0 := Lib.hid (Bx.new w r)
  generalize hb : w.heap.size = b at *
  go_loopw [6] (fun j wr => ∃ k : Nat, k ≤ n ∧ j = .int .i64 (k : Int) ∧ Hid (∀ y ∈ l.take k, y.1 + y.2 ≤ r.1 ∨ r.1 + r.2 ≤ y.1) ∧ Hid (Bx wr b r) ∧ Hid (Kept Old w wr)) (fun j _ => n - (intOf j).toNat)
  case atStart => exact ⟨0, by omega, rfl, Lib.hid (fun y hy => by simp at hy), B0, K0⟩
  case round =>
    obtain ⟨k, hk, rfl, HL, B, K⟩ := hrel
    rename World => W
    clear B0 K0
    by_cases c : k < n
    · obtain ⟨g, o, x, rfl, _, hx, f1, f2, c0, c1⟩ := (HR.out.old K.out).get c
      have bx := HT.out.at hx
      have r0 := B.out.c0
      have r1 := B.out.c1
      have hx := Lib.hid hx
      go_wp2_with fail
      go_still_tail 14, (by kernel_rfl)
      change wpList _ _ _ _ _ W.drew
      clear r0 r1 c0 c1
      go_wp2_with fail
      by_cases d : x.1 + x.2 ≤ r.1 ∨ r.1 + r.2 ≤ x.1
      · refine (over_no x r _ bx.1 bx.2.1 bx.2.2 h0 h1 h2 d).mono ?_
        rintro e w1 ⟨rfl, k1⟩
        have L := Lib.hid (free_snoc HL.out hx.out d)
        clear d
        go_wp2
        refine ⟨⟨k + 1, by omega, by go_num, L, Lib.hid (B.out.drew.old k1), Lib.hid (K.out.drew.trans k1)⟩, ?_⟩
        simp [intOf]; omega
      · refine (over_yes x r _ bx.1 bx.2.1 bx.2.2 h0 h1 h2 (by omega) (by omega)).mono ?_
        rintro e w1 ⟨rfl, k1⟩
        go_wp2
        go_ret2
        exact ⟨rfl, K.out.drew.trans k1⟩
    · exfalso
      have q := free_of HL.out
      rw [List.take_of_length_le (by have := HR.out.len; omega), hf.out] at q
      cases q
end Go.Proofs.Ytdolchlhphoggaa
