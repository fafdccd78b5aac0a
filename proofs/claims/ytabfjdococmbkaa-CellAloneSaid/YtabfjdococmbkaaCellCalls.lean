/-
  What each function of package cell answers, and the document's own (rickyardref1), of any lock; each leaves all that was there. Own work; each is proved by a walk through the landed text. No conditions but that the numbers are 64-bit integers.
-/
import Derived.Test.YtabfjdococmbkaaRows
import Derived.Test.YtabfjdococmbkaaKept
import Derived.WalkKit
import Derived.ProofKit
import Derived.OpenShut
import Derived.Outline
import Derived.Deep.Light
import Derived.Deep.QuietTactic
import Derived.BigQuiet
import Derived.IntWalk
import Derived.StillTailTactics
import Derived.RegionTactic
import Derived.ChangeAlike
namespace Go.Proofs.Ytabfjdococmbkaa
open Go.ChangeShapes Go.WideShapes Go.ChangeAt Go.RowKit
set_option maxRecDepth 100000

abbrev lock (n t : Int) : Value := .agg #[.int .i64 n, .int .i64 t]
/-- May the lock be? -/
def mayB (n t : Int) : Bool := decide (0 ≤ t ∧ t ≤ n ∧ n ≤ 2305843009213693952)
/-- Is it held? -/
def heldB (n t : Int) : Bool := decide (0 ≤ t ∧ t < n ∧ n ≤ 2305843009213693952)

/-- Block b is a lock. -/
def Box (w : World) (b : Nat) (n t : Int) : Prop := Blk w b 23 [.int .i64 n, .int .i64 t]
theorem Box.c0 {w : World} {b : Nat} {n t : Int} (h : Box w b n t) : w.cell? ⟨b, 0, none⟩ = some (.int .i64 n) := Blk.cell h 0
theorem Box.c1 {w : World} {b : Nat} {n t : Int} (h : Box w b n t) : w.cell? ⟨b, 1, none⟩ = some (.int .i64 t) := Blk.cell h 1
theorem Box.new (w : World) (n t : Int) : Box (w.alloc (.cells #[.int .i64 n, .int .i64 t] 23)) w.heap.size n t := Blk.new w _ _
theorem Box.kept {D : Nat → Prop} {w w' : World} {b : Nat} {n t : Int} (h : Box w b n t) (k : Kept D w w') (hd : ¬ D b) : Box w' b n t := Blk.kept h k hd
theorem Box.old {w w' : World} {b : Nat} {n t : Int} (h : Box w b n t) (k : Kept Old w w') : Box w' b n t := Blk.kept h k (fun x => x)
theorem Box.alloc {w : World} {b : Nat} {n t : Int} (h : Box w b n t) (o : Obj) : Box (w.alloc o) b n t := Blk.alloc h o
theorem Box.put2 {w : World} {b : Nat} {n t : Int} (h : Box w b n t) (x y : Int) : Box ((w.setCell ⟨b, 0, none⟩ (.int .i64 x)).setCell ⟨b, 1, none⟩ (.int .i64 y)) b x y := (Blk.put h 0 (.int .i64 x)).put 1 (.int .i64 y)
theorem Box.kept2 {w w' : World} {b : Nat} (k : Kept Old w w') (hb : w.heap.size ≤ b) (x y : Value) : Kept Old w ((w'.setCell ⟨b, 0, none⟩ x).setCell ⟨b, 1, none⟩ y) :=
  (k.setCell (p := ⟨b, 0, none⟩) (fun h => absurd h (Nat.not_lt.2 hb)) x).setCell (p := ⟨b, 1, none⟩) (fun h => absurd h (Nat.not_lt.2 hb)) y
/-- The end of a function whose first result is a lock. -/
theorem Box.end2 {w w' : World} {b : Nat} {n t : Int} (z : Box w' b n t) (k : Kept Old w w') (hb : w.heap.size ≤ b) (x y : Int) : ∃ W, (w'.setCell ⟨b, 0, none⟩ (.int .i64 x)).setCell ⟨b, 1, none⟩ (.int .i64 y) = W ∧ W.cell? ⟨b, 0, none⟩ = some (.int .i64 x) ∧ W.cell? ⟨b, 1, none⟩ = some (.int .i64 y) ∧ Kept Old w W :=
  ⟨_, rfl, (z.put2 x y).c0, (z.put2 x y).c1, Box.kept2 k hb _ _⟩

theorem may_any (n t : Int) (w : World) : Calls Try.prog 12 #[lock n t] w fun e w' => e = .returned (.bool (mayB n t)) ∧ Kept Old w w' := by
  by_cases c0 : 0 ≤ t
  · by_cases c1 : t ≤ n
    · by_cases c2 : n ≤ 2305843009213693952
      · rw [show mayB n t = true from decide_eq_true ⟨c0, c1, c2⟩]
        go_enter Try.func12, Try.ntmps12
        go_wp2
        go_ret
        exact ⟨rfl, (Kept.refl _ _).alloc _⟩
      · rw [show mayB n t = false from decide_eq_false (by omega)]
        go_enter Try.func12, Try.ntmps12
        go_wp2
        go_ret
        exact ⟨rfl, (Kept.refl _ _).alloc _⟩
    · rw [show mayB n t = false from decide_eq_false (by omega)]
      go_enter Try.func12, Try.ntmps12
      go_wp2
      go_ret
      exact ⟨rfl, (Kept.refl _ _).alloc _⟩
  · rw [show mayB n t = false from decide_eq_false (by omega)]
    go_enter Try.func12, Try.ntmps12
    go_wp2
    go_ret
    exact ⟨rfl, (Kept.refl _ _).alloc _⟩
theorem rmay_any (n t : Int) (w : World) : Calls Try.prog 13 #[lock n t] w fun e w' => e = .returned (.bool (mayB n t)) ∧ Kept Old w w' := by
  by_cases c0 : 0 ≤ t
  · by_cases c1 : t ≤ n
    · by_cases c2 : n ≤ 2305843009213693952
      · rw [show mayB n t = true from decide_eq_true ⟨c0, c1, c2⟩]
        go_enter Try.func13, Try.ntmps13
        go_wp2
        go_ret
        exact ⟨rfl, (Kept.refl _ _).alloc _⟩
      · rw [show mayB n t = false from decide_eq_false (by omega)]
        go_enter Try.func13, Try.ntmps13
        go_wp2
        go_ret
        exact ⟨rfl, (Kept.refl _ _).alloc _⟩
    · rw [show mayB n t = false from decide_eq_false (by omega)]
      go_enter Try.func13, Try.ntmps13
      go_wp2
      go_ret
      exact ⟨rfl, (Kept.refl _ _).alloc _⟩
  · rw [show mayB n t = false from decide_eq_false (by omega)]
    go_enter Try.func13, Try.ntmps13
    go_wp2
    go_ret
    exact ⟨rfl, (Kept.refl _ _).alloc _⟩

def waitN (n t : Int) : Int := bif heldB n t then n - t - 1 else 0
def leaveN (n t : Int) : Int := bif heldB n t then n else 0
def leaveT (n t : Int) : Int := bif heldB n t then t + 1 else 0
def takeB (n t : Int) : Bool := mayB n t && decide (n < 2305843009213693952)
def takeN (n t : Int) : Int := bif takeB n t then n + 1 else 0
def takeT (n t : Int) : Int := bif takeB n t then t else 0
def takeK (n t : Int) : Int := bif takeB n t then n else 0
theorem may_held {n t : Int} : heldB n t = true → mayB n t = true := fun h => by have := of_decide_eq_true h; exact decide_eq_true (by omega)
theorem held_cases (n t : Int) : (mayB n t = false ∧ heldB n t = false ∧ True) ∨ (mayB n t = true ∧ heldB n t = false ∧ decide (t < n) = false) ∨ (mayB n t = true ∧ heldB n t = true ∧ decide (t < n) = true) := by
  unfold mayB heldB
  simp only [decide_eq_false_iff_not, decide_eq_true_eq]
  by_cases c : 0 ≤ t ∧ t ≤ n ∧ n ≤ 2305843009213693952
  · by_cases d : t < n
    · exact .inr (.inr ⟨c, ⟨c.1, d, c.2.2⟩, d⟩)
    · exact .inr (.inl ⟨c, fun x => d x.2.1, d⟩)
  · exact .inl ⟨c, fun x => c ⟨x.1, by omega, x.2.2⟩, trivial⟩
theorem mine_cases (n t k : Int) : (heldB n t = false ∧ (heldB n t && decide (k = t)) = false ∧ True) ∨ (heldB n t = true ∧ (heldB n t && decide (k = t)) = true ∧ (k == t) = true) ∨ (heldB n t = true ∧ (heldB n t && decide (k = t)) = false ∧ (k == t) = false) := by
  by_cases c : k = t
  · subst c; cases heldB n k <;> simp
  · cases heldB n t <;> simp [c]
theorem wait_cases (n t : Int) : (heldB n t = false ∧ waitN n t = 0 ∧ True) ∨ (heldB n t = true ∧ waitN n t = n - t - 1 ∧ 0 ≤ t ∧ t < n ∧ n ≤ 2305843009213693952) := by
  unfold waitN
  cases h : heldB n t
  · exact .inl ⟨rfl, rfl, trivial⟩
  · exact .inr ⟨rfl, rfl, of_decide_eq_true h⟩
theorem leave_cases (n t : Int) : (heldB n t = false ∧ leaveN n t = 0 ∧ leaveT n t = 0 ∧ True) ∨ (heldB n t = true ∧ leaveN n t = n ∧ leaveT n t = t + 1 ∧ 0 ≤ t ∧ t < n ∧ n ≤ 2305843009213693952) := by
  unfold leaveN leaveT
  cases h : heldB n t
  · exact .inl ⟨rfl, rfl, rfl, trivial⟩
  · exact .inr ⟨rfl, rfl, rfl, of_decide_eq_true h⟩
theorem take_cases (n t : Int) : (takeB n t = false ∧ takeN n t = 0 ∧ takeT n t = 0 ∧ takeK n t = 0 ∧ mayB n t = false ∧ True) ∨ (takeB n t = false ∧ takeN n t = 0 ∧ takeT n t = 0 ∧ takeK n t = 0 ∧ mayB n t = true ∧ n = 2305843009213693952) ∨ (takeB n t = true ∧ takeN n t = n + 1 ∧ takeT n t = t ∧ takeK n t = n ∧ mayB n t = true ∧ 0 ≤ t ∧ t ≤ n ∧ n < 2305843009213693952) := by
  unfold takeN takeT takeK takeB
  cases h : mayB n t
  · exact .inl ⟨rfl, rfl, rfl, rfl, rfl, trivial⟩
  · have := of_decide_eq_true h
    by_cases c : n < 2305843009213693952
    · rw [decide_eq_true c]
      exact .inr (.inr ⟨rfl, rfl, rfl, rfl, rfl, by omega, by omega, c⟩)
    · rw [decide_eq_false c]
      exact .inr (.inl ⟨rfl, rfl, rfl, rfl, rfl, by omega⟩)

theorem held_any (n t : Int) (w : World) : Calls Try.prog 16 #[lock n t] w fun e w' => e = .returned (.bool (heldB n t)) ∧ Kept Old w w' := by
  rcases held_cases n t with ⟨hm, hh, c⟩ | ⟨hm, hh, c⟩ | ⟨hm, hh, c⟩
  all_goals
    rw [hh]
    have hm := Lib.hid hm
    clear hh
    go_enter Try.func16, Try.ntmps16
    go_wp2_with fail
    refine (may_any n t _).mono ?_
    rintro e w' ⟨rfl, k⟩
    rw [hm.out]
    have b := (Box.new w n t).old k
    have K := Lib.hid ((Kept.refl Old w).alloc (.cells #[.int .i64 n, .int .i64 t] 23) |>.trans k)
    have h0 := b.c0
    have h1 := b.c1
    clear b k
    go_wp2_with fail
    go_ret
    exact ⟨rfl, K.out⟩

theorem rheld_any (n t : Int) (w : World) : Calls Try.prog 17 #[lock n t] w fun e w' => e = .returned (.bool (heldB n t)) ∧ Kept Old w w' := by
  rcases held_cases n t with ⟨hm, hh, c⟩ | ⟨hm, hh, c⟩ | ⟨hm, hh, c⟩
  all_goals
    rw [hh]
    have hm := Lib.hid hm
    clear hh
    go_enter Try.func17, Try.ntmps17
    go_wp2_with fail
    refine (rmay_any n t _).mono ?_
    rintro e w' ⟨rfl, k⟩
    rw [hm.out]
    have b := (Box.new w n t).old k
    have K := Lib.hid ((Kept.refl Old w).alloc (.cells #[.int .i64 n, .int .i64 t] 23) |>.trans k)
    have h0 := b.c0
    have h1 := b.c1
    clear b k
    go_wp2_with fail
    go_ret
    exact ⟨rfl, K.out⟩

theorem mine_any (n t k : Int) (w : World) : Calls Try.prog 14 #[lock n t, .int .i64 k] w fun e w' => e = .returned (.bool (heldB n t && decide (k = t))) ∧ Kept Old w w' := by
  rcases mine_cases n t k with ⟨hm, hh, c⟩ | ⟨hm, hh, c⟩ | ⟨hm, hh, c⟩
  all_goals
    rw [hh]
    have hm := Lib.hid hm
    clear hh
    go_enter Try.func14, Try.ntmps14
    go_wp2_with fail
    refine (held_any n t _).mono ?_
    rintro e w' ⟨rfl, k⟩
    rw [hm.out]
    have b := (Box.new w n t).old k
    have K := Lib.hid ((Kept.refl Old w).alloc (.cells #[.int .i64 n, .int .i64 t] 23) |>.trans k)
    have h0 := b.c0
    have h1 := b.c1
    clear b k
    go_wp2_with fail
    go_ret
    exact ⟨rfl, K.out⟩

theorem wait_any (n t : Int) (w : World) : Calls Try.prog 18 #[lock n t] w fun e w' => e = .returned (.int .i64 (waitN n t)) ∧ Kept Old w w' := by
  rcases wait_cases n t with ⟨hm, hh, c⟩ | ⟨hm, hh, c⟩
  all_goals
    rw [hh]
    have hm := Lib.hid hm
    clear hh
    try obtain ⟨c0, c1, c2⟩ := c
    go_enter Try.func18, Try.ntmps18
    go_wp2_with fail
    refine (held_any n t _).mono ?_
    rintro e w' ⟨rfl, k⟩
    rw [hm.out]
    have b := (Box.new w n t).old k
    have K := Lib.hid ((Kept.refl Old w).alloc (.cells #[.int .i64 n, .int .i64 t] 23) |>.trans k)
    have h0 := b.c0
    have h1 := b.c1
    clear b k
    go_wp2_with fail
    go_ret
    exact ⟨rfl, K.out⟩

theorem rmine_any (n t k : Int) (w : World) : Calls Try.prog 15 #[lock n t, .int .i64 k] w fun e w' => e = .returned (.bool (heldB n t && decide (k = t))) ∧ Kept Old w w' := by
  rcases mine_cases n t k with ⟨hm, hh, c⟩ | ⟨hm, hh, c⟩ | ⟨hm, hh, c⟩
  all_goals
    rw [hh]
    have hm := Lib.hid hm
    clear hh
    go_enter Try.func15, Try.ntmps15
    go_wp2_with fail
    refine (rheld_any n t _).mono ?_
    rintro e w' ⟨rfl, k⟩
    rw [hm.out]
    have b := (Box.new w n t).old k
    have K := Lib.hid ((Kept.refl Old w).alloc (.cells #[.int .i64 n, .int .i64 t] 23) |>.trans k)
    have h0 := b.c0
    have h1 := b.c1
    clear b k
    go_wp2_with fail
    go_ret
    exact ⟨rfl, K.out⟩

theorem rwait_any (n t : Int) (w : World) : Calls Try.prog 19 #[lock n t] w fun e w' => e = .returned (.int .i64 (waitN n t)) ∧ Kept Old w w' := by
  rcases wait_cases n t with ⟨hm, hh, c⟩ | ⟨hm, hh, c⟩
  all_goals
    rw [hh]
    have hm := Lib.hid hm
    clear hh
    try obtain ⟨c0, c1, c2⟩ := c
    go_enter Try.func19, Try.ntmps19
    go_wp2_with fail
    refine (rheld_any n t _).mono ?_
    rintro e w' ⟨rfl, k⟩
    rw [hm.out]
    have b := (Box.new w n t).old k
    have K := Lib.hid ((Kept.refl Old w).alloc (.cells #[.int .i64 n, .int .i64 t] 23) |>.trans k)
    have h0 := b.c0
    have h1 := b.c1
    clear b k
    go_wp2_with fail
    go_ret
    exact ⟨rfl, K.out⟩

theorem leave_no (n t : Int) (w : World) (hm : heldB n t = false) : Calls Try.prog 10 #[lock n t] w fun e w' => e = .returned (.tuple #[lock 0 0, .bool false]) ∧ Kept Old w w' := by
  have hm := Lib.hid hm
  go_enter Try.func10, Try.ntmps10
  go_wp2_with fail
  refine (held_any n t _).mono ?_
  rintro e w' ⟨rfl, k⟩
  rw [hm.out]
  have b := (Box.new w n t).alloc (.cells #[.int .i64 0, .int .i64 0] 23) |>.old k
  have z : Box w' (w.heap.size + 1) 0 0 := by have z := (Box.new (w.alloc (.cells #[.int .i64 n, .int .i64 t] 23)) 0 0).old k; simpa using z
  have K := Lib.hid (((Kept.refl Old w).alloc (.cells #[.int .i64 n, .int .i64 t] 23)).alloc (.cells #[.int .i64 0, .int .i64 0] 23) |>.trans k)
  have h0 := b.c0
  have h1 := b.c1
  have z0 := z.c0
  have z1 := z.c1
  have f0 := Blk.frozen z 0
  have f1 := Blk.frozen z 1
  have Z := Lib.hid z
  clear b z k
  go_wp2_with fail
  obtain ⟨W, hW, r0, r1, K'⟩ := Box.end2 Z.out K.out (Nat.le_succ _) 0 0
  rw [hW]
  clear hW h0 h1 z0 z1 f0 f1
  exact bodyPost_ret (v := .tuple #[lock 0 0, .bool false]) (by simp [results, Try.results10, go_sem, r0, r1]) rfl ⟨rfl, K'⟩

theorem leave_ok (n t : Int) (w : World) (hm : heldB n t = true) : Calls Try.prog 10 #[lock n t] w fun e w' => e = .returned (.tuple #[lock n (t + 1), .bool true]) ∧ Kept Old w w' := by
  obtain ⟨c0, c1, c2⟩ := of_decide_eq_true hm
  have hm := Lib.hid hm
  go_enter Try.func10, Try.ntmps10
  go_wp2_with fail
  refine (held_any n t _).mono ?_
  rintro e w' ⟨rfl, k⟩
  rw [hm.out]
  have b := (Box.new w n t).alloc (.cells #[.int .i64 0, .int .i64 0] 23) |>.old k
  have z : Box w' (w.heap.size + 1) 0 0 := by have z := (Box.new (w.alloc (.cells #[.int .i64 n, .int .i64 t] 23)) 0 0).old k; simpa using z
  have K := Lib.hid (((Kept.refl Old w).alloc (.cells #[.int .i64 n, .int .i64 t] 23)).alloc (.cells #[.int .i64 0, .int .i64 0] 23) |>.trans k)
  have h0 := b.c0
  have h1 := b.c1
  have z0 := z.c0
  have z1 := z.c1
  have f0 := Blk.frozen z 0
  have f1 := Blk.frozen z 1
  have Z := Lib.hid z
  clear b z k
  go_wp2_with fail
  obtain ⟨W, hW, r0, r1, K'⟩ := Box.end2 Z.out K.out (Nat.le_succ _) n (t + 1)
  rw [hW]
  clear hW h0 h1 z0 z1 f0 f1
  exact bodyPost_ret (v := .tuple #[lock n (t + 1), .bool true]) (by simp [results, Try.results10, go_sem, r0, r1]) rfl ⟨rfl, K'⟩

theorem leave_any (n t : Int) (w : World) : Calls Try.prog 10 #[lock n t] w fun e w' => e = .returned (.tuple #[lock (leaveN n t) (leaveT n t), .bool (heldB n t)]) ∧ Kept Old w w' := by
  rcases leave_cases n t with ⟨hm, h1, h2, c⟩ | ⟨hm, h1, h2, c⟩
  · rw [h1, h2, hm]; exact leave_no n t w hm
  · rw [h1, h2, hm]; exact leave_ok n t w hm

set_option maxHeartbeats 4000000 in
theorem take_not (n t : Int) (w : World) (hm : mayB n t = false) : Calls Try.prog 8 #[lock n t] w fun e w' => e = .returned (.tuple #[lock 0 0, .int .i64 0, .bool false]) ∧ Kept Old w w' := by
  have hm := Lib.hid hm
  go_enter Try.func8, Try.ntmps8
  go_wp2_with fail
  refine (may_any n t _).mono ?_
  rintro e w' ⟨rfl, k⟩
  rw [hm.out]
  have b := (Box.new w n t).alloc (.cells #[.int .i64 0, .int .i64 0] 23) |>.old k
  have z : Box w' (w.heap.size + 1) 0 0 := by have z := (Box.new (w.alloc (.cells #[.int .i64 n, .int .i64 t] 23)) 0 0).old k; simpa using z
  have K := Lib.hid (((Kept.refl Old w).alloc (.cells #[.int .i64 n, .int .i64 t] 23)).alloc (.cells #[.int .i64 0, .int .i64 0] 23) |>.trans k)
  have h0 := b.c0
  have h1 := b.c1
  have z0 := z.c0
  have z1 := z.c1
  have f0 := Blk.frozen z 0
  have f1 := Blk.frozen z 1
  have Z := Lib.hid z
  clear b z k
  go_wp2_with fail
  obtain ⟨W, hW, r0, r1, K'⟩ := Box.end2 Z.out K.out (Nat.le_succ _) 0 0
  rw [hW]
  clear hW h0 h1 z0 z1 f0 f1
  exact bodyPost_ret (v := .tuple #[lock 0 0, .int .i64 0, .bool false]) (by simp [results, Try.results8, go_sem, r0, r1]) rfl ⟨rfl, K'⟩

set_option maxHeartbeats 4000000 in
theorem take_full (n t : Int) (w : World) (hm : mayB n t = true) (hn : n = 2305843009213693952) : Calls Try.prog 8 #[lock n t] w fun e w' => e = .returned (.tuple #[lock 0 0, .int .i64 0, .bool false]) ∧ Kept Old w w' := by
  have c3 : (n == 2305843009213693952) = true := by rw [hn]; rfl
  clear hn
  have hm := Lib.hid hm
  go_enter Try.func8, Try.ntmps8
  go_wp2_with fail
  refine (may_any n t _).mono ?_
  rintro e w' ⟨rfl, k⟩
  rw [hm.out]
  have b := (Box.new w n t).alloc (.cells #[.int .i64 0, .int .i64 0] 23) |>.old k
  have z : Box w' (w.heap.size + 1) 0 0 := by have z := (Box.new (w.alloc (.cells #[.int .i64 n, .int .i64 t] 23)) 0 0).old k; simpa using z
  have K := Lib.hid (((Kept.refl Old w).alloc (.cells #[.int .i64 n, .int .i64 t] 23)).alloc (.cells #[.int .i64 0, .int .i64 0] 23) |>.trans k)
  have h0 := b.c0
  have h1 := b.c1
  have z0 := z.c0
  have z1 := z.c1
  have f0 := Blk.frozen z 0
  have f1 := Blk.frozen z 1
  have Z := Lib.hid z
  clear b z k
  go_wp2_with fail
  obtain ⟨W, hW, r0, r1, K'⟩ := Box.end2 Z.out K.out (Nat.le_succ _) 0 0
  rw [hW]
  clear hW h0 h1 z0 z1 f0 f1
  exact bodyPost_ret (v := .tuple #[lock 0 0, .int .i64 0, .bool false]) (by simp [results, Try.results8, go_sem, r0, r1]) rfl ⟨rfl, K'⟩

set_option maxHeartbeats 4000000 in
theorem take_ok (n t : Int) (w : World) (hm : mayB n t = true) (hn : n < 2305843009213693952) : Calls Try.prog 8 #[lock n t] w fun e w' => e = .returned (.tuple #[lock (n + 1) t, .int .i64 n, .bool true]) ∧ Kept Old w w' := by
  obtain ⟨c0, c1, c2⟩ := of_decide_eq_true hm
  have c3 : (n == 2305843009213693952) = false := beq_false_of_ne (by omega)
  have c4 : IntKind.i64.wrap (n + 1) = n + 1 := IntWalk.i64_in _ (by omega)
  have hm := Lib.hid hm
  go_enter Try.func8, Try.ntmps8
  go_wp2_with fail
  refine (may_any n t _).mono ?_
  rintro e w' ⟨rfl, k⟩
  rw [hm.out]
  have b := (Box.new w n t).alloc (.cells #[.int .i64 0, .int .i64 0] 23) |>.old k
  have z : Box w' (w.heap.size + 1) 0 0 := by have z := (Box.new (w.alloc (.cells #[.int .i64 n, .int .i64 t] 23)) 0 0).old k; simpa using z
  have K := Lib.hid (((Kept.refl Old w).alloc (.cells #[.int .i64 n, .int .i64 t] 23)).alloc (.cells #[.int .i64 0, .int .i64 0] 23) |>.trans k)
  have h0 := b.c0
  have h1 := b.c1
  have z0 := z.c0
  have z1 := z.c1
  have f0 := Blk.frozen z 0
  have f1 := Blk.frozen z 1
  have Z := Lib.hid z
  clear b z k
  go_wp2_with fail
  go_region
  go_wp2_with fail
  obtain ⟨W, hW, r0, r1, K'⟩ := Box.end2 Z.out K.out (Nat.le_succ _) (n + 1) t
  rw [hW]
  clear hW h0 h1 z0 z1 f0 f1
  exact bodyPost_ret (v := .tuple #[lock (n + 1) t, .int .i64 n, .bool true]) (by simp [results, Try.results8, go_sem, r0, r1]) rfl ⟨rfl, K'.drew⟩

theorem take_any (n t : Int) (w : World) : Calls Try.prog 8 #[lock n t] w fun e w' => e = .returned (.tuple #[lock (takeN n t) (takeT n t), .int .i64 (takeK n t), .bool (takeB n t)]) ∧ Kept Old w w' := by
  rcases take_cases n t with ⟨hb, h1, h2, h3, hm, c⟩ | ⟨hb, h1, h2, h3, hm, c⟩ | ⟨hb, h1, h2, h3, hm, c0, c1, c2⟩
  · rw [h1, h2, h3, hb]; exact take_not n t w hm
  · rw [h1, h2, h3, hb]; exact take_full n t w hm c
  · rw [h1, h2, h3, hb]; exact take_ok n t w hm c2

theorem rleave_no (n t : Int) (w : World) (hm : heldB n t = false) : Calls Try.prog 11 #[lock n t] w fun e w' => e = .returned (.tuple #[lock 0 0, .bool false]) ∧ Kept Old w w' := by
  have hm := Lib.hid hm
  go_enter Try.func11, Try.ntmps11
  go_wp2_with fail
  refine (rheld_any n t _).mono ?_
  rintro e w' ⟨rfl, k⟩
  rw [hm.out]
  have b := (Box.new w n t).alloc (.cells #[.int .i64 0, .int .i64 0] 23) |>.old k
  have z : Box w' (w.heap.size + 1) 0 0 := by have z := (Box.new (w.alloc (.cells #[.int .i64 n, .int .i64 t] 23)) 0 0).old k; simpa using z
  have K := Lib.hid (((Kept.refl Old w).alloc (.cells #[.int .i64 n, .int .i64 t] 23)).alloc (.cells #[.int .i64 0, .int .i64 0] 23) |>.trans k)
  have h0 := b.c0
  have h1 := b.c1
  have z0 := z.c0
  have z1 := z.c1
  have f0 := Blk.frozen z 0
  have f1 := Blk.frozen z 1
  have Z := Lib.hid z
  clear b z k
  go_wp2_with fail
  obtain ⟨W, hW, r0, r1, K'⟩ := Box.end2 Z.out K.out (Nat.le_succ _) 0 0
  rw [hW]
  clear hW h0 h1 z0 z1 f0 f1
  exact bodyPost_ret (v := .tuple #[lock 0 0, .bool false]) (by simp [results, Try.results11, go_sem, r0, r1]) rfl ⟨rfl, K'⟩

theorem rleave_ok (n t : Int) (w : World) (hm : heldB n t = true) : Calls Try.prog 11 #[lock n t] w fun e w' => e = .returned (.tuple #[lock n (t + 1), .bool true]) ∧ Kept Old w w' := by
  obtain ⟨c0, c1, c2⟩ := of_decide_eq_true hm
  have hm := Lib.hid hm
  go_enter Try.func11, Try.ntmps11
  go_wp2_with fail
  refine (rheld_any n t _).mono ?_
  rintro e w' ⟨rfl, k⟩
  rw [hm.out]
  have b := (Box.new w n t).alloc (.cells #[.int .i64 0, .int .i64 0] 23) |>.old k
  have z : Box w' (w.heap.size + 1) 0 0 := by have z := (Box.new (w.alloc (.cells #[.int .i64 n, .int .i64 t] 23)) 0 0).old k; simpa using z
  have K := Lib.hid (((Kept.refl Old w).alloc (.cells #[.int .i64 n, .int .i64 t] 23)).alloc (.cells #[.int .i64 0, .int .i64 0] 23) |>.trans k)
  have h0 := b.c0
  have h1 := b.c1
  have z0 := z.c0
  have z1 := z.c1
  have f0 := Blk.frozen z 0
  have f1 := Blk.frozen z 1
  have Z := Lib.hid z
  clear b z k
  go_wp2_with fail
  obtain ⟨W, hW, r0, r1, K'⟩ := Box.end2 Z.out K.out (Nat.le_succ _) n (t + 1)
  rw [hW]
  clear hW h0 h1 z0 z1 f0 f1
  exact bodyPost_ret (v := .tuple #[lock n (t + 1), .bool true]) (by simp [results, Try.results11, go_sem, r0, r1]) rfl ⟨rfl, K'⟩

theorem rleave_any (n t : Int) (w : World) : Calls Try.prog 11 #[lock n t] w fun e w' => e = .returned (.tuple #[lock (leaveN n t) (leaveT n t), .bool (heldB n t)]) ∧ Kept Old w w' := by
  rcases leave_cases n t with ⟨hm, h1, h2, c⟩ | ⟨hm, h1, h2, c⟩
  · rw [h1, h2, hm]; exact rleave_no n t w hm
  · rw [h1, h2, hm]; exact rleave_ok n t w hm

set_option maxHeartbeats 4000000 in
theorem rtake_not (n t : Int) (w : World) (hm : mayB n t = false) : Calls Try.prog 9 #[lock n t] w fun e w' => e = .returned (.tuple #[lock 0 0, .int .i64 0, .bool false]) ∧ Kept Old w w' := by
  have hm := Lib.hid hm
  go_enter Try.func9, Try.ntmps9
  go_wp2_with fail
  refine (rmay_any n t _).mono ?_
  rintro e w' ⟨rfl, k⟩
  rw [hm.out]
  have b := (Box.new w n t).alloc (.cells #[.int .i64 0, .int .i64 0] 23) |>.old k
  have z : Box w' (w.heap.size + 1) 0 0 := by have z := (Box.new (w.alloc (.cells #[.int .i64 n, .int .i64 t] 23)) 0 0).old k; simpa using z
  have K := Lib.hid (((Kept.refl Old w).alloc (.cells #[.int .i64 n, .int .i64 t] 23)).alloc (.cells #[.int .i64 0, .int .i64 0] 23) |>.trans k)
  have h0 := b.c0
  have h1 := b.c1
  have z0 := z.c0
  have z1 := z.c1
  have f0 := Blk.frozen z 0
  have f1 := Blk.frozen z 1
  have Z := Lib.hid z
  clear b z k
  go_wp2_with fail
  obtain ⟨W, hW, r0, r1, K'⟩ := Box.end2 Z.out K.out (Nat.le_succ _) 0 0
  rw [hW]
  clear hW h0 h1 z0 z1 f0 f1
  exact bodyPost_ret (v := .tuple #[lock 0 0, .int .i64 0, .bool false]) (by simp [results, Try.results9, go_sem, r0, r1]) rfl ⟨rfl, K'⟩

set_option maxHeartbeats 4000000 in
theorem rtake_full (n t : Int) (w : World) (hm : mayB n t = true) (hn : n = 2305843009213693952) : Calls Try.prog 9 #[lock n t] w fun e w' => e = .returned (.tuple #[lock 0 0, .int .i64 0, .bool false]) ∧ Kept Old w w' := by
  have c3 : (n == 2305843009213693952) = true := by rw [hn]; rfl
  clear hn
  have hm := Lib.hid hm
  go_enter Try.func9, Try.ntmps9
  go_wp2_with fail
  refine (rmay_any n t _).mono ?_
  rintro e w' ⟨rfl, k⟩
  rw [hm.out]
  have b := (Box.new w n t).alloc (.cells #[.int .i64 0, .int .i64 0] 23) |>.old k
  have z : Box w' (w.heap.size + 1) 0 0 := by have z := (Box.new (w.alloc (.cells #[.int .i64 n, .int .i64 t] 23)) 0 0).old k; simpa using z
  have K := Lib.hid (((Kept.refl Old w).alloc (.cells #[.int .i64 n, .int .i64 t] 23)).alloc (.cells #[.int .i64 0, .int .i64 0] 23) |>.trans k)
  have h0 := b.c0
  have h1 := b.c1
  have z0 := z.c0
  have z1 := z.c1
  have f0 := Blk.frozen z 0
  have f1 := Blk.frozen z 1
  have Z := Lib.hid z
  clear b z k
  go_wp2_with fail
  obtain ⟨W, hW, r0, r1, K'⟩ := Box.end2 Z.out K.out (Nat.le_succ _) 0 0
  rw [hW]
  clear hW h0 h1 z0 z1 f0 f1
  exact bodyPost_ret (v := .tuple #[lock 0 0, .int .i64 0, .bool false]) (by simp [results, Try.results9, go_sem, r0, r1]) rfl ⟨rfl, K'⟩

set_option maxHeartbeats 4000000 in
theorem rtake_ok (n t : Int) (w : World) (hm : mayB n t = true) (hn : n < 2305843009213693952) : Calls Try.prog 9 #[lock n t] w fun e w' => e = .returned (.tuple #[lock (n + 1) t, .int .i64 n, .bool true]) ∧ Kept Old w w' := by
  obtain ⟨c0, c1, c2⟩ := of_decide_eq_true hm
  have c3 : (n == 2305843009213693952) = false := beq_false_of_ne (by omega)
  have c4 : IntKind.i64.wrap (n + 1) = n + 1 := IntWalk.i64_in _ (by omega)
  have hm := Lib.hid hm
  go_enter Try.func9, Try.ntmps9
  go_wp2_with fail
  refine (rmay_any n t _).mono ?_
  rintro e w' ⟨rfl, k⟩
  rw [hm.out]
  have b := (Box.new w n t).alloc (.cells #[.int .i64 0, .int .i64 0] 23) |>.old k
  have z : Box w' (w.heap.size + 1) 0 0 := by have z := (Box.new (w.alloc (.cells #[.int .i64 n, .int .i64 t] 23)) 0 0).old k; simpa using z
  have K := Lib.hid (((Kept.refl Old w).alloc (.cells #[.int .i64 n, .int .i64 t] 23)).alloc (.cells #[.int .i64 0, .int .i64 0] 23) |>.trans k)
  have h0 := b.c0
  have h1 := b.c1
  have z0 := z.c0
  have z1 := z.c1
  have f0 := Blk.frozen z 0
  have f1 := Blk.frozen z 1
  have Z := Lib.hid z
  clear b z k
  go_wp2_with fail
  go_region
  go_wp2_with fail
  obtain ⟨W, hW, r0, r1, K'⟩ := Box.end2 Z.out K.out (Nat.le_succ _) (n + 1) t
  rw [hW]
  clear hW h0 h1 z0 z1 f0 f1
  exact bodyPost_ret (v := .tuple #[lock (n + 1) t, .int .i64 n, .bool true]) (by simp [results, Try.results9, go_sem, r0, r1]) rfl ⟨rfl, K'.drew⟩

theorem rtake_any (n t : Int) (w : World) : Calls Try.prog 9 #[lock n t] w fun e w' => e = .returned (.tuple #[lock (takeN n t) (takeT n t), .int .i64 (takeK n t), .bool (takeB n t)]) ∧ Kept Old w w' := by
  rcases take_cases n t with ⟨hb, h1, h2, h3, hm, c⟩ | ⟨hb, h1, h2, h3, hm, c⟩ | ⟨hb, h1, h2, h3, hm, c0, c1, c2⟩
  · rw [h1, h2, h3, hb]; exact rtake_not n t w hm
  · rw [h1, h2, h3, hb]; exact rtake_full n t w hm c
  · rw [h1, h2, h3, hb]; exact rtake_ok n t w hm c2

theorem swap_ne (a b c : Int) (w : World) (h : (a == b) = false) : Calls Try.prog 21 #[.int .i64 a, .int .i64 b, .int .i64 c] w fun e w' => e = .returned (.tuple #[.int .i64 a, .bool false]) ∧ w = w' := by
  go_enter Try.func21, Try.ntmps21
  go_wp2_with fail
  go_ret2
  exact ⟨rfl, rfl⟩
theorem swap_eq (a c : Int) (w : World) : Calls Try.prog 21 #[.int .i64 a, .int .i64 a, .int .i64 c] w fun e w' => e = .returned (.tuple #[.int .i64 c, .bool true]) ∧ w = w' := by
  go_enter Try.func21, Try.ntmps21
  go_wp2_with fail
  go_ret2
  exact ⟨rfl, rfl⟩

theorem mine_yes {n t : Int} (w : World) (h : heldB n t = true) : Calls Try.prog 14 #[lock n t, .int .i64 t] w fun e w' => e = .returned (.bool true) ∧ Kept Old w w' := by
  have := mine_any n t t w
  rwa [h, decide_eq_true rfl] at this
theorem mine_no {n t k : Int} (w : World) (h : heldB n t = true → k ≠ t) : Calls Try.prog 14 #[lock n t, .int .i64 k] w fun e w' => e = .returned (.bool false) ∧ Kept Old w w' := by
  have := mine_any n t k w
  rwa [show (heldB n t && decide (k = t)) = false by cases e : heldB n t <;> simp [e] at h ⊢; exact h] at this

/-- A new variable, written at once. -/
abbrev laidAt (w : World) (x y : Int) : World := ((w.alloc (.cells #[.int .i64 0, .int .i64 0] 23)).setCell ⟨w.heap.size, 0, none⟩ (.int .i64 x)).setCell ⟨w.heap.size, 1, none⟩ (.int .i64 y)
theorem Box.laid (w : World) (x y : Int) : Box (laidAt w x y) w.heap.size x y := (Box.new w 0 0).put2 x y
theorem laidK (w : World) (x y : Int) : Kept Old w (laidAt w x y) := Box.kept2 ((Kept.refl Old w).alloc _) (Nat.le_refl _) _ _
theorem may00 : mayB 0 0 = true := by decide
theorem held10 : heldB 1 0 = true := by decide
theorem held11 : heldB 1 1 = false := by decide
end Go.Proofs.Ytabfjdococmbkaa
