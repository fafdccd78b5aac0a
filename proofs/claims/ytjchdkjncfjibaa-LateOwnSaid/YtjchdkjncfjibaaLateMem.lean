/-
  A queue (a struct of a bool and a slice of integers) in a block, as an argument, as a result. Own work; no program is walked here.
-/
import Derived.Test.YtjchdkjncfjibaaRows
import Derived.Test.YtjchdkjncfjibaaIntMem
import Derived.Test.YtjchdkjncfjibaaShellInts
namespace Go.Proofs.Ytjchdkjncfjibaa.Lq
open Go.ChangeShapes Go.WideShapes Go.ChangeAt Go.RowKit Go.Deep

abbrev lt (on : Bool) (A : Option Addr) (n c : Nat) : Value := .agg #[.bool on, .slice A n c]
/-- Block b is a queue's struct. -/
def Bq (w : World) (b : Nat) (on : Bool) (v : Value) : Prop := Blk w b 24 [.bool on, v]
theorem Bq.c0 {w : World} {b : Nat} {on : Bool} {v : Value} (h : Bq w b on v) : w.cell? ⟨b, 0, none⟩ = some (.bool on) := Blk.cell h 0
theorem Bq.c1 {w : World} {b : Nat} {on : Bool} {v : Value} (h : Bq w b on v) : w.cell? ⟨b, 1, none⟩ = some v := Blk.cell h 1
theorem Bq.f0 {w : World} {b : Nat} {on : Bool} {v : Value} (h : Bq w b on v) : w.frozen? ⟨b, 0, none⟩ = false := Blk.frozen h 0
theorem Bq.f1 {w : World} {b : Nat} {on : Bool} {v : Value} (h : Bq w b on v) : w.frozen? ⟨b, 1, none⟩ = false := Blk.frozen h 1
theorem Bq.new (w : World) (on : Bool) (v : Value) : Bq (w.alloc (.cells #[.bool on, v] 24)) w.heap.size on v := Blk.new w _ _
theorem Bq.new2 (w : World) (x y : Obj) (on : Bool) (v : Value) (e : y = .cells #[.bool on, v] 24) : Bq ((w.alloc x).alloc y) (w.heap.size + 1) on v := by
  subst e
  have := Blk.new (w.alloc x) 24 [.bool on, v]
  rwa [show (w.alloc x).heap.size = w.heap.size + 1 by simp] at this
theorem Bq.old {w w' : World} {b : Nat} {on : Bool} {v : Value} (h : Bq w b on v) (k : Kept Old w w') : Bq w' b on v := Blk.kept h k (fun x => x)
theorem Bq.alloc {w : World} {b : Nat} {on : Bool} {v : Value} (h : Bq w b on v) (o : Obj) : Bq (w.alloc o) b on v := Blk.alloc h o
theorem Bq.drew {w : World} {b : Nat} {on : Bool} {v : Value} (h : Bq w b on v) : Bq w.drew b on v := h
theorem Bq.put2 {w : World} {b : Nat} {on : Bool} {v : Value} (h : Bq w b on v) (x y : Value) : Blk ((w.setCell ⟨b, 0, none⟩ x).setCell ⟨b, 1, none⟩ y) b 24 [x, y] := (Blk.put h 0 x).put 1 y
theorem put2_kept (w : World) (b : Nat) (x y : Value) : Kept (Only b) w ((w.setCell ⟨b, 0, none⟩ x).setCell ⟨b, 1, none⟩ y) := (only_setCell w b 0 x).trans (only_setCell _ b 1 y)

/-- A list that was made outlives stores into a block of the caller's own. -/
theorem _root_.Go.Proofs.Ytjchdkjncfjibaa.MadeI.put {L : List Int} {w W1 w2 V : World} {v : Value} {b : Nat} (h : MadeI L W1 v w2) (k : Kept Old w W1) (hb : w.heap.size ≤ b) (hb1 : b < W1.heap.size) (kv : Kept (Only b) w2 V) : MadeI L w v V := by
  obtain ⟨A, n, c, h1, r, h2, h3, K⟩ := h
  refine ⟨A, n, c, h1, r.kept kv (fun ad e q => ?_), h2, ⟨h3.1, fun ad e => Nat.le_trans k.size (h3.2 ad e)⟩, (k.trans K).join kv (fun i hi e => ?_)⟩
  · have q : ad.block = b := q
    have := h3.2 ad e
    omega
  · have e : i = b := e
    omega
theorem _root_.Go.Proofs.Ytjchdkjncfjibaa.MadeI.kept {L : List Int} {w w' : World} {v : Value} (h : MadeI L w v w') : Kept Old w w' := by
  obtain ⟨_, _, _, _, _, _, _, K⟩ := h
  exact K
theorem _root_.Go.Proofs.Ytjchdkjncfjibaa.MadeI.form {L : List Int} {w w' : World} {v : Value} (h : MadeI L w v w') : ∃ A n c, v = .slice A n c := by
  obtain ⟨A, n, c, h1, _⟩ := h
  exact ⟨A, n, c, h1⟩
theorem _root_.Go.Proofs.Ytjchdkjncfjibaa.MadeI.from {L : List Int} {w w1 w2 : World} {v : Value} (h : MadeI L w1 v w2) (k : Kept Old w w1) : MadeI L w v w2 := by
  obtain ⟨A, n, c, h1, r, h2, h3, K⟩ := h
  exact ⟨A, n, c, h1, r, h2, ⟨h3.1, fun ad e => Nat.le_trans k.size (h3.2 ad e)⟩, k.trans K⟩
theorem _root_.Go.Proofs.Ytjchdkjncfjibaa.MadeI.old {L : List Int} {w w1 w2 : World} {v : Value} (h : MadeI L w v w1) (k : Kept Old w1 w2) : MadeI L w v w2 := by
  obtain ⟨A, n, c, h1, r, h2, h3, K⟩ := h
  exact ⟨A, n, c, h1, r.old k, h2, h3, K.trans k⟩
theorem _root_.Go.Proofs.Ytjchdkjncfjibaa.MadeI.of_nil {w w' : World} (k : Kept Old w w') : MadeI [] w (.slice none 0 0) w' := ⟨none, 0, 0, rfl, RsI.nil _ _, Nat.le_refl _, ⟨fun _ => rfl, fun _ h => by cases h⟩, k⟩
/-- The end of a function whose first result is a queue. -/
theorem Bq.end2 {w w1 w' : World} {b : Nat} {on : Bool} {u : Value} {L : List Int} {v : Value} (z : Bq w' b on u) (M : MadeI L w1 v w') (k : Kept Old w w1) (hb : w.heap.size ≤ b) (hb1 : b < w1.heap.size) (x : Bool) :
    ∃ W, (w'.setCell ⟨b, 0, none⟩ (.bool x)).setCell ⟨b, 1, none⟩ v = W ∧ W.cell? ⟨b, 0, none⟩ = some (.bool x) ∧ W.cell? ⟨b, 1, none⟩ = some v ∧ MadeI L w v W :=
  ⟨_, rfl, (z.put2 _ _).cell 0, (z.put2 _ _).cell 1, M.put k hb hb1 (put2_kept _ _ _ _)⟩
/-- The same where the queue is the zero one. -/
theorem Bq.end0 {w w' : World} {b : Nat} {on : Bool} {u : Value} (z : Bq w' b on u) (k : Kept Old w w') (hb : w.heap.size ≤ b) :
    ∃ W, (w'.setCell ⟨b, 0, none⟩ (.bool false)).setCell ⟨b, 1, none⟩ (.slice none 0 0) = W ∧ W.cell? ⟨b, 0, none⟩ = some (.bool false) ∧ W.cell? ⟨b, 1, none⟩ = some (.slice none 0 0) ∧ MadeI [] w (.slice none 0 0) W :=
  ⟨_, rfl, (z.put2 _ _).cell 0, (z.put2 _ _).cell 1, MadeI.of_nil (k.join (put2_kept _ _ _ _) (fun i hi e => by have e : i = b := e; omega))⟩

def SetPost (on : Bool) (L : List Int) (w : World) (e : Ending) (w' : World) : Prop := ∃ v, e = .returned (.agg #[.bool on, v]) ∧ MadeI L w v w'
def PutPost (on : Bool) (L : List Int) (C : Int) (w : World) (e : Ending) (w' : World) : Prop := ∃ v, e = .returned (.tuple #[.agg #[.bool on, v], .int .i64 C]) ∧ MadeI L w v w'
def NextPost (on : Bool) (L : List Int) (x : Int) (K : Bool) (w : World) (e : Ending) (w' : World) : Prop := ∃ v, e = .returned (.tuple #[.agg #[.bool on, v], .int .i64 x, .bool K]) ∧ MadeI L w v w'

end Go.Proofs.Ytjchdkjncfjibaa.Lq
