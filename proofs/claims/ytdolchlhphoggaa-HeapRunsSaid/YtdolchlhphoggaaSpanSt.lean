/-
  A table among other blocks (StS), and each call of package span in one contract. Own work.
-/
import Derived.Test.YtdolchlhphoggaaRows
import Derived.Test.YtdolchlhphoggaaSpanCalls
import Derived.Test.YtdolchlhphoggaaSpanOf
import Derived.Test.YtdolchlhphoggaaSpanRem
import Derived.Test.YtdolchlhphoggaaSpanAdd
import Derived.Test.YtdolchlhphoggaaSpanAddMid
import Derived.Test.YtdolchlhphoggaaSpanApp
namespace Go.Proofs.Ytdolchlhphoggaa
open Go.ChangeShapes Go.WideShapes Go.ChangeAt Go.RowKit
set_option maxRecDepth 100000

/-- All but the blocks of F may turn. -/
abbrev Fr (F : Nat → Prop) (k : Nat) : Prop := ¬ F k
/-- A table at p, of P pages, whose spans are l; its blocks are new since w0, and none of F's; F's are there. -/
def StS (w0 W : World) (p : Nat) (P : Int) (l : List S) (F : Nat → Prop) : Prop := ∃ v, Tb W w0.heap.size p v P l ∧ Good P l ∧ (0 ≤ P ∧ P ≤ 256) ∧ Kept Old w0 W ∧ ∀ b, F b → b ≠ p ∧ v.ownBlock ≠ some b ∧ b < W.heap.size
theorem StS.good {w0 W : World} {p : Nat} {P : Int} {l : List S} {F : Nat → Prop} (h : StS w0 W p P l F) : Good P l := by obtain ⟨v, _, g, _⟩ := h; exact g
theorem StS.kept {w0 W : World} {p : Nat} {P : Int} {l : List S} {F : Nat → Prop} (h : StS w0 W p P l F) : Kept Old w0 W := by obtain ⟨v, _, _, _, k, _⟩ := h; exact k
theorem StS.len {w0 W : World} {p : Nat} {P : Int} {l : List S} {F : Nat → Prop} (h : StS w0 W p P l F) : l.length ≤ 256 := by
  obtain ⟨v, _, g, hP, _⟩ := h
  have := g.len hP.1
  omega
theorem StS.old {w0 W W' : World} {p : Nat} {P : Int} {l : List S} {F : Nat → Prop} (h : StS w0 W p P l F) (k : Kept Old W W') : StS w0 W' p P l F := by
  obtain ⟨v, T, g, hP, K, f⟩ := h
  exact ⟨v, T.old k, g, hP, K.trans k, fun b hb => ⟨(f b hb).1, (f b hb).2.1, Nat.lt_of_lt_of_le (f b hb).2.2 k.size⟩⟩
theorem StS.less {w0 W : World} {p : Nat} {P : Int} {l : List S} {F G : Nat → Prop} (h : StS w0 W p P l F) (k : ∀ b, G b → F b) : StS w0 W p P l G := by
  obtain ⟨v, T, g, hP, K, f⟩ := h
  exact ⟨v, T, g, hP, K, fun b hb => f b (k b hb)⟩
/-- Blocks that came since are none of the table's. -/
theorem StS.more {w0 W W' : World} {p : Nat} {P : Int} {l : List S} {F G : Nat → Prop} (h : StS w0 W p P l F) (k : Kept Old W W') (hG : ∀ b, G b → F b ∨ (W.heap.size ≤ b ∧ b < W'.heap.size)) : StS w0 W' p P l G := by
  have h' := h.old k
  obtain ⟨v, T, g, hP, K, f⟩ := h
  refine ⟨v, T.old k, g, hP, K.trans k, fun b hb => ?_⟩
  rcases hG b hb with e | ⟨e1, e2⟩
  · exact ⟨(f b e).1, (f b e).2.1, Nat.lt_of_lt_of_le (f b e).2.2 k.size⟩
  · exact ⟨fun e => by have := T.box.lt; omega, fun e => by have := (T.own.own b e.symm).2; omega, e2⟩
/-- What a call that may turn the table leaves. -/
theorem StS.turned {w0 W W' : World} {p : Nat} {P : Int} {l l' : List S} {F : Nat → Prop} {v : Value} (T : Tb W w0.heap.size p v P l) (hP : 0 ≤ P ∧ P ≤ 256) (K : Kept Old w0 W) (f : ∀ b, F b → b ≠ p ∧ v.ownBlock ≠ some b ∧ b < W.heap.size) (g' : Good P l') (h : Chg w0.heap.size p v P l' W W') : StS w0 W' p P l' F ∧ Kept (Fr F) W W' := by
  obtain ⟨v', T', k, ob⟩ := h
  refine ⟨⟨v', T', g', hP, ?_, fun b hb => ⟨(f b hb).1, ?_, Nat.lt_of_lt_of_le (f b hb).2.2 k.size⟩⟩, ?_⟩
  · exact K.join k (fun i hi e => by
      rcases e with e | e
      · have := T.low; omega
      · have := (T.own.own i e).1; omega)
  · rcases ob with e | ⟨g, e, hg⟩
    · rw [e]; exact (f b hb).2.1
    · rw [e]
      intro z
      injection z with z
      have := (f b hb).2.2
      omega
  · exact k.mono fun i e hF => by
      rcases e with e | e
      · exact (f i hF).1 e
      · exact (f i hF).2.1 e.symm
theorem st_new (w0 : World) (P : Int) (F : Nat → Prop) (W : World) (h : 1 ≤ P) (h' : P ≤ 256) (K : Kept Old w0 W) (hF : ∀ b, F b → b < W.heap.size) :
    Calls Try.prog 27 #[.int .i64 P] W fun e W' => ∃ p, e = .returned (ptr p) ∧ StS w0 W' p P [] F ∧ Kept Old W W' := by
  refine (new_yes w0.heap.size P W h h' K.size).mono ?_
  rintro e W' ⟨p, rfl, T, k, hp⟩
  exact ⟨p, rfl, ⟨_, T, Good.nil P, ⟨by omega, h'⟩, K.trans k, fun b hb => ⟨fun e => by have := hF b hb; omega, fun e => (by cases e), Nat.lt_of_lt_of_le (hF b hb) k.size⟩⟩, k⟩
/-- Add's code, and the list behind it. -/
def addC (P : Int) (l : List S) (x : S) : Int := if okB x P = true then (if hitB l x = true then 4 else 0) else 1
def addL (P : Int) (l : List S) (x : S) : List S := if okB x P = true then (if hitB l x = true then l else insL l x) else l
theorem Good.add {P : Int} {l : List S} (g : Good P l) (x : S) : Good P (addL P l x) := by
  unfold addL
  split
  · split
    · exact g
    · rename_i h1 h2
      exact g.ins (ok_of h1) (by simpa using h2)
  · exact g
theorem st_add {w0 W : World} {p : Nat} {P : Int} {l : List S} {F : Nat → Prop} (x : S) (h : StS w0 W p P l F) (f : Fit x) :
    Calls Try.prog 34 #[ptr p, spn x] W fun e W' => e = .returned (.int .i64 (addC P l x)) ∧ StS w0 W' p P (addL P l x) F ∧ Kept (Fr F) W W' := by
  have h0 := h
  obtain ⟨v, T, g, hP, K, hF⟩ := h
  unfold addC addL
  by_cases c : okB x P = true
  · rw [if_pos c, if_pos c]
    by_cases d : hitB l x = true
    · rw [if_pos d, if_pos d]
      refine (add_twice x W T g f hP (ok_of c) d).mono ?_
      rintro e W' ⟨rfl, k⟩
      exact ⟨rfl, h0.old k, k.any⟩
    · rw [if_neg d, if_neg d]
      have d' : hitB l x = false := by simpa using d
      refine (add_ok x W T g f hP (ok_of c) K.size d').mono ?_
      rintro e W' ⟨rfl, k⟩
      have := StS.turned T hP K hF (g.ins (ok_of c) d') k
      exact ⟨rfl, this.1, this.2⟩
  · rw [if_neg c, if_neg c]
    refine (add_arg x W T f hP (by simpa using c)).mono ?_
    rintro e W' ⟨rfl, k⟩
    exact ⟨rfl, h0.old k, k.any⟩
/-- Remove's answers. -/
def remX (l : List S) (q : Int) : S := match begL l q with | some x => x | none => noS
def remC (l : List S) (q : Int) : Int := match begL l q with | some _ => 0 | none => 2
def remL (l : List S) (q : Int) : List S := match begL l q with | some _ => delL l q | none => l
theorem Good.rem {P : Int} {l : List S} (g : Good P l) (q : Int) : Good P (remL l q) := by
  unfold remL
  split
  · exact g.del q
  · exact g
theorem st_rem {w0 W : World} {p : Nat} {P : Int} {l : List S} {F : Nat → Prop} (q : Int) (h : StS w0 W p P l F) :
    Calls Try.prog 36 #[ptr p, .int .i64 q] W fun e W' => e = .returned (.tuple #[spn (remX l q), .int .i64 (remC l q)]) ∧ StS w0 W' p P (remL l q) F ∧ Kept (Fr F) W W' := by
  have h0 := h
  obtain ⟨v, T, g, hP, K, hF⟩ := h
  unfold remX remC remL
  cases c : begL l q with
  | none =>
    refine (rem_no q W T g hP c).mono ?_
    rintro e W' ⟨rfl, k⟩
    exact ⟨rfl, h0.old k, k.any⟩
  | some x =>
    refine (rem_yes q x W T g hP c).mono ?_
    rintro e W' ⟨rfl, k⟩
    have := StS.turned T hP K hF (g.del q) k
    exact ⟨rfl, this.1, this.2⟩
/-- Of's answers. -/
def ofX (l : List S) (q : Int) : S := match ofL l q with | some x => x | none => noS
def ofB (l : List S) (q : Int) : Bool := match ofL l q with | some _ => true | none => false
theorem st_of {w0 W : World} {p : Nat} {P : Int} {l : List S} {F : Nat → Prop} (q : Int) (h : StS w0 W p P l F) :
    Calls Try.prog 32 #[ptr p, .int .i64 q] W fun e W' => e = .returned (.tuple #[spn (ofX l q), .bool (ofB l q)]) ∧ Kept Old W W' := by
  obtain ⟨v, T, g, hP, K, hF⟩ := h
  unfold ofX ofB
  cases c : ofL l q with
  | none => exact tof_no q W T g hP c
  | some x => exact tof_yes q x W T g hP c
theorem st_len {w0 W : World} {p : Nat} {P : Int} {l : List S} {F : Nat → Prop} (h : StS w0 W p P l F) :
    Calls Try.prog 49 #[ptr p] W fun e W' => e = .returned (.int .i64 (l.length : Int)) ∧ W = W' := by
  obtain ⟨v, T, g, hP, K, hF⟩ := h
  exact len_any W T
theorem st_list {w0 W : World} {p : Nat} {P : Int} {l : List S} {F : Nat → Prop} (h : StS w0 W p P l F) :
    Calls Try.prog 37 #[ptr p] W (ListPost l W) := by
  have hl := h.len
  obtain ⟨v, T, g, hP, K, hF⟩ := h
  exact list_any W T (by omega)
/-- What stands in a block of F stays. -/
theorem BxS.fr {W W' : World} {F : Nat → Prop} {b : Nat} {x : S} (h : BxS W b x) (k : Kept (Fr F) W W') (hb : F b) : BxS W' b x := h.kept k (fun e => e hb)
theorem RsS.fr {W W' : World} {F : Nat → Prop} {A : Option Addr} {n : Nat} {l : List S} (h : RsS W A n l) (k : Kept (Fr F) W W') (hb : ∀ ad, A = some ad → F ad.block) : RsS W' A n l := h.kept k (fun ad e z => z (hb ad e))
/-- A store into a block of F that is new since w0. -/
theorem StS.only {w0 W W' : World} {p b : Nat} {P : Int} {l : List S} {F : Nat → Prop} (h : StS w0 W p P l F) (hb : F b) (h0 : w0.heap.size ≤ b) (k : Kept (Only b) W W') : StS w0 W' p P l F := by
  obtain ⟨v, T, g, hP, K, f⟩ := h
  refine ⟨v, T.kept k (fun e => (f b hb).1 (show p = b from e).symm) (fun g hg e => (f b hb).2.1 (by rw [hg, show g = b from e])), g, hP, K.join k (fun i hi e => by have : i = b := e; omega), fun c hc => ⟨(f c hc).1, (f c hc).2.1, Nat.lt_of_lt_of_le (f c hc).2.2 k.size⟩⟩
end Go.Proofs.Ytdolchlhphoggaa
