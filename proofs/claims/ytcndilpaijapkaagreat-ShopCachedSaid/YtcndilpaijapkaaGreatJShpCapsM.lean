/-
  Caches that a law remembers: what a call of one worker leaves of all other ones' caches; behind a flush its own are empty; a block of lists that read as caches, list by list. Own work; no program is walked here.
-/
import Derived.Test.YtcndilpaijapkaaGreatRows
import Derived.Test.YtcndilpaijapkaaGreatJShpD
namespace Go.Proofs.YtcndilpaijapkaaGreat.Shp
open Sto
open Go.ChangeShapes Go.WideShapes Go.ChangeAt Go.RowKit
set_option maxRecDepth 100000
section caps
variable {w0 W : World} {s P nw : Nat} {k : K} {ca : Ca} {live : List Lm.S}
theorem takeW_other {w w' c : Nat} {cl : Int} (h : w' ≠ w) : (takeWR P k ca w cl).2.1 w' c = ca w' c := by
  unfold takeWR
  by_cases q : smallB cl = true
  · rw [if_pos q]
    cases ca w cl.toNat with
    | nil =>
      simp only
      by_cases z : (takeSR P k cl.toNat).2.2 = 0
      · rw [if_pos z]; exact up_ne _ _ (fun e => h e.1)
      · rw [if_neg z]
    | cons a t => exact up_ne _ _ (fun e => h e.1)
  · rw [if_neg q]
theorem allocW_other {w w' c : Nat} {n : Int} (h : w' ≠ w) : (allocW P k ca live w n).2.1 w' c = ca w' c := by
  unfold allocW
  by_cases q : classB n = true
  · rw [if_pos q]
    by_cases z : (takeWR P k ca w (classI n)).2.2.2 = 0
    · rw [if_pos z]; exact takeW_other h
    · rw [if_neg z]
  · rw [if_neg q]
theorem freeW_other {w w' c : Nat} {a : Int} (h : w' ≠ w) : (freeW k ca live w a).2.1 w' c = ca w' c := by
  unfold freeW
  by_cases q : Lm.hasB live a = true
  · rw [if_pos q]
    unfold giveWR
    by_cases z : smallB (classAt live a) = true
    · rw [if_pos z]; exact up_ne _ _ (fun e => h e.1)
    · rw [if_neg z]
  · rw [if_neg q]
theorem doW_other {a b c w' d : Nat} (h : w' ≠ c % nw) : (doW P nw k ca live a b c).2.1 w' d = ca w' d := by
  unfold doW
  split
  · show (flushR (c % nw) 4 k ca).2 w' d = _
    rw [flush_at, if_neg (fun e => h e.1)]
  · split
    · rfl
    · split
      · exact allocW_other h
      · exact freeW_other h
theorem doW_flush {a b c d : Nat} (h : a % 16 = 14) (hd : d < 4) : (doW P nw k ca live a b c).2.1 (c % nw) d = [] := by
  unfold doW
  rw [if_pos h]
  show (flushR (c % nw) 4 k ca).2 (c % nw) d = _
  rw [flush_at, if_pos ⟨rfl, hd⟩]
/-- The block that a list of one or more reads from. -/
def FV (v : Value) (b : Nat) : Prop := ∃ A n c, v = .slice A n c ∧ FR A n b
theorem made_fv {L : List Int} {W' : World} {v : Value} (h : MadeI L W v W') {b : Nat} (f : FV v b) : W.heap.size ≤ b ∧ b < W'.heap.size := by
  obtain ⟨A, n, c, rfl, r, _, ⟨_, ne⟩, _⟩ := h
  obtain ⟨A', n', c', e, hn, ad, ea, eb⟩ := f
  injection e with e1 e2 e3
  subst e1
  subst e2
  obtain ⟨g, o, eg, hg, _⟩ := r.lies hn
  have := ne ad ea
  rw [ea] at eg
  injection eg with eg
  rw [← eb]
  exact ⟨this, by rw [eg]; exact hg⟩
/-- A block of 24 lists, each of which reads as it should. -/
structure Was (w0 W : World) (x : Nat) (vs : List Value) (f : Nat → List Nat) : Prop where
  box : Blk W x 58 vs
  len : vs.length = 24
  low : w0.heap.size ≤ x
  rd : ∀ i, i < 24 → ∃ A n c, vs[i]? = some (.slice A n c) ∧ RsI W A n (NI (f i)) ∧ ∀ b, FR A n b → b ≠ x
abbrev FW (x : Nat) (vs : List Value) (b : Nat) : Prop := b = x ∨ ∃ v ∈ vs, FV v b
theorem Was.kept {D : Nat → Prop} {W' : World} {x : Nat} {vs : List Value} {f : Nat → List Nat} (h : Was w0 W x vs f) (K : Kept D W W') (d : ∀ b, FW x vs b → ¬ D b) : Was w0 W' x vs f :=
  ⟨h.box.kept K (d x (.inl rfl)), h.len, h.low, fun i hi => by
    obtain ⟨A, n, c, e, r, o⟩ := h.rd i hi
    exact ⟨A, n, c, e, int_fr r K (fun b _ fb => d b (.inr ⟨_, List.mem_of_getElem? e, _, _, _, rfl, fb⟩)), o⟩⟩
theorem Was.old {W' : World} {x : Nat} {vs : List Value} {f : Nat → List Nat} (h : Was w0 W x vs f) (K : Kept Old W W') : Was w0 W' x vs f := h.kept K (fun _ _ z => z)
theorem Was.congr {x : Nat} {vs : List Value} {f g : Nat → List Nat} (h : Was w0 W x vs f) (e : ∀ i, i < 24 → f i = g i) : Was w0 W x vs g := ⟨h.box, h.len, h.low, fun i hi => by rw [← e i hi]; exact h.rd i hi⟩
/-- One list is remembered in place of another. -/
theorem Was.put {x : Nat} {vs : List Value} {f g : Nat → List Nat} (h : Was w0 W x vs f) {j : Nat} {A : Option Addr} {n c : Nat} (hj : j < 24) (r : RsI W A n (NI (g j))) (o : ∀ b, FR A n b → b ≠ x) (e : ∀ i, i < 24 → i ≠ j → f i = g i) :
    Was w0 (W.setCell ⟨x, j, none⟩ (.slice A n c)) x (vs.set j (.slice A n c)) g := by
  have ks : Kept (Only x) W (W.setCell ⟨x, j, none⟩ (.slice A n c)) := only_setCell _ _ _ _
  refine ⟨h.box.put j (.slice A n c), by rw [List.length_set]; exact h.len, h.low, fun i hi => ?_⟩
  by_cases q : i = j
  · subst q
    exact ⟨A, n, c, List.getElem?_set_self (by rw [h.len]; exact hi), int_fr r ks (fun b _ fb z => o b fb z), o⟩
  · obtain ⟨A', n', c', e', r', o'⟩ := h.rd i hi
    rw [e i hi q] at r'
    exact ⟨A', n', c', by rw [List.getElem?_set_ne (fun z => q z.symm)]; exact e', int_fr r' ks (fun b _ fb z => o' b fb z), o'⟩
theorem fw_set {x j : Nat} {vs : List Value} {v : Value} {b : Nat} (h : FW x (vs.set j v) b) : FW x vs b ∨ FV v b := by
  rcases h with h | ⟨u, hu, e⟩
  · exact .inl (.inl h)
  · rcases List.mem_or_eq_of_mem_set hu with q | q
    · exact .inl (.inr ⟨u, q, e⟩)
    · exact .inr (by rw [← q]; exact e)
/-- The shop beside them, when one has been remembered. -/
theorem StM.was {V Z : World} {x j : Nat} {vs : List Value} {v : Value} {L : List Int} {pl : Pl} (m : StM w0 W s P k ca live (FW x vs) pl) (M : MadeI L W v V) (low : w0.heap.size ≤ x) (hZ : V.setCell ⟨x, j, none⟩ v = Z) : ∃ pl', StM w0 Z s P k ca live (FW x (vs.set j v)) pl' ∧ pl'.nw = pl.nw := by
  have KV : Kept Old W V := by obtain ⟨_, _, _, _, _, _, _, k⟩ := M; exact k
  have m1 := m.more (G := fun b => FW x vs b ∨ FV v b) KV (fun b hb => hb.elim .inl (fun f => .inr (made_fv M f)))
  subst hZ
  exact ⟨_, m1.only (G := FW x (vs.set j v)) (only_setCell V x j v) (fun b e _ => by have e : b = x := e; rw [e]; exact ⟨.inl (.inl rfl), low⟩) (fun b hb => .inl (fw_set hb)), rfl⟩
abbrev nils : List Value := List.replicate 24 (.slice none 0 0)
theorem no_fv {v : Value} (h : v ∈ nils) (b : Nat) : ¬ FV v b := by
  obtain rfl := List.eq_of_mem_replicate h
  rintro ⟨A, n, c, e, hn, _⟩
  injection e with _ e
  omega
theorem Was.new (w0 W : World) (h : w0.heap.size ≤ W.heap.size) : Was w0 (W.alloc (.cells nils.toArray 58)) W.heap.size nils (fun _ => []) :=
  ⟨Blk.new W _ nils, List.length_replicate, h, fun i hi => ⟨none, 0, 0, by rw [List.getElem?_replicate, if_pos hi], RsI.nil _ _, fun b hb => absurd hb.1 (by omega)⟩⟩
/-- How far the caches have been told anew. -/
def wf (ca ca' : Ca) (j i : Nat) : List Nat := if i < j then ca' (i / 4) (i % 4) else ca (i / 4) (i % 4)
theorem wf_0 (ca ca' : Ca) (i : Nat) : wf ca ca' 0 i = ca (i / 4) (i % 4) := if_neg (by omega)
theorem wf_next (ca ca' : Ca) {j i : Nat} (h : i ≠ j) : wf ca ca' j i = wf ca ca' (j + 1) i := by
  unfold wf
  by_cases q : i < j
  · rw [if_pos q, if_pos (by omega)]
  · rw [if_neg q, if_neg (by omega)]
theorem wf_at (ca ca' : Ca) (j : Nat) : wf ca ca' (j + 1) j = ca' (j / 4) (j % 4) := if_pos (by omega)
theorem wf_old (ca ca' : Ca) (j : Nat) : wf ca ca' j j = ca (j / 4) (j % 4) := if_neg (by omega)
end caps
end Go.Proofs.YtcndilpaijapkaaGreat.Shp
