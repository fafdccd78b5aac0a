/-
  Facts on lists of spans that the laws of layer 10 turn on, and a pool beside a list of integers that grows (Tk). Own work.
-/
import Derived.Test.YtcaongcpfepcjaaRows
import Derived.Test.YtcaongcpfepcjaaPoolSt
namespace Go.Proofs.Ytcaongcpfepcjaa.Prt
open Go.ChangeShapes Go.WideShapes Go.ChangeAt Go.RowKit

/-- Take's ways, by the free stacks. -/
theorem take_ways (L : List Q) : (freeL L = [] ∧ takeA L = 0 ∧ takeC L = 2 ∧ takeL L = L) ∨ ∃ k p b r, (∀ x ∈ L.take k, x.free = []) ∧ L[k]? = some (⟨p, b :: r⟩ : Q) ∧ takeA L = (b : Nat) ∧ takeC L = 0 ∧ takeL L = L.set k ⟨p, r⟩ ∧ (freeL L)[0]? = some b := by
  rcases takeQ_ways L with ⟨e, h⟩ | ⟨k, p, b, r, h1, h2, e⟩
  · refine .inl ⟨?_, by unfold takeA; rw [e], by unfold takeC; rw [e], by unfold takeL; rw [e]⟩
    unfold freeL
    exact List.flatMap_eq_nil_iff.2 h
  · refine .inr ⟨k, p, b, r, h1, h2, by unfold takeA; rw [e], by unfold takeC; rw [e], by unfold takeL; rw [e], ?_⟩
    have e0 : freeL (L.take k) = [] := by unfold freeL; exact List.flatMap_eq_nil_iff.2 h1
    have e1 : freeL L = freeL (L.take k) ++ freeL (L.drop k) := by unfold freeL; rw [← List.flatMap_append, List.take_append_drop]
    rw [e1, e0, List.nil_append, drop_at h2]
    rfl
theorem take_page {L : List Q} {x : Q} (h : x ∈ takeL L) : ∃ y ∈ L, y.page = x.page := by
  rcases take_ways L with ⟨_, _, _, e⟩ | ⟨k, p, b, r, _, hk, _, _, e, _⟩
  · rw [e] at h; exact ⟨x, h, rfl⟩
  · rw [e] at h
    rcases mem_set h with ⟨rfl, _⟩ | ⟨j, _, hj⟩
    · exact ⟨_, List.mem_of_getElem? hk, rfl⟩
    · exact ⟨x, List.mem_of_getElem? hj, rfl⟩
theorem put_page {c : Nat} {L : List Q} {a : Int} {x : Q} (h : x ∈ putL c L a) : ∃ y ∈ L, y.page = x.page := by
  unfold putL at h
  rcases findQ_ways (c := c) (a := a) L with ⟨_, hx⟩ | ⟨k, y, h1, h2, h3, _⟩
  · rw [putR_none hx] at h; exact ⟨x, h, rfl⟩
  · rw [putR_at h1 h2 h3] at h
    split at h
    · exact ⟨x, h, rfl⟩
    · split at h
      · rcases List.mem_append.1 h with h | h
        · exact ⟨x, List.mem_of_mem_take h, rfl⟩
        · exact ⟨x, List.mem_of_mem_drop h, rfl⟩
      · rcases mem_set h with ⟨rfl, _⟩ | ⟨j, _, hj⟩
        · exact ⟨_, List.mem_of_getElem? h2, rfl⟩
        · exact ⟨x, List.mem_of_getElem? hj, rfl⟩
theorem add_page {P c : Nat} {L : List Q} {q : Int} {x : Q} (h : x ∈ addL P c L q) : x ∈ L ∨ (x = ⟨q.toNat, allQ c q.toNat⟩ ∧ 0 ≤ q) := by
  unfold addL at h
  split at h
  · exact .inl h
  · split at h
    · exact .inl h
    · rcases List.mem_append.1 h with h | h
      · exact .inl (List.mem_of_mem_take h)
      · rcases List.mem_cons.1 h with h | h
        · exact .inr ⟨h, by omega⟩
        · exact .inl (List.mem_of_mem_drop h)
/-- All spans begin at a multiple of eight pages. -/
def Mul8 (L : List Q) : Prop := ∀ x ∈ L, x.page % 8 = 0
theorem Mul8.take {L : List Q} (h : Mul8 L) : Mul8 (takeL L) := fun x hx => by
  obtain ⟨y, hy, e⟩ := take_page hx
  rw [← e]; exact h y hy
theorem Mul8.put {c : Nat} {L : List Q} (h : Mul8 L) (a : Int) : Mul8 (putL c L a) := fun x hx => by
  obtain ⟨y, hy, e⟩ := put_page hx
  rw [← e]; exact h y hy
theorem Mul8.add {P c : Nat} {L : List Q} (h : Mul8 L) (k : Nat) : Mul8 (addL P c L (8 * (k : Int))) := fun x hx => by
  rcases add_page hx with hx | ⟨rfl, _⟩
  · exact h x hx
  · show (8 * (k : Int)).toNat % 8 = 0
    omega
theorem NI_get0 {l : List Nat} {b : Nat} (h : l[0]? = some b) : (NI l)[0]? = some (b : Int) := by rw [NI_get, h]; rfl

/-! ### A pool beside a list that grows -/
abbrev OwnB (v : Value) (b : Nat) : Prop := v.ownBlock = some b
structure Tk (w W : World) (p a g P c : Nat) (L : List Q) (v : Value) (l : List Int) : Prop where
  st : StP w W p a g P c L (OwnB v)
  tk : OwI W w.heap.size v l.length l
theorem Tk.kept {w W : World} {p a g P c : Nat} {L : List Q} {v : Value} {l : List Int} (h : Tk w W p a g P c L v l) : Kept Old w W := h.st.kept
theorem Tk.start {w W : World} {p a g P c : Nat} {L : List Q} {F : Nat → Prop} (h : StP w W p a g P c L F) : Tk w W p a g P c L (.slice none 0 0) [] :=
  ⟨h.more (Kept.refl _ _) (fun b e => by cases e), OwI.nil _ _⟩
theorem Tk.old {w W W' : World} {p a g P c : Nat} {L : List Q} {v : Value} {l : List Int} (h : Tk w W p a g P c L v l) (k : Kept Old W W') : Tk w W' p a g P c L v l := ⟨h.st.old k, h.tk.old k⟩
theorem Tk.turn {w W W' : World} {p a g P c : Nat} {L L' : List Q} {v : Value} {l : List Int} (h : Tk w W p a g P c L v l) (s : StP w W' p a g P c L' (OwnB v)) (k : Kept (Fr (OwnB v)) W W') : Tk w W' p a g P c L' v l := ⟨s, h.tk.kept k (fun _ e z => z e)⟩
/-- Behind an append. -/
theorem Tk.app {w W W' : World} {p a g P c : Nat} {L : List Q} {v v' : Value} {l l' : List Int} (h : Tk w W p a g P c L v l) (o : OwI W' w.heap.size v' l'.length l') (k : Kept (fun k => some k = v.ownBlock) W W') (hv : v'.ownBlock = v.ownBlock ∨ v'.ownBlock = some W.heap.size) : Tk w W' p a g P c L v' l' :=
  ⟨h.st.only k (fun b e => ⟨e.symm, (h.tk.own b e).1⟩) (fun b e => by
    have e : v'.ownBlock = some b := e
    have lt := (o.own b e.symm).2
    rcases hv with f | f
    · exact .inl (by show v.ownBlock = some b; rw [← f]; exact e)
    · rw [e] at f
      injection f with f
      exact .inr ⟨by omega, lt⟩), o⟩
theorem OwI.lt_size {w : World} {B : Nat} {v : Value} {n : Nat} {l : List Int} (h : OwI w B v n l) {b : Nat} (e : v.ownBlock = some b) : b < w.heap.size := (h.own b e.symm).2
end Go.Proofs.Ytcaongcpfepcjaa.Prt
