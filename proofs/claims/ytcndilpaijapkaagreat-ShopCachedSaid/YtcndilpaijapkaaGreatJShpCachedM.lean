/-
  A stack that goes into a cache is the next one of its worker and its class, and no other worker's. Own work; no program is walked here.
-/
import Derived.Test.YtcndilpaijapkaaGreatRows
import Derived.Test.YtcndilpaijapkaaGreatJShpCapsM
namespace Go.Proofs.YtcndilpaijapkaaGreat.Shp
open Sto
open Go.ChangeShapes Go.WideShapes Go.ChangeAt Go.RowKit
set_option maxRecDepth 100000
section cached
variable {P nw : Nat} {k : K} {ca : Ca} {live : List Lm.S}
theorem words_class {c : Int} (h : 0 ≤ c) (h7 : c ≤ 7) : classI (wordsI c) = c ∧ classB (wordsI c) = true := by
  rcases (show c = 0 ∨ c = 1 ∨ c = 2 ∨ c = 3 ∨ c = 4 ∨ c = 5 ∨ c = 6 ∨ c = 7 by omega) with rfl | rfl | rfl | rfl | rfl | rfl | rfl | rfl <;> decide
theorem Sq.class_at (v : Sq P nw k ca live) {q : Nat} {x : Lm.S} (hx : live[q]? = some x) : Lm.hasB live x.a = true ∧ classAt live x.a = x.n := by
  obtain ⟨hh, hp⟩ := v.val.found hx rfl
  obtain ⟨x', hx', _, en, _⟩ := v.at_ hh
  rw [hp, hx] at hx'
  injection hx' with hx'
  exact ⟨hh, by rw [← en, ← hx']⟩
theorem free_yes {a : Int} (hh : Lm.hasB live a = true) (w : Nat) : (freeW k ca live w a).2.2.2 = 0 := by unfold freeW; rw [if_pos hh]
theorem cached_free (v : Sq P nw k ca live) {q : Nat} {x : Lm.S} (hx : live[q]? = some x) {w c : Nat} (en : x.n = (c : Int)) (c4 : c < 4) (hl : (ca w c).length < 2 * batN c) :
    ∃ a : Nat, x.a = (a : Int) ∧ freeW k ca live w x.a = (k, up ca w c (a :: ca w c), Lm.delL live x.a, 0) := by
  obtain ⟨hh, ec⟩ := v.class_at hx
  obtain ⟨_, _, _, _, _, _, a0, _, _, _⟩ := v.at_ hh
  refine ⟨x.a.toNat, by omega, ?_⟩
  unfold freeW
  rw [if_pos hh, ec, en]
  unfold giveWR
  rw [if_pos (smallB_in (c : Int) (by omega) (by omega)), Int.toNat_natCast]
  unfold giveCR
  rw [if_pos (by omega)]
theorem alloc_other (v : Sq P nw k ca live) {w w' c a : Nat} (hw : w < nw) (hw' : w' < nw) (ne : w' ≠ w) (c4 : c < 4) (ha : a ∈ ca w c) {n : Int} (hn : classB n = true) (hc : classI n = (c : Int)) :
    (allocW P k ca live w' n).2.1 w c = ca w c ∧ ((allocW P k ca live w' n).2.2.2.2 = 0 → (allocW P k ca live w' n).2.2.2.1 ≠ (a : Int)) := by
  refine ⟨allocW_other (fun e => ne e.symm), fun h => ?_⟩
  unfold allocW at h ⊢
  rw [if_pos hn] at h ⊢
  by_cases z : (takeWR P k ca w' (classI n)).2.2.2 = 0
  · rw [if_pos z]
    cases v.tookW hw' hn with
    | no e _ _ _ => omega
    | yes _ i _ _ =>
      intro e
      have e : (takeWR P k ca w' (classI n)).2.2.1 = (a : Int) := e
      have nd := (List.nodup_cons.1 i.nd).1
      refine nd ?_
      rw [e, hc]
      refine List.mem_append.2 (.inl (cache_mem.2 ⟨w, c, a, hw, c4, ?_, rfl, rfl⟩))
      rw [← hc, takeW_other (fun e => ne e.symm)]
      exact ha
  · rw [if_neg z] at h
    simp at h
theorem alloc_same {w c a : Nat} {t : List Nat} (c4 : c < 4) (e : ca w c = a :: t) {n : Int} (hn : classB n = true) (hc : classI n = (c : Int)) :
    allocW P k ca live w n = (k, up ca w c t, Lm.insL live (Lm.newS n (a : Int)), (a : Int), 0) := by
  have T : takeWR P k ca w (c : Int) = (k, up ca w c t, (a : Int), 0) := by
    unfold takeWR
    rw [if_pos (smallB_in (c : Int) (by omega) (by omega)), Int.toNat_natCast, e]
  unfold allocW
  rw [if_pos hn, hc, T]
  rfl
end cached
end Go.Proofs.YtcndilpaijapkaaGreat.Shp
