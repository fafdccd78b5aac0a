/-
  Deeds accepted in two goes, as plain lists. Own work; no program is walked here.
-/
import Derived.Test.YtmajgfpfbieakaaModelMath
namespace Go.Proofs.Ytmajgfpfbieakaa.Lm

theorem accM_cons (W : Int) (l : List S) (d : D) (t : List D) : accM W l (d :: t) = if accB W l d then accM W (accL W l d) t else l := rfl
theorem accK_cons (W : Int) (l : List S) (d : D) (t : List D) : accK W l (d :: t) = if accB W l d then accK W (accL W l d) t + 1 else 0 := rfl
theorem accF_cons (W : Int) (l : List S) (d : D) (t : List D) : accF W l (d :: t) = if accB W l d then accF W (accL W l d) t else false := rfl
theorem acc_two (W : Int) : ∀ (ds : List D) (k : Nat) (l : List S), k ≤ ds.length →
    (accF W l (ds.take k) = false ∧ accM W l ds = accM W l (ds.take k) ∧ accK W l ds = accK W l (ds.take k) ∧ accF W l ds = false) ∨
    (accF W l (ds.take k) = true ∧ accK W l (ds.take k) = k ∧ accM W l ds = accM W (accM W l (ds.take k)) (ds.drop k) ∧ accK W l ds = k + accK W (accM W l (ds.take k)) (ds.drop k) ∧ accF W l ds = accF W (accM W l (ds.take k)) (ds.drop k))
  | ds, 0, l, _ => .inr ⟨by simp [accF], by simp [accK], by simp [accM], by simp [accM], by simp [accM]⟩
  | [], k + 1, _, h => by simp at h
  | d :: t, k + 1, l, h => by
    have e1 : (d :: t).take (k + 1) = d :: t.take k := rfl
    have e2 : (d :: t).drop (k + 1) = t.drop k := rfl
    rw [e1, e2]
    simp only [accM_cons, accK_cons, accF_cons]
    cases b : accB W l d with
    | false => exact .inl ⟨rfl, rfl, rfl, rfl⟩
    | true =>
      simp only [if_true]
      rcases acc_two W t k (accL W l d) (by simpa using h) with ⟨f, m, n, g⟩ | ⟨f, n0, m, n, g⟩
      · exact .inl ⟨f, m, by rw [n], g⟩
      · exact .inr ⟨f, by rw [n0], m, by rw [n]; omega, g⟩
end Go.Proofs.Ytmajgfpfbieakaa.Lm
