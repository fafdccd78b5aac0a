/-
  Models by numbers, as the laws make them, as plain lists. Own work; no program is walked here.
-/
import Derived.Test.YtmajgfpfbieakaaModelMath
namespace Go.Proofs.Ytmajgfpfbieakaa.Lm

def makeN (b0 : Int) : Int := 2 ^ (b0 % 13).toNat
def makeA (b1 b2 : Int) : Int := (b1 * 256 + b2) % 512 * 32
def makeS (m : List S) (n a : Int) : List S := if roomB 16384 m n a then insL m (newS n a) else m
def makeF (z : Nat → Int) (len : Nat) : Nat → Nat → List S → List S
  | 0, _, m => m
  | f + 1, k, m => if k + 2 < len ∧ m.length < 60 then makeF z len f (k + 3) (makeS m (makeN (z k)) (makeA (z (k + 1)) (z (k + 2)))) else m
def ownS (z : Nat → Int) (i : Nat) (x : S) : S := ⟨x.a, x.n, z i % 4 - 1⟩
def ownU (z : Nat → Int) (j : Nat) (m : List S) : List S := m.mapIdx fun i x => if i < j then ownS z i x else x
def madeL (z : Nat → Int) (len : Nat) : List S := ownU z (min (makeF z len len 0 []).length len) (makeF z len len 0 [])
theorem ins_len (m : List S) (x : S) : (insL m x).length = m.length + 1 := by
  have := place_le m x.a
  unfold insL
  simp only [List.length_append, List.length_cons, List.length_take, List.length_drop]
  omega
theorem makeS_len {m : List S} {n a : Int} (h : m.length < 60) : (makeS m n a).length ≤ 60 := by
  unfold makeS
  split
  · rw [ins_len]; omega
  · omega
theorem Valid.makeS {m : List S} (v : Valid 16384 m) (n a : Int) : Valid 16384 (makeS m n a) := by
  unfold Lm.makeS
  split
  · exact v.ins (by assumption)
  · exact v
theorem makeF_ok (z : Nat → Int) (len : Nat) : ∀ (f k : Nat) (m : List S), m.length ≤ 60 → Valid 16384 m → (makeF z len f k m).length ≤ 60 ∧ Valid 16384 (makeF z len f k m)
  | 0, _, _, h, v => ⟨h, v⟩
  | f + 1, k, m, h, v => by
    unfold makeF
    split
    · rename_i q
      exact makeF_ok z len f _ _ (makeS_len q.2) (v.makeS _ _)
    · exact ⟨h, v⟩
theorem makeF_go {z : Nat → Int} {len f k : Nat} {m : List S} (h : k + 2 < len) (h1 : m.length < 60) (hf : len ≤ k + f) : ∃ f', f = f' + 1 ∧ len ≤ k + 3 + f' ∧ makeF z len f k m = makeF z len f' (k + 3) (makeS m (makeN (z k)) (makeA (z (k + 1)) (z (k + 2)))) := by
  obtain ⟨f', rfl⟩ : ∃ f', f = f' + 1 := ⟨f - 1, by omega⟩
  exact ⟨f', rfl, by omega, by show (if _ then _ else _) = _; rw [if_pos ⟨h, h1⟩]⟩
theorem makeF_end {z : Nat → Int} {len f k : Nat} {m : List S} (h : ¬ (k + 2 < len ∧ m.length < 60)) : makeF z len f k m = m := by
  cases f with
  | zero => rfl
  | succ f => show (if _ then _ else _) = _; rw [if_neg h]
theorem ownU_get (z : Nat → Int) (j : Nat) (m : List S) (i : Nat) : (ownU z j m)[i]? = m[i]?.map fun x => if i < j then ownS z i x else x := by
  unfold ownU
  rw [List.getElem?_mapIdx]
theorem ownU_len (z : Nat → Int) (j : Nat) (m : List S) : (ownU z j m).length = m.length := by unfold ownU; rw [List.length_mapIdx]
theorem ownU_zero (z : Nat → Int) (m : List S) : ownU z 0 m = m := by
  apply List.ext_getElem?
  intro i
  rw [ownU_get]
  cases m[i]? with
  | none => rfl
  | some x => simp
theorem ownU_at {z : Nat → Int} {j : Nat} {m : List S} {x : S} (h : m[j]? = some x) : (ownU z j m)[j]? = some x := by
  rw [ownU_get, h]
  simp
theorem ownU_step {z : Nat → Int} {j : Nat} {m : List S} {x : S} (h : m[j]? = some x) : (ownU z j m).set j ⟨x.a, x.n, z j % 4 - 1⟩ = ownU z (j + 1) m := by
  apply List.ext_getElem?
  intro i
  have hj := (List.getElem?_eq_some_iff.1 h).1
  rw [List.getElem?_set, ownU_get, ownU_get, ownU_len]
  by_cases e : j = i
  · subst e
    rw [if_pos rfl, if_pos hj, h]
    simp [ownS]
  · rw [if_neg e]
    cases m[i]? with
    | none => rfl
    | some y =>
      simp only [Option.map_some]
      by_cases c : i < j
      · rw [if_pos c, if_pos (by omega)]
      · rw [if_neg c, if_neg (by omega)]
theorem Valid.owned {W : Int} {m : List S} (v : Valid W m) (z : Nat → Int) (j : Nat) (hz : ∀ i, i < j → 0 ≤ z i) : Valid W (ownU z j m) := by
  have key : ∀ (i : Nat) (y : S), (ownU z j m)[i]? = some y → ∃ x : S, m[i]? = some x ∧ y.a = x.a ∧ y.n = x.n ∧ (y.c = x.c ∨ -1 ≤ y.c) := by
    intro i y hy
    rw [ownU_get] at hy
    cases hx : m[i]? with
    | none => rw [hx] at hy; cases hy
    | some x =>
      rw [hx] at hy
      simp only [Option.map_some, Option.some.injEq] at hy
      subst hy
      by_cases c : i < j
      · rw [if_pos c]
        refine ⟨x, rfl, rfl, rfl, .inr ?_⟩
        show -1 ≤ z i % 4 - 1
        have := hz i c
        omega
      · rw [if_neg c]
        exact ⟨x, rfl, rfl, rfl, .inl rfl⟩
  refine ⟨v.w0, v.w1, fun y hy => ?_, fun y hy => ?_, ?_⟩
  · obtain ⟨i, hi⟩ := List.getElem?_of_mem hy
    obtain ⟨x, hx, e1, e2, _⟩ := key i y hi
    rw [e1, e2]
    exact v.each x (List.mem_of_getElem? hx)
  · obtain ⟨i, hi⟩ := List.getElem?_of_mem hy
    obtain ⟨x, hx, _, _, e | e⟩ := key i y hi
    · rw [e]; exact v.own x (List.mem_of_getElem? hx)
    · exact e
  · rw [List.pairwise_iff_getElem]
    intro i k hi hk hik
    obtain ⟨x, hx, a1, a2, _⟩ := key i _ (List.getElem?_eq_getElem hi)
    obtain ⟨y, hy, b1, _, _⟩ := key k _ (List.getElem?_eq_getElem hk)
    have := v.two hx hy hik
    unfold endI at this ⊢
    rw [a1, a2, b1]
    exact this
theorem made_ok (z : Nat → Int) (len : Nat) (hz : ∀ i, i < len → 0 ≤ z i) : (madeL z len).length ≤ 60 ∧ Valid 16384 (madeL z len) := by
  have k := makeF_ok z len len 0 [] (by simp) (Valid.nil (by omega) (by omega))
  exact ⟨by unfold madeL; rw [ownU_len]; exact k.1, k.2.owned z _ (fun i hi => hz i (by omega))⟩
end Go.Proofs.Ytmajgfpfbieakaa.Lm
