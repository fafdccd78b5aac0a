/-
  Deeds by numbers, as the laws make them, as plain lists. Own work; no program is walked here.
-/
import Derived.Test.YtmajgfpfbieakaaModelMath
namespace Go.Proofs.Ytmajgfpfbieakaa.Lm

def addrD (m : List S) (b0 b2 : Int) : Int := if b0 % 2 = 1 ∧ 0 < m.length ∧ b0 % 8 ≠ 1 then (m.getD (b2 % (m.length : Int)).toNat ⟨0, 0, 0⟩).a else b2 % 64 * 32
def sizeD (b1 b3 : Int) : Int := b1 * 2 ^ (b3 % 5).toNat
def codeD (W : Int) (m : List S) (b0 n a : Int) : Int := if b0 % 2 = 1 then freeC m a else if roomB W m n a then 0 else if classB n then 3 else 1
def lastC (b0 b3 c : Int) : Int := if 250 ≤ b0 then b3 % 4 else c
def stepD (W : Int) (m : List S) (b0 b1 b2 b3 : Int) : D := ⟨if b0 % 2 = 1 then 2 else 1, sizeD b1 b3, addrD m b0 b2, lastC b0 b3 (codeD W m b0 (sizeD b1 b3) (addrD m b0 b2))⟩
def nextM (W : Int) (m : List S) (b0 n a : Int) : List S := if b0 % 2 = 1 then (if hasB m a then delL m a else m) else (if roomB W m n a then insL m (newS n a) else m)
def stepM (W : Int) (m : List S) (b0 b1 b2 b3 : Int) : List S := nextM W m b0 (sizeD b1 b3) (addrD m b0 b2)
theorem Valid.nextM {W : Int} {m : List S} (v : Valid W m) (b0 n a : Int) : Valid W (nextM W m b0 n a) := by
  unfold Lm.nextM
  split
  · split
    · exact v.del _
    · exact v
  · split
    · exact v.ins (by assumption)
    · exact v
def deedsF (W : Int) (z : Nat → Int) (len : Nat) : Nat → Nat → List S → List D → List D
  | 0, _, _, l => l
  | f + 1, k, m, l => if k + 3 < len ∧ l.length < 100 then deedsF W z len f (k + 4) (stepM W m (z k) (z (k + 1)) (z (k + 2)) (z (k + 3))) (l ++ [stepD W m (z k) (z (k + 1)) (z (k + 2)) (z (k + 3))]) else l
def deedsL (W : Int) (z : Nat → Int) (len : Nat) : List D := deedsF W z len len 0 [] []
theorem deedsF_len (W : Int) (z : Nat → Int) (len : Nat) : ∀ (f k : Nat) (m : List S) (l : List D), l.length ≤ 100 → (deedsF W z len f k m l).length ≤ 100
  | 0, _, _, _, h => h
  | f + 1, k, m, l, h => by
    unfold deedsF
    split
    · exact deedsF_len W z len f _ _ _ (by simp; omega)
    · exact h
theorem deedsL_len (W : Int) (z : Nat → Int) (len : Nat) : (deedsL W z len).length ≤ 100 := deedsF_len W z len len 0 [] [] (Nat.zero_le _)
theorem deedsF_go {W : Int} {z : Nat → Int} {len f k : Nat} {m : List S} {l : List D} (h : k + 3 < len) (h1 : l.length < 100) (hf : len ≤ k + f) : ∃ f', f = f' + 1 ∧ len ≤ k + 4 + f' ∧ deedsF W z len f k m l = deedsF W z len f' (k + 4) (stepM W m (z k) (z (k + 1)) (z (k + 2)) (z (k + 3))) (l ++ [stepD W m (z k) (z (k + 1)) (z (k + 2)) (z (k + 3))]) := by
  obtain ⟨f', rfl⟩ : ∃ f', f = f' + 1 := ⟨f - 1, by omega⟩
  exact ⟨f', rfl, by omega, by show (if _ then _ else _) = _; rw [if_pos ⟨h, h1⟩]⟩
theorem deedsF_end {W : Int} {z : Nat → Int} {len f k : Nat} {m : List S} {l : List D} (h : ¬ (k + 3 < len ∧ l.length < 100)) : deedsF W z len f k m l = l := by
  cases f with
  | zero => rfl
  | succ f => show (if _ then _ else _) = _; rw [if_neg h]
theorem pow_lim (b1 b3 : Int) (h0 : 0 ≤ b1) (h1 : b1 ≤ 255) : 0 ≤ sizeD b1 b3 ∧ sizeD b1 b3 ≤ 4080 := by
  have e : (b3 % 5).toNat = 0 ∨ (b3 % 5).toNat = 1 ∨ (b3 % 5).toNat = 2 ∨ (b3 % 5).toNat = 3 ∨ (b3 % 5).toNat = 4 := by omega
  unfold sizeD
  rcases e with e | e | e | e | e <;> rw [e] <;> simp only [show (2 : Int) ^ 0 = 1 from rfl, show (2 : Int) ^ 1 = 2 from rfl, show (2 : Int) ^ 2 = 4 from rfl, show (2 : Int) ^ 3 = 8 from rfl, show (2 : Int) ^ 4 = 16 from rfl] <;> omega
end Go.Proofs.Ytmajgfpfbieakaa.Lm
