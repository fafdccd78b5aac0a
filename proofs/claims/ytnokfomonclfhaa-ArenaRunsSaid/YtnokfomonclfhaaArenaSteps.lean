/-
  append onto an empty list, and copy, as steps of a region that draws its order. Own work; no program is walked here.
-/
import Derived.Test.YtnokfomonclfhaaRows
import Derived.Test.YtnokfomonclfhaaArenaRef
import Derived.Maps.AppendAt
import Derived.Deep.RegionLaw
import Derived.OwnWalk
namespace Go.Proofs.Ytnokfomonclfhaa
open Go.ChangeShapes Go.WideShapes Go.ChangeAt Go.RowKit
/-- append(list, words...) where the list is empty and the call's own: a list of just these words. -/
theorem app_run (w : World) (b : Nat) (ad : Addr) (n c : Nat) (xs : List Nat) (hb : Blk w b 29 []) (hr : Rd w (some ad) n xs) (hn : n ≤ 16384) :
    ∃ sp cap w', (Builtin.append_ #[24, 24] 24 #[.slice (some ⟨b, 0, none⟩) 0 0, .slice (some ad) n c]).run Try.prog w = .ok (.slice sp n cap) w' ∧ Rd w' sp n xs ∧ Kept (Only b) w w' := by
  obtain ⟨i0, hi, hz0, hz1, hz2⟩ := info_parts uint_info
  have own : w.ownsRow 0 29 1 (.slice (some ⟨b, 0, none⟩) 0 0) 0 [] := ⟨rfl, .inr ⟨b, 0, #[], rfl, Nat.zero_le _, hb, Nat.le_refl _, Nat.zero_le _, rfl, rfl⟩⟩
  have hnews : ∀ j u, (U xs)[j]? = some u → w.cell? (ad.add j) = some u := by
    intro j u hu
    by_cases h0 : 0 < n
    · obtain ⟨g, o, e, _, hc⟩ := hr.lies h0
      injection e with e
      subst e
      rw [U_get] at hu
      obtain ⟨x, hx, rfl⟩ := Option.map_eq_some_iff.1 hu
      rw [addr_add]
      exact hc j x hx
    · have := hr.len
      rw [U_get, List.getElem?_eq_none (by omega)] at hu
      cases hu
  obtain ⟨v, w', hrun, ho, hg, _, _⟩ := run_append_own_at (P := Try.prog) w 0 24 24 29 i0 _ 1 8 Try.underlying24 hi hz0 hz1 hz2 rfl (by omega) _ 0 [] own ad n c (U xs) (by rw [U_length, hr.len, Nat.mul_one]) hnews (U_one xs) (by simp only [maxLen]; omega) (by omega) (Nat.zero_le _)
  rw [Nat.zero_add, List.nil_append] at ho
  have K : Kept (Only b) w w' := Kept.grown (Kept.refl _ _) hg (fun g e _ => by injection e with e; exact e.symm)
  rcases ho.2 with ⟨rfl, h0⟩ | ⟨g, cap, cur, rfl, _, hh, _, _, _, ht⟩
  · subst h0
    exact ⟨none, 0, w', hrun, ⟨hr.len, hr.fit, fun h => absurd h (by omega)⟩, K⟩
  · refine ⟨_, cap, w', hrun, ⟨hr.len, hr.fit, fun _ => ⟨g, 0, rfl, ?_, fun i x hx => ?_⟩⟩, K⟩
    · rcases Nat.lt_or_ge g w'.heap.size with c | c
      · exact c
      · rw [Array.getElem?_eq_none c] at hh; cases hh
    · rw [cell_of_row w' g (0 + i) cur 29 (0, 0) hh, Nat.zero_add]
      have hi := get_lt hx
      have e : (cur.toList.take (n * 1))[i]? = (U xs)[i]? := by rw [ht]
      rw [List.getElem?_take, if_pos (by have := hr.len; omega), U_get, hx] at e
      simpa using e
theorem step_app {ops : Array Oper} {o : Oper} {a : Act} {w : World} {K : Act → World → Prop} {Q : Exit → Act → World → Prop} {E : Prop} (hgd : o.guard = none) (s x : Operand)
    (ho : o.op = .call { callee := .builtin .append, args := #[s, x], argTypes := #[24, 24] }) (hty : o.type = 24) (b : Nat) (ad : Addr) (n c : Nat) (xs : List Nat)
    (hs : a.eval s = .slice (some ⟨b, 0, none⟩) 0 0) (hx : a.eval x = .slice (some ad) n c) (hb : Blk w b 29 []) (hr : Rd w (some ad) n xs) (hn : n ≤ 16384)
    (h : ∀ sp cap w', Hid (Rd w' sp n xs) → Hid (Kept (Only b) w w') → K (a.put o.dst (.slice sp n cap)) w') :
    if Region.wanted o (yielded ops a.tmps) = true then Oper.wp Try.prog o a w K Q else E := by
  have hw : Region.wanted o (yielded ops a.tmps) = true := by simp [Region.wanted, hgd]
  rw [if_pos hw]
  obtain ⟨sp, cap, w', hrun, r, k⟩ := app_run w b ad n c xs hb hr hn
  unfold Oper.wp
  simp [execOp, ho, resolve, invoke, builtin, hs, hx, hty, hrun, Result.andThen]
  exact h sp cap w' r k
theorem Rd.cells {w : World} {A : Option Addr} {n : Nat} {xs : List Nat} (h : Rd w A n xs) (hn : 0 < n) : ∃ ad, A = some ad ∧ ∀ j v, (U xs)[j]? = some v → w.cell? (ad.add j) = some v := by
  obtain ⟨g, o, rfl, _, c⟩ := h.lies hn
  refine ⟨_, rfl, fun j v hv => ?_⟩
  rw [U_get] at hv
  obtain ⟨x, hx, rfl⟩ := Option.map_eq_some_iff.1 hv
  rw [addr_add]
  exact c j x hx
theorem step_cp {ops : Array Oper} {o : Oper} {a : Act} {w : World} {K : Act → World → Prop} {Q : Exit → Act → World → Prop} {E : Prop} (hgd : o.guard = none) (d s : Operand)
    (ho : o.op = .call { callee := .builtin .copy, args := #[d, s], argTypes := #[24, 24] }) (hty : o.type = 3) (dp sp : Option Addr) (n dc sc g off : Nat) (ws xs : List Nat)
    (hd : a.eval d = .slice dp n dc) (hs : a.eval s = .slice sp n sc) (hg : Row w g ws) (hr : Rd w sp n xs) (hfit : off + n ≤ ws.length) (hdp : 0 < n → dp = some ⟨g, off, none⟩)
    (h : ∀ w', Hid (Row w' g (copyL ws off xs)) → Hid (Kept (Only g) w w') → K (a.put o.dst (.int .i64 (n : Int))) w') :
    if Region.wanted o (yielded ops a.tmps) = true then Oper.wp Try.prog o a w K Q else E := by
  have hw : Region.wanted o (yielded ops a.tmps) = true := by simp [Region.wanted, hgd]
  rw [if_pos hw]
  obtain ⟨w', hrun, r, k⟩ := copy_run w off hg dp sp n dc sc hr.len hr.fit hfit hdp hr.cells
  unfold Oper.wp
  simp [execOp, ho, resolve, invoke, builtin, hd, hs, hty, hrun, Result.andThen]
  exact h w' r k
end Go.Proofs.Ytnokfomonclfhaa
