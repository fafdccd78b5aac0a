/-
  Chains in a list of words: what a walk tells (walkL), a chain with an end (Ch). Own work; no program is walked here.
-/
import Derived.Test.YtcaongcpfepcjaaRows
namespace Go.Proofs.Ytcaongcpfepcjaa

/-- The addresses from a head on, m at most; none: there are more, or a word is too great. -/
def walkL (ws : List Nat) : Nat → Nat → Option (List Nat)
  | 0, h => if h = 0 then some [] else none
  | m + 1, h => if h = 0 then some [] else
    match ws[h - 1]? with
    | some x => if x ≤ ws.length then (walkL ws m x).map ((h - 1) :: ·) else none
    | none => none
theorem walkL_zero (ws : List Nat) (m : Nat) : walkL ws m 0 = some [] := by cases m <;> rfl
theorem walkL_no (ws : List Nat) (h : Nat) : walkL ws 0 (h + 1) = none := rfl
theorem walkL_succ (ws : List Nat) (m h x : Nat) (hx : ws[h]? = some x) : walkL ws (m + 1) (h + 1) = if x ≤ ws.length then (walkL ws m x).map (h :: ·) else none := by
  show (if h + 1 = 0 then some [] else match ws[h + 1 - 1]? with | some x => if x ≤ ws.length then (walkL ws m x).map ((h + 1 - 1) :: ·) else none | none => none) = _
  rw [if_neg (by omega), Nat.add_sub_cancel, hx]
/-- A head of which a walk tells something. -/
theorem walkL_parts {ws : List Nat} {m h : Nat} {l : List Nat} (e : walkL ws m h = some l) : (h = 0 ∧ l = []) ∨ ∃ a x t m', h = a + 1 ∧ m = m' + 1 ∧ ws[a]? = some x ∧ x ≤ ws.length ∧ walkL ws m' x = some t ∧ l = a :: t := by
  cases h with
  | zero => rw [walkL_zero] at e; exact .inl ⟨rfl, (Option.some.inj e).symm⟩
  | succ a =>
    cases m with
    | zero => rw [walkL_no] at e; cases e
    | succ m =>
      cases hx : ws[a]? with
      | none =>
        have : walkL ws (m + 1) (a + 1) = none := by
          show (if a + 1 = 0 then some [] else match ws[a + 1 - 1]? with | some x => if x ≤ ws.length then (walkL ws m x).map ((a + 1 - 1) :: ·) else none | none => none) = _
          rw [if_neg (by omega), Nat.add_sub_cancel, hx]
        rw [this] at e
        cases e
      | some x =>
        rw [walkL_succ ws m a x hx] at e
        by_cases c : x ≤ ws.length
        · rw [if_pos c] at e
          obtain ⟨t, ht, rfl⟩ := Option.map_eq_some_iff.1 e
          exact .inr ⟨a, x, t, m, rfl, rfl, hx, c, ht, rfl⟩
        · rw [if_neg c] at e
          cases e
theorem walkL_mk {ws : List Nat} {m a x : Nat} {t : List Nat} (hx : ws[a]? = some x) (hl : x ≤ ws.length) (e : walkL ws m x = some t) : walkL ws (m + 1) (a + 1) = some (a :: t) := by
  rw [walkL_succ ws m a x hx, if_pos hl, e]; rfl
theorem walkL_mono {ws : List Nat} : ∀ {l : List Nat} {m m' h : Nat}, walkL ws m h = some l → l.length ≤ m' → walkL ws m' h = some l := by
  intro l
  induction l with
  | nil =>
    intro m m' h e _
    rcases walkL_parts e with ⟨rfl, _⟩ | ⟨a, x, t, m1, _, _, _, _, _, h6⟩
    · exact walkL_zero _ _
    · cases h6
  | cons b l ih =>
    intro m m' h e hm
    rcases walkL_parts e with ⟨_, h2⟩ | ⟨a, x, t, m1, rfl, rfl, hx, hl, ht, h6⟩
    · cases h2
    · obtain ⟨rfl, rfl⟩ := List.cons.inj h6
      cases m' with
      | zero => simp at hm
      | succ m' => exact walkL_mk hx hl (ih ht (by simpa using hm))
theorem walkL_len {ws : List Nat} : ∀ {l : List Nat} {m h : Nat}, walkL ws m h = some l → l.length ≤ m := by
  intro l
  induction l with
  | nil => intros; simp
  | cons b l ih =>
    intro m h e
    rcases walkL_parts e with ⟨_, h2⟩ | ⟨a, x, t, m1, rfl, rfl, hx, hl, ht, h6⟩
    · cases h2
    · obtain ⟨rfl, rfl⟩ := List.cons.inj h6
      have := ih ht
      simp; omega
theorem walkL_one {ws : List Nat} {l l' : List Nat} {m m' h : Nat} (e : walkL ws m h = some l) (e' : walkL ws m' h = some l') : l = l' := by
  have a := walkL_mono (m' := max l.length l'.length) e (by omega)
  have b := walkL_mono (m' := max l.length l'.length) e' (by omega)
  rw [a] at b
  exact Option.some.inj b
theorem walkL_lt {ws : List Nat} : ∀ {l : List Nat} {m h : Nat}, walkL ws m h = some l → ∀ a ∈ l, a < ws.length := by
  intro l
  induction l with
  | nil => intro _ _ _ a h; cases h
  | cons b l ih =>
    intro m h e a ha
    rcases walkL_parts e with ⟨_, h2⟩ | ⟨a', x, t, m1, rfl, rfl, hx, hl, ht, h6⟩
    · cases h2
    · obtain ⟨rfl, rfl⟩ := List.cons.inj h6
      rcases List.mem_cons.1 ha with rfl | ha
      · exact (List.getElem?_eq_some_iff.1 hx).1
      · exact ih ht a ha
theorem walkL_behind {ws : List Nat} : ∀ {p : List Nat} {a : Nat} {t : List Nat} {m h : Nat}, walkL ws m h = some (p ++ a :: t) → ∃ m', walkL ws m' (a + 1) = some (a :: t) := by
  intro p
  induction p with
  | nil =>
    intro a t m h e
    rcases walkL_parts e with ⟨_, h2⟩ | ⟨a', x, t', m1, rfl, rfl, hx, hl, ht, h6⟩
    · cases h2
    · obtain ⟨rfl, rfl⟩ := List.cons.inj h6
      exact ⟨_, e⟩
  | cons b p ih =>
    intro a t m h e
    rcases walkL_parts e with ⟨_, h2⟩ | ⟨a', x, t', m1, rfl, rfl, hx, hl, ht, h6⟩
    · cases h2
    · obtain ⟨rfl, rfl⟩ := List.cons.inj h6
      exact ih ht
theorem walkL_nodup {ws : List Nat} : ∀ {l : List Nat} {m h : Nat}, walkL ws m h = some l → l.Nodup := by
  intro l
  induction l with
  | nil => intros; exact List.nodup_nil
  | cons b l ih =>
    intro m h e
    have e0 := e
    rcases walkL_parts e with ⟨_, h2⟩ | ⟨a, x, t, m1, rfl, rfl, hx, hl, ht, h6⟩
    · cases h2
    · obtain ⟨rfl, rfl⟩ := List.cons.inj h6
      refine List.nodup_cons.2 ⟨fun hm => ?_, ih ht⟩
      obtain ⟨p, q, hpq⟩ := List.append_of_mem hm
      rw [hpq] at ht
      obtain ⟨m', e'⟩ := walkL_behind ht
      have := walkL_one e0 e'
      rw [hpq] at this
      have := congrArg List.length this
      simp at this
      omega
theorem nodup_length : ∀ (n : Nat) (l : List Nat), l.Nodup → (∀ a ∈ l, a < n) → l.length ≤ n := by
  intro n
  induction n with
  | zero => intro l _ h; cases l with | nil => simp | cons a t => have := h a (by simp); omega
  | succ n ih =>
    intro l hd h
    have hd' := hd.erase n
    have := ih (l.erase n) hd' (fun a ha => by
      have ne := (hd.mem_erase_iff).1 ha
      have := h a ne.2
      omega)
    rw [List.length_erase] at this
    split at this <;> omega
/-- A walk as far as there are words is as far as any. -/
theorem walkL_cap (ws : List Nat) (m h : Nat) : walkL ws (min m ws.length) h = walkL ws m h := by
  cases e : walkL ws m h with
  | some l => exact walkL_mono e (by have := walkL_len e; have := nodup_length ws.length l (walkL_nodup e) (walkL_lt e); omega)
  | none =>
    cases f : walkL ws (min m ws.length) h with
    | none => rfl
    | some l => rw [walkL_mono (m' := m) f (by have := walkL_len f; omega)] at e; cases e

/-! ### A chain with an end -/
def Ch (ws : List Nat) : Nat → List Nat → Prop
  | h, [] => h = 0
  | h, a :: t => h = a + 1 ∧ ∃ x, ws[a]? = some x ∧ x ≤ ws.length ∧ Ch ws x t
theorem Ch.nil (ws : List Nat) : Ch ws 0 [] := rfl
theorem Ch.le {ws : List Nat} {h : Nat} {l : List Nat} (c : Ch ws h l) : h ≤ ws.length := by
  cases l with
  | nil => have : h = 0 := c; omega
  | cons a t => obtain ⟨rfl, x, hx, _⟩ := c; exact (List.getElem?_eq_some_iff.1 hx).1
theorem Ch.walk {ws : List Nat} : ∀ {l : List Nat} {h : Nat}, Ch ws h l → ∀ m, walkL ws m h = if l.length ≤ m then some l else none := by
  intro l
  induction l with
  | nil => intro h c m; obtain rfl : h = 0 := c; rw [walkL_zero, if_pos (by simp)]
  | cons a t ih =>
    intro h c m
    obtain ⟨rfl, x, hx, hl, ct⟩ := c
    cases m with
    | zero => rw [walkL_no, if_neg (by simp)]
    | succ m =>
      rw [walkL_succ ws m a x hx, if_pos hl, ih ct m]
      by_cases d : t.length ≤ m
      · rw [if_pos d, if_pos (by simpa using d)]; rfl
      · rw [if_neg d, if_neg (by simpa using d)]; rfl
/-- A word elsewhere does not matter. -/
theorem Ch.far {ws : List Nat} {k y : Nat} : ∀ {l : List Nat} {h : Nat}, Ch ws h l → k ∉ l → Ch (ws.set k y) h l := by
  intro l
  induction l with
  | nil => intro h c _; exact c
  | cons a t ih =>
    intro h c hk
    obtain ⟨rfl, x, hx, hl, ct⟩ := c
    refine ⟨rfl, x, ?_, by rw [List.length_set]; exact hl, ih ct (fun m => hk (List.mem_cons_of_mem _ m))⟩
    rw [List.getElem?_set_ne (fun e => hk (by rw [e]; exact List.mem_cons_self))]
    exact hx
theorem Ch.push {ws : List Nat} {k h : Nat} {l : List Nat} (c : Ch ws h l) (hk : k < ws.length) (hl : k ∉ l) : Ch (ws.set k h) (k + 1) (k :: l) :=
  ⟨rfl, h, by rw [List.getElem?_set_self hk], by rw [List.length_set]; exact c.le, c.far hl⟩
theorem Ch.pop {ws : List Nat} {h a : Nat} {t : List Nat} (c : Ch ws h (a :: t)) : h = a + 1 ∧ ∃ x, ws[a]? = some x ∧ x ≤ ws.length ∧ Ch ws x t := c
/-- A word at the end that is too great is met. -/
theorem Ch.broken {ws : List Nat} {a y : Nat} (hy : ws.length < y) : ∀ {p : List Nat} {h : Nat}, Ch ws h (p ++ [a]) → a ∉ p → ∀ m, walkL (ws.set a y) m h = none := by
  intro p
  induction p with
  | nil =>
    intro h c _ m
    obtain ⟨rfl, x, hx, _⟩ := c
    cases m with
    | zero => rfl
    | succ m => rw [walkL_succ (ws.set a y) m a y (by rw [List.getElem?_set_self (List.getElem?_eq_some_iff.1 hx).1]), if_neg (by rw [List.length_set]; omega)]
  | cons b p ih =>
    intro h c hp m
    obtain ⟨rfl, x, hx, hl, ct⟩ := c
    cases m with
    | zero => rfl
    | succ m =>
      rw [walkL_succ (ws.set a y) m b x (by rw [List.getElem?_set_ne (fun e => hp (by rw [e]; exact List.mem_cons_self))]; exact hx), if_pos (by rw [List.length_set]; exact hl), ih ct (fun q => hp (List.mem_cons_of_mem _ q)) m]
      rfl
end Go.Proofs.Ytcaongcpfepcjaa
