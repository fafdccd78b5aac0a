/-
  A drawn region whose last operation waits for all others: it may be cut off and done behind them, so that what the others read (a cell that the last one writes) may be held fast. Own work; no program is walked here.
-/
import Derived.Test.YtcndilpaijapkaaGreatRows
import Derived.Deep.RegionHeld
namespace Go.Proofs.YtcndilpaijapkaaGreat
open Go

section
variable {P : Program} {ops : Array Oper} {Q : Exit → Act → World → Prop} {md : Region.Mode}

/-- Edges and guards point back; each operation but the last one is waited for. -/
def lastB (md : Region.Mode) (ops : Array Oper) : Bool :=
  ((List.range ops.size).all fun i => match ops[i]? with
    | none => false
    | some o => (o.after.all fun e => decide (e.on < i)) && (match o.guard with | none => true | some g => decide (g.1 < i))) &&
  ((List.range (ops.size - 1)).all fun i => (List.range ops.size).any fun j => match ops[j]? with
    | none => false
    | some o => o.after.any fun e => Region.binds md e && e.on == i)
structure LastS (md : Region.Mode) (ops : Array Oper) (n : Nat) : Prop where
  size : ops.size = n + 1
  back : ∀ (i : Nat) (o : Oper), ops[i]? = some o → ∀ e ∈ o.after, e.on < i
  guard : ∀ (i : Nat) (o : Oper) (g : Nat) (b : Bool), ops[i]? = some o → o.guard = some (g, b) → g < i
  want : ∀ i : Nat, i < n → ∃ (j : Nat) (o : Oper), ops[j]? = some o ∧ ∃ e ∈ o.after, Region.binds md e = true ∧ e.on = i
theorem lastS {n : Nat} (hn : ops.size = n + 1) (h : lastB md ops = true) : LastS md ops n := by
  unfold lastB at h
  simp only [Bool.and_eq_true, List.all_eq_true, List.mem_range] at h
  obtain ⟨h1, h2⟩ := h
  refine ⟨hn, fun i o ho e he => ?_, fun i o g b ho hg => ?_, fun i hi => ?_⟩
  · have := h1 i (Array.getElem?_eq_some_iff.1 ho).1
    simp only [ho, Bool.and_eq_true] at this
    exact of_decide_eq_true (Array.all_eq_true_iff_forall_mem.1 this.1 e he)
  · have := h1 i (Array.getElem?_eq_some_iff.1 ho).1
    simp only [ho, hg, Bool.and_eq_true, decide_eq_true_eq] at this
    exact this.2
  · have := h2 i (by omega)
    obtain ⟨j, _, hj⟩ := List.any_eq_true.1 this
    cases ho : ops[j]? with
    | none => simp [ho] at hj
    | some o =>
      simp only [ho] at hj
      obtain ⟨e, he, hb⟩ := Array.any_eq_true'.1 hj
      simp only [Bool.and_eq_true, beq_iff_eq] at hb
      exact ⟨j, o, ho, e, he, hb.1, hb.2⟩
/-- The post for all but the last operation. -/
def LastQ (P : Program) (ops : Array Oper) (n : Nat) (Q : Exit → Act → World → Prop) (e : Exit) (a : Act) (w : World) : Prop :=
  match e with
  | .normal => wpOp P ops Q n (fun a w => Q .normal a w) a w
  | e => Q e a w
theorem LastQ.lets {n : Nat} (h : LetsOut (LastQ P ops n Q)) : LetsOut Q := by
  obtain ⟨a, w, h⟩ := h
  exact ⟨a, w, h⟩
theorem LastQ.wp {n : Nat} {o : Oper} {a : Act} {w : World} {K K' : Act → World → Prop} (h : ∀ a w, K a w → K' a w) (hh : o.wp P a w K (LastQ P ops n Q)) : o.wp P a w K' Q := by
  unfold Oper.wp at *
  generalize (execOp a.eval o).run P w = r at *
  cases r with
  | ok n w' =>
    cases n <;> simp only [Oper.upon] at hh ⊢ <;>
      first
        | exact h _ _ hh
        | exact Calls.mono hh (fun e w'' he => by cases e <;> first | exact h _ _ he | exact LastQ.lets he | exact he)
        | exact Rows.mono hh (fun _ _ he => h _ _ he)
  | halt x w' => cases x <;> simp only [Oper.upon] at hh ⊢ <;> exact hh
theorem LastS.pop {n i : Nat} (s : LastS md ops n) (hi : i < n) : ops.pop[i]? = ops[i]? := by
  rw [Array.getElem?_pop, if_pos (by have := s.size; omega)]
theorem LastS.op {n i : Nat} {a : Act} {w : World} {K K' : Act → World → Prop} (s : LastS md ops n) (hi : i < n) (h : ∀ a w, K a w → K' a w) (hh : wpOp P ops.pop (LastQ P ops n Q) i K a w) : wpOp P ops Q i K' a w := by
  unfold wpOp at *
  rw [s.pop hi] at hh
  cases ho : ops[i]? with
  | none => simp only [ho] at hh ⊢; exact h _ _ hh
  | some o =>
    simp only [ho] at hh ⊢
    have e : Region.wanted o (yielded ops.pop a.tmps) = Region.wanted o (yielded ops a.tmps) := by
      unfold Region.wanted
      cases hg : o.guard with
      | none => rfl
      | some gw =>
        obtain ⟨g, b⟩ := gw
        have hlt := s.guard i o g b ho hg
        simp only []
        unfold yielded
        rw [s.pop (by omega)]
    rw [e] at hh
    split
    · rename_i hw
      simp only [hw, if_true] at hh
      exact hh.imp (LastQ.wp h) (fun x => ⟨x.1, LastQ.lets x.2⟩)
    · rename_i hw
      simp only [hw] at hh
      exact h _ _ hh
/-- What is listed has all listed that it waits for. -/
def Closed (md : Region.Mode) (ops : Array Oper) (L : Array Bool) : Prop := ∀ (j : Nat) (o : Oper), L.getD j false = true → ops[j]? = some o → ∀ e ∈ o.after, Region.binds md e = true → L.getD e.on false = true
theorem getD_push {L : Array Bool} {i : Nat} {d : Bool} (h : i < L.size) : (L.push false).getD i d = L.getD i d := by
  simp [Array.getElem?_push_lt h, Array.getElem?_eq_getElem h]
theorem LastS.ready {n i : Nat} {L : Array Bool} (s : LastS md ops n) (hL : L.size = n) (hi : i < n) : i ∈ Region.ready md ops.pop L ↔ i ∈ Region.ready md ops (L.push false) := by
  rw [mem_ready, mem_ready, s.pop hi, getD_push (by omega)]
  refine and_congr Iff.rfl ⟨?_, ?_⟩
  · rintro ⟨o, ho, h⟩
    exact ⟨o, ho, fun e he hb => by rw [getD_push (by have := s.back i o ho e he; omega)]; exact h e he hb⟩
  · rintro ⟨o, ho, h⟩
    exact ⟨o, ho, fun e he hb => by have := h e he hb; rwa [getD_push (by have := s.back i o ho e he; omega)] at this⟩
theorem getD_flip {L : Array Bool} {i : Nat} (h : i < L.size) : L.getD i true = L.getD i false := by
  simp [Array.getElem?_eq_getElem h]
/-- None is left to come up: all are listed. -/
theorem LastS.all {n : Nat} {L : Array Bool} (s : LastS md ops n) (hL : L.size = n) (h : Region.ready md ops.pop L = []) : ∀ k i, i < k → i < n → L.getD i false = true := by
  intro k
  induction k with
  | zero => intro i hi; omega
  | succ k ih =>
    intro i hi hn
    cases hx : L.getD i false with
    | true => rfl
    | false =>
      obtain ⟨o, ho⟩ : ∃ o, ops[i]? = some o := ⟨_, Array.getElem?_eq_getElem (by have := s.size; omega)⟩
      have : i ∈ Region.ready md ops.pop L := mem_ready.2 ⟨by rw [getD_flip (by omega)]; exact hx, o, by rw [s.pop hn]; exact ho, fun e he _ => by
        have := s.back i o ho e he
        exact ih e.on (by omega) (by omega)⟩
      rw [h] at this
      cases this
theorem LastS.end {n : Nat} {L : Array Bool} (s : LastS md ops n) (hL : L.size = n) (hc : Closed md ops L) (h : n ∈ Region.ready md ops (L.push false)) : ∀ k i, n < i + k → i < n → L.getD i false = true := by
  obtain ⟨_, z, hz, hall⟩ := mem_ready.1 h
  intro k
  induction k with
  | zero => intro i hi hn; omega
  | succ k ih =>
    intro i hi hn
    obtain ⟨j, o, ho, e, he, hb, rfl⟩ := s.want i hn
    have hj := s.back j o ho e he
    have hs := s.size
    have hlt := (Array.getElem?_eq_some_iff.1 ho).1
    by_cases hjn : j = n
    · subst hjn
      rw [hz] at ho
      obtain rfl := Option.some.inj ho
      have := hall e he hb
      rwa [getD_push (by omega)] at this
    · exact hc j o (ih j (by omega) (by omega)) ho e he hb
theorem push_set {L : Array Bool} {i : Nat} (h : i < L.size) : (L.setIfInBounds i true).push false = (L.push false).setIfInBounds i true := by
  obtain ⟨l⟩ := L
  have h : i < l.length := h
  simp [h]
theorem wpAny_last {n : Nat} (s : LastS md ops n) : ∀ (fuel : Nat) (L : Array Bool) (a : Act) (w : World), L.size = n → Closed md ops L →
    wpAny P md ops.pop (LastQ P ops n Q) fuel L a w → wpAny P md ops Q (fuel + 1) (L.push false) a w := by
  have hend : ∀ (fuel : Nat) (L : Array Bool) (a : Act) (w : World), L.size = n → Region.ready md ops.pop L = [] → LastQ P ops n Q .normal a w → wpAny P md ops Q (fuel + 1) (L.push false) a w := by
    intro fuel L a w hL hr hq
    have hall := s.all hL hr n
    have hs := s.size
    obtain ⟨z, hz⟩ : ∃ z, ops[n]? = some z := ⟨_, Array.getElem?_eq_getElem (by omega)⟩
    have hn : n ∈ Region.ready md ops (L.push false) := mem_ready.2 ⟨by subst hL; simp, z, hz, fun e he _ => by
      have := s.back n z hz e he
      rw [getD_push (by omega)]
      exact hall e.on this this⟩
    refine ⟨fun h0 => (by rw [h0] at hn; cases hn), fun i hi => ?_⟩
    obtain ⟨h1, o, ho, _⟩ := mem_ready.1 hi
    have hlt := (Array.getElem?_eq_some_iff.1 ho).1
    have hin : i = n := by
      rcases Nat.lt_or_ge i n with h | h
      · rw [getD_push (by omega), getD_flip (by omega), hall i h h] at h1
        cases h1
      · omega
    subst hin
    refine wpOp_mono (fun a w hq => wpAny_done ?_ hq fuel) hq
    refine List.eq_nil_iff_forall_not_mem.2 fun j hj => ?_
    obtain ⟨h1, o', ho', _⟩ := mem_ready.1 hj
    have hlt' := (Array.getElem?_eq_some_iff.1 ho').1
    by_cases hji : i = j
    · subst hji
      subst hL
      simp at h1
    · rw [getD_set_ne true hji, getD_push (by omega), getD_flip (by omega), hall j (by omega) (by omega)] at h1
      cases h1
  intro fuel
  induction fuel with
  | zero => intro L a w hL _ h; exact hend 0 L a w hL h.1 h.2
  | succ f ih =>
    intro L a w hL hc h
    by_cases hr : Region.ready md ops.pop L = []
    · exact hend _ L a w hL hr (h.1 hr)
    · have hs := s.size
      refine ⟨fun h0 => absurd (List.eq_nil_iff_forall_not_mem.2 fun i hi => ?_) hr, fun i hi => ?_⟩
      · have hlt : i < n := by
          obtain ⟨_, o, ho, _⟩ := mem_ready.1 hi
          have := (Array.getElem?_eq_some_iff.1 ho).1
          simp at this
          omega
        have := (s.ready hL hlt).1 hi
        rw [h0] at this
        cases this
      · obtain ⟨_, o, ho, hall⟩ := mem_ready.1 hi
        have hlt := (Array.getElem?_eq_some_iff.1 ho).1
        by_cases hin : i = n
        · subst hin
          refine absurd (List.eq_nil_iff_forall_not_mem.2 fun j hj => ?_) hr
          obtain ⟨h1, o', ho', _⟩ := mem_ready.1 hj
          have hlt' := (Array.getElem?_eq_some_iff.1 ho').1
          simp at hlt'
          rw [getD_flip (by omega), s.end hL hc hi (i + 1) j (by omega) (by omega)] at h1
          cases h1
        · have hil : i < n := by omega
          refine s.op hil (fun a w hw => ?_) (h.2 i ((s.ready hL hil).2 hi))
          rw [← push_set (by omega)]
          refine ih _ a w (by simpa using hL) (fun j o' hj ho' e he hb => ?_) hw
          by_cases hji : i = j
          · subst hji
            rw [ho] at ho'
            obtain rfl := Option.some.inj ho'
            have := hall e he hb
            have hb' := s.back i o ho e he
            rw [getD_push (by omega)] at this
            exact getD_set_true this
          · rw [getD_set_ne false hji] at hj
            exact getD_set_true (hc j o' hj ho' e he hb)
/-- A region whose last operation is cut off; all others hold S. -/
theorem wp_region_last {id : Nat} {a : Act} {w : World} (n : Nat) (S : World → Prop) (hm : P.follows .mixedOrders = true) (hn : ops.size = n + 1) (hb : lastB .any ops = true) (hS : S w.drew)
    (h : S w.drew → wpAnyH P .any ops.pop (LastQ P ops n Q) S n (Array.replicate n false) a w.drew) : (Code.region id ops true).wp P Q a w := by
  refine wp_region_any hm ?_
  have := wpAny_last (P := P) (Q := Q) (lastS hn hb) n (Array.replicate n false) a w.drew (by simp) (fun j o hj => by
    exfalso
    rcases Nat.lt_or_ge j n with h | h <;> simp [h] at hj) (wpAny_of_held _ _ _ _ (h hS))
  rw [hn]
  have e : Array.replicate (n + 1) false = (Array.replicate n false).push false := by rw [Array.replicate_succ]
  rw [e]
  exact this
end
end Go.Proofs.YtcndilpaijapkaaGreat
