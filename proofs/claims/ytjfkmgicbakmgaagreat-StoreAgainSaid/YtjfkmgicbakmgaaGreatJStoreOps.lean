/-
  What each step makes of the parts of an allocator of stacks, and that it keeps what is so of them at any time. Own work; no program is walked here.
-/
import Derived.Test.YtjfkmgicbakmgaaGreatJStoreMath
namespace Go.Proofs.YtjfkmgicbakmgaaGreat.Sto
open Go.RowKit

theorem mem_cut {α : Type} {l : List α} {i : Nat} {y : α} : y ∈ l.take i ++ l.drop (i + 1) ↔ ∃ j, j ≠ i ∧ l[j]? = some y := by
  rw [List.mem_append]
  constructor
  · rintro (h | h)
    · obtain ⟨j, hj⟩ := List.getElem?_of_mem h
      rw [List.getElem?_take] at hj
      by_cases c : j < i
      · rw [if_pos c] at hj; exact ⟨j, by omega, hj⟩
      · rw [if_neg c] at hj; cases hj
    · obtain ⟨j, hj⟩ := List.getElem?_of_mem h
      rw [List.getElem?_drop] at hj
      exact ⟨_, by omega, hj⟩
  · rintro ⟨j, ne, hj⟩
    by_cases c : j < i
    · exact .inl (List.mem_of_getElem? (i := j) (by rw [List.getElem?_take, if_pos c]; exact hj))
    · exact .inr (List.mem_of_getElem? (i := j - (i + 1)) (by rw [List.getElem?_drop, show i + 1 + (j - (i + 1)) = j by omega]; exact hj))
theorem mem_setq {α : Type} {l : List α} {i : Nat} {v x y : α} (hx : l[i]? = some x) : y ∈ l.set i v ↔ y = v ∨ ∃ j, j ≠ i ∧ l[j]? = some y := by
  have hi := (List.getElem?_eq_some_iff.1 hx).1
  constructor
  · intro h
    obtain ⟨j, hj⟩ := List.getElem?_of_mem h
    rw [List.getElem?_set] at hj
    by_cases e : i = j
    · rw [if_pos e, if_pos hi] at hj; injection hj with hj; exact .inl hj.symm
    · rw [if_neg e] at hj; exact .inr ⟨j, fun q => e q.symm, hj⟩
  · rintro (rfl | ⟨j, ne, hj⟩)
    · exact List.mem_of_getElem? (i := i) (by rw [List.getElem?_set, if_pos rfl, if_pos hi])
    · exact List.mem_of_getElem? (i := j) (by rw [List.getElem?_set, if_neg (fun e => ne e.symm)]; exact hj)
def K.pool (k : K) (c : Nat) (l : List Prt.Q) : K := { k with p := fun d => if d = c then l else k.p d }
theorem K.pool_at (k : K) (c : Nat) (l : List Prt.Q) : (k.pool c l).p c = l := if_pos rfl
theorem K.pool_ne (k : K) {c d : Nat} (l : List Prt.Q) (h : d ≠ c) : (k.pool c l).p d = k.p d := if_neg h
theorem on_no {b : Bool} (h : b = true) (e : b = false) : False := by rw [h] at e; cases e
variable {P : Nat} {k : K} {O : Int → Int → Prop}

theorem Inv.on_ (h : Inv P k O) : Inv P { k with on := true } O := ⟨h.whole, h.good, h.pool, h.some_, h.back, h.bnod, h.right, h.big, (fun e => by cases e), h.outS, h.outL, h.cover, h.stk⟩
theorem Inv.off_ (h : Inv P k O) (h1 : k.back = []) (h2 : k.big = []) (b : Bool) : Inv P { k with on := b } O := ⟨h.whole, h.good, h.pool, h.some_, h.back, h.bnod, h.right, h.big, fun _ => ⟨h1, h2⟩, h.outS, h.outL, h.cover, h.stk⟩
theorem Inv.congr (h : Inv P k O) {O' : Int → Int → Prop} (e : ∀ a c, O' a c ↔ O a c) : Inv P k O' := by
  have : O' = O := by funext a c; exact propext (e a c)
  rw [this]; exact h

/-! ### A span of a pool whose free stacks change -/
theorem Inv.turn (h : Inv P k O) {c : Nat} (hc : c < 4) {i : Nat} {x : Prt.Q} (hx : (k.p c)[i]? = some x) (f : List Nat) (h1 : ∀ a ∈ f, Prt.atB c x.page (a : Int) = true) (h2 : f.Nodup) (h3 : f.length < Prt.perN c) {O' : Int → Int → Prop}
    (hL : ∀ a d, 4 ≤ d → (O' a d ↔ O a d))
    (hS : ∀ a d, d < 4 → O' a d → (d = (c : Int) ∧ Prt.atB c x.page a = true ∧ a.toNat ∉ f) ∨ (O a d ∧ ¬ (d = (c : Int) ∧ Prt.atB c x.page a = true)))
    (hK : ∀ a ∈ Prt.allQ c x.page, a ∈ f ∨ O' (a : Int) (c : Int))
    (hO : ∀ a d, d < 4 → O a d → ¬ (d = (c : Int) ∧ Prt.atB c x.page a = true) → O' a d) :
    Inv P (k.pool c ((k.p c).set i ⟨x.page, f⟩)) O' := by
  have hm := List.mem_of_getElem? hx
  have mem : ∀ d, ∀ y ∈ (k.pool c ((k.p c).set i ⟨x.page, f⟩)).p d, (d = c ∧ y = ⟨x.page, f⟩) ∨ (y ∈ k.p d ∧ (d = c → ∃ j, j ≠ i ∧ (k.p c)[j]? = some y)) := by
    intro d y hy
    by_cases e : d = c
    · subst e
      rw [K.pool_at] at hy
      rcases (mem_setq hx).1 hy with q | ⟨j, ne, hj⟩
      · exact .inl ⟨rfl, q⟩
      · exact .inr ⟨List.mem_of_getElem? hj, fun _ => ⟨j, ne, hj⟩⟩
    · rw [K.pool_ne _ _ e] at hy
      exact .inr ⟨hy, fun q => absurd q e⟩
  have back : ∀ d, ∀ y ∈ k.p d, ∃ y' ∈ (k.pool c ((k.p c).set i ⟨x.page, f⟩)).p d, y'.page = y.page ∧ (y' = y ∨ (d = c ∧ y = x)) := by
    intro d y hy
    by_cases e : d = c
    · subst e
      rw [K.pool_at]
      obtain ⟨j, hj⟩ := List.getElem?_of_mem hy
      by_cases ij : j = i
      · subst ij
        rw [hx] at hj
        injection hj with hj
        exact ⟨⟨x.page, f⟩, (mem_setq hx).2 (.inl rfl), by rw [← hj], .inr ⟨rfl, hj.symm⟩⟩
      · exact ⟨y, (mem_setq hx).2 (.inr ⟨j, ij, hj⟩), rfl, .inl rfl⟩
    · rw [K.pool_ne _ _ e]
      exact ⟨y, hy, rfl, .inl rfl⟩
  have pg : ∀ d, ∀ y ∈ (k.pool c ((k.p c).set i ⟨x.page, f⟩)).p d, ∃ y' ∈ k.p d, y'.page = y.page := by
    intro d y hy
    rcases mem d y hy with ⟨rfl, rfl⟩ | ⟨q, _⟩
    · exact ⟨x, hm, rfl⟩
    · exact ⟨y, q, rfl⟩
  refine ⟨h.whole, fun d hd => ?_, fun d hd y hy => ?_, fun d hd y hy => ?_, fun q hq => ?_, h.bnod, h.right, h.big, h.off, fun a d o d4 => ?_, fun a d o d4 => ?_, fun s hs => ?_, fun d hd y hy a ha => ?_⟩
  · by_cases e : d = c
    · subst e; rw [K.pool_at]; exact (h.good d hd).turn hx f h1 h2
    · rw [K.pool_ne _ _ e]; exact h.good d hd
  · obtain ⟨y', hy', e⟩ := pg d y hy
    rw [← e]; exact h.pool d hd y' hy'
  · rcases mem d y hy with ⟨rfl, rfl⟩ | ⟨q, _⟩
    · exact h3
    · exact h.some_ d hd y q
  · obtain ⟨e, e4, hs, ne⟩ := h.back q hq
    exact ⟨e, e4, hs, fun y hy => by obtain ⟨y', hy', e⟩ := pg _ y hy; rw [← e]; exact ne y' hy'⟩
  · rcases hS a d d4 o with ⟨rfl, q1, q2⟩ | ⟨q1, q2⟩
    · refine ⟨by omega, ⟨x.page, f⟩, ?_, ?_, q2⟩
      · rw [Int.toNat_natCast, K.pool_at]; exact (mem_setq hx).2 (.inl rfl)
      · rw [Int.toNat_natCast]; exact q1
    · obtain ⟨d0, y, hy, at_, nf⟩ := h.outS a d q1 d4
      obtain ⟨y', hy', e, z⟩ := back d.toNat y hy
      rcases z with rfl | ⟨z1, rfl⟩
      · exact ⟨d0, y', hy', at_, nf⟩
      · exact absurd ⟨by omega, by rw [← z1]; exact at_⟩ q2
  · exact h.outL a d ((hL a d d4).1 o) d4
  · rcases h.cover s hs with ⟨c0, c4, n8, q⟩ | ⟨c4, c7, n, q⟩
    · refine .inl ⟨c0, c4, n8, ?_⟩
      rcases q with ⟨y, hy, e⟩ | q
      · obtain ⟨y', hy', e', _⟩ := back _ y hy
        exact .inl ⟨y', hy', by rw [e']; exact e⟩
      · exact .inr q
    · exact .inr ⟨c4, c7, n, q.imp id fun o => (hL _ _ c4).2 o⟩
  · rcases mem d y hy with ⟨rfl, rfl⟩ | ⟨q, z⟩
    · exact hK a ha
    · rcases h.stk d hd y q a ha with m | o
      · exact .inl m
      · refine .inr (hO _ _ (by omega) o fun ⟨e1, e2⟩ => ?_)
        obtain rfl : d = c := by omega
        obtain ⟨j, ne, hj⟩ := z rfl
        have a1 := Prt.allQ_at hd a ha
        have := (h.good d hd).apart hj hx ne
        rw [Prt.at_no a1 this] at e2
        cases e2
/-- A free stack is taken. -/
theorem Inv.take (h : Inv P k O) {c : Nat} (hc : c < 4) {i pg a : Nat} {r : List Nat} (hx : (k.p c)[i]? = some ⟨pg, a :: r⟩) :
    ¬ O (a : Int) (c : Int) ∧ Inv P (k.pool c ((k.p c).set i ⟨pg, r⟩)) fun b d => (b = (a : Int) ∧ d = (c : Int)) ∨ O b d := by
  have hm := List.mem_of_getElem? hx
  have g := h.good c hc
  have nd := List.nodup_cons.1 (g.nod _ hm)
  have at_ : ∀ b ∈ a :: r, Prt.atB c pg (b : Int) = true := g.stks _ hm
  have notO : ∀ b ∈ a :: r, ¬ O (b : Int) (c : Int) := by
    intro b hb o
    obtain ⟨_, y, hy, e1, e2⟩ := h.outS _ _ o (by omega)
    rw [Int.toNat_natCast] at *
    obtain ⟨j, hj⟩ := List.getElem?_of_mem hy
    by_cases ij : j = i
    · subst ij
      rw [hx] at hj
      injection hj with hj
      subst hj
      exact e2 hb
    · have := g.apart hj hx ij
      rw [Prt.at_no (at_ b hb) (show pg + 8 ≤ y.page ∨ y.page + 8 ≤ pg from this.symm)] at e1
      cases e1
  have fw := h.some_ c hc _ hm
  refine ⟨notO a List.mem_cons_self, h.turn hc hx r (fun b hb => at_ b (List.mem_cons_of_mem _ hb)) nd.2 (by simp only [List.length_cons] at fw; omega) (fun b d d4 => ?_) (fun b d d4 o => ?_) (fun b hb => ?_) (fun b d _ o _ => .inr o)⟩
  · exact ⟨fun o => o.resolve_left fun q => by omega, .inr⟩
  · rcases o with ⟨rfl, rfl⟩ | o
    · exact .inl ⟨rfl, at_ a List.mem_cons_self, by rw [Int.toNat_natCast]; exact nd.1⟩
    · by_cases q : d = (c : Int) ∧ Prt.atB c pg b = true
      · obtain ⟨rfl, q⟩ := q
        refine .inl ⟨rfl, q, fun m => notO b.toNat (List.mem_cons_of_mem _ m) ?_⟩
        have := (Prt.at_range q).1
        rw [show ((b.toNat : Nat) : Int) = b by omega]
        exact o
      · exact .inr ⟨o, q⟩
  · rcases h.stk c hc _ hm b hb with m | o
    · rcases List.mem_cons.1 m with rfl | m
      · exact .inr (.inl ⟨rfl, rfl⟩)
      · exact .inl m
    · exact .inr (.inr o)
/-- What is out of a pool: where it lies. -/
theorem Inv.found (h : Inv P k O) {a : Int} {c : Nat} (hc : c < 4) (o : O a (c : Int)) : ∃ (i : Nat) (x : Prt.Q) (m : Nat), a = (m : Int) ∧ (k.p c)[i]? = some x ∧ Prt.atB c x.page (m : Int) = true ∧ m ∉ x.free ∧ (∀ y ∈ (k.p c).take i, Prt.atB c y.page (m : Int) = false) := by
  obtain ⟨_, x, hx, e1, e2⟩ := h.outS _ _ o (by omega)
  rw [Int.toNat_natCast] at *
  have a0 := (Prt.at_range e1).1
  obtain ⟨i, hi⟩ := List.getElem?_of_mem hx
  refine ⟨i, x, a.toNat, by omega, hi, by rw [show ((a.toNat : Nat) : Int) = a by omega]; exact e1, e2, fun y hy => ?_⟩
  obtain ⟨j, hj⟩ := List.getElem?_of_mem hy
  rw [List.getElem?_take] at hj
  by_cases ji : j < i
  · rw [if_pos ji] at hj
    rw [show ((a.toNat : Nat) : Int) = a by omega]
    exact Prt.at_no e1 ((h.good c hc).apart hj hi (by omega)).symm
  · rw [if_neg ji] at hj; cases hj
/-- One is put back, and its span stays. -/
theorem Inv.put (h : Inv P k O) {c : Nat} (hc : c < 4) {i a : Nat} {x : Prt.Q} (hx : (k.p c)[i]? = some x) (ha : Prt.atB c x.page (a : Int) = true) (hn : a ∉ x.free) (hl : x.free.length + 1 ≠ Prt.perN c) :
    Inv P (k.pool c ((k.p c).set i ⟨x.page, a :: x.free⟩)) fun b d => O b d ∧ ¬ (b = (a : Int) ∧ d = (c : Int)) := by
  have hm := List.mem_of_getElem? hx
  have g := h.good c hc
  have fw := h.some_ c hc _ hm
  refine h.turn hc hx (a :: x.free) (fun b hb => ?_) (List.nodup_cons.2 ⟨hn, g.nod _ hm⟩) (by simp only [List.length_cons]; omega) (fun b d d4 => ?_) (fun b d d4 o => ?_) (fun b hb => ?_) (fun b d _ o q => ⟨o, fun e => ?_⟩)
  · rcases List.mem_cons.1 hb with rfl | hb
    · exact ha
    · exact g.stks _ hm b hb
  · exact ⟨fun o => o.1, fun o => ⟨o, fun e => by omega⟩⟩
  · obtain ⟨o, ne⟩ := o
    by_cases q : d = (c : Int) ∧ Prt.atB c x.page b = true
    · obtain ⟨rfl, q⟩ := q
      have b0 := (Prt.at_range q).1
      refine .inl ⟨rfl, q, fun m => ?_⟩
      rcases List.mem_cons.1 m with e | m
      · exact ne ⟨by omega, rfl⟩
      · obtain ⟨_, y, hy, e1, e2⟩ := h.outS _ _ o d4
        rw [Int.toNat_natCast] at *
        obtain ⟨j, hj⟩ := List.getElem?_of_mem hy
        by_cases ij : j = i
        · subst ij
          rw [hx] at hj
          injection hj with hj
          subst hj
          exact e2 m
        · have := g.apart hj hx ij
          rw [Prt.at_no q this.symm] at e1
          cases e1
    · exact .inr ⟨o, q⟩
  · rcases h.stk c hc _ hm b hb with m | o
    · exact .inl (List.mem_cons_of_mem _ m)
    · by_cases e : b = a
      · exact .inl (by rw [e]; exact List.mem_cons_self)
      · exact .inr ⟨o, fun q => e (by omega)⟩
  · exact q ⟨e.2, by rw [e.1]; exact ha⟩
/-- Behind the last one that is out all are free. -/
theorem all_free {c pg a : Nat} {f : List Nat} (hc : c < 4) (h1 : ∀ b ∈ f, Prt.atB c pg (b : Int) = true) (h2 : f.Nodup) (ha : Prt.atB c pg (a : Int) = true) (hn : a ∉ f) (hl : f.length + 1 = Prt.perN c) {b : Nat} (hb : Prt.atB c pg (b : Int) = true) : b = a ∨ b ∈ f := by
  apply Classical.byContradiction
  intro q
  have q1 : b ≠ a := fun e => q (.inl e)
  have q2 : b ∉ f := fun e => q (.inr e)
  have := Prt.free_len (l := b :: a :: f) (page := pg) hc (List.nodup_cons.2 ⟨fun m => by rcases List.mem_cons.1 m with e | e; exact q1 e; exact q2 e, List.nodup_cons.2 ⟨hn, h2⟩⟩) (fun z hz => by
    rcases List.mem_cons.1 hz with rfl | hz
    · exact hb
    · rcases List.mem_cons.1 hz with rfl | hz
      · exact ha
      · exact h1 z hz)
  simp only [List.length_cons] at this
  omega
/-- The last one is put back: its span is kept back. -/
theorem Inv.leave (h : Inv P k O) (on : k.on = true) {c : Nat} (hc : c < 4) {i a : Nat} {x : Prt.Q} (hx : (k.p c)[i]? = some x) (ha : Prt.atB c x.page (a : Int) = true) (hn : a ∉ x.free) (hl : x.free.length + 1 = Prt.perN c) :
    (x.page : Int) ∉ k.back ∧ Inv P { k.pool c ((k.p c).take i ++ (k.p c).drop (i + 1)) with back := k.back ++ [(x.page : Int)] } fun b d => O b d ∧ ¬ (b = (a : Int) ∧ d = (c : Int)) := by
  have hm := List.mem_of_getElem? hx
  have g := h.good c hc
  have hsp := h.pool c hc x hm
  have nb : (x.page : Int) ∉ k.back := fun q => by
    obtain ⟨e, e4, hs, ne⟩ := h.back _ q
    have := span_at h.whole.good hs hsp rfl
    injection this with _ _ e2
    obtain rfl : e = c := by omega
    exact ne x hm rfl
  have mem : ∀ d, ∀ y ∈ (k.pool c ((k.p c).take i ++ (k.p c).drop (i + 1))).p d, y ∈ k.p d ∧ (d = c → ∃ j, j ≠ i ∧ (k.p c)[j]? = some y) := by
    intro d y hy
    by_cases e : d = c
    · subst e
      rw [K.pool_at] at hy
      obtain ⟨j, ne, hj⟩ := mem_cut.1 hy
      exact ⟨List.mem_of_getElem? hj, fun _ => ⟨j, ne, hj⟩⟩
    · rw [K.pool_ne _ _ e] at hy
      exact ⟨hy, fun q => absurd q e⟩
  have keep : ∀ d, ∀ y ∈ k.p d, y ∈ (k.pool c ((k.p c).take i ++ (k.p c).drop (i + 1))).p d ∨ (d = c ∧ y = x) := by
    intro d y hy
    by_cases e : d = c
    · subst e
      rw [K.pool_at]
      obtain ⟨j, hj⟩ := List.getElem?_of_mem hy
      by_cases ij : j = i
      · subst ij; rw [hx] at hj; injection hj with hj; exact .inr ⟨rfl, hj.symm⟩
      · exact .inl (mem_cut.2 ⟨j, ij, hj⟩)
    · rw [K.pool_ne _ _ e]; exact .inl hy
  refine ⟨nb, h.whole, fun d hd => ?_, fun d hd y hy => h.pool d hd y (mem d y hy).1, fun d hd y hy => h.some_ d hd y (mem d y hy).1, fun q hq => ?_, ?_, h.right, h.big, fun e => ?_, fun b d o d4 => ?_, fun b d o d4 => h.outL b d o.1 d4, fun s hs => ?_, fun d hd y hy b hb => ?_⟩
  · show Prt.GoodP P d ((k.pool c _).p d)
    by_cases e : d = c
    · subst e; rw [K.pool_at, ← List.eraseIdx_eq_take_drop_succ]; exact (h.good d hd).sub (List.eraseIdx_sublist _ _)
    · rw [K.pool_ne _ _ e]; exact h.good d hd
  · rcases List.mem_append.1 hq with hq | hq
    · obtain ⟨e, e4, hs, ne⟩ := h.back q hq
      exact ⟨e, e4, hs, fun y hy => ne y (mem _ y hy).1⟩
    · obtain rfl := List.mem_singleton.1 hq
      refine ⟨c, hc, hsp, fun y hy => ?_⟩
      obtain ⟨_, z⟩ := mem c y hy
      obtain ⟨j, ne, hj⟩ := z rfl
      have := g.apart hj hx ne
      omega
  · rw [List.nodup_append]
    exact ⟨h.bnod, by simp, fun u hu v hv e => by rw [List.mem_singleton.1 hv] at e; exact nb (e ▸ hu)⟩
  · exact (on_no (b := k.on) on e).elim
  · obtain ⟨o, ne⟩ := o
    obtain ⟨d0, y, hy, at_, nf⟩ := h.outS b d o d4
    rcases keep _ y hy with z | ⟨z1, rfl⟩
    · exact ⟨d0, y, z, at_, nf⟩
    · exfalso
      rw [z1] at at_
      have b0 := (Prt.at_range at_).1
      rcases all_free hc (g.stks _ hm) (g.nod _ hm) ha hn hl (b := b.toNat) (by rw [show ((b.toNat : Nat) : Int) = b by omega]; exact at_) with e | e
      · exact ne ⟨by omega, by omega⟩
      · exact nf e
  · rcases h.cover s hs with ⟨c0, c4, n8, q⟩ | ⟨c4, c7, n, q⟩
    · refine .inl ⟨c0, c4, n8, ?_⟩
      rcases q with ⟨y, hy, e⟩ | q
      · rcases keep _ y hy with z | ⟨_, rfl⟩
        · exact .inl ⟨y, z, e⟩
        · exact .inr (List.mem_append.2 (.inr (List.mem_singleton.2 e.symm)))
      · exact .inr (List.mem_append.2 (.inl q))
    · exact .inr ⟨c4, c7, n, q.imp id fun o => ⟨o, fun e => by omega⟩⟩
  · obtain ⟨q, z⟩ := mem d y hy
    rcases h.stk d hd y q b hb with m | o
    · exact .inl m
    · refine .inr ⟨o, fun ⟨e1, e2⟩ => ?_⟩
      obtain rfl : d = c := by omega
      obtain ⟨j, ne, hj⟩ := z rfl
      have a1 := Prt.allQ_at hd b hb
      have := g.apart hj hx ne
      rw [show b = a by omega, ] at a1
      rw [Prt.at_no a1 this] at ha
      cases ha
end Go.Proofs.YtjfkmgicbakmgaaGreat.Sto
