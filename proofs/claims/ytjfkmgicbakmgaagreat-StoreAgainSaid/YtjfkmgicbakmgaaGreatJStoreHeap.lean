/-
  Spans that are taken from the heap, adopted by a pool, put to the large ones, freed: each keeps what is so of the parts at any time. Own work; no program is walked here.
-/
import Derived.Test.YtjfkmgicbakmgaaGreatJStoreOps
namespace Go.Proofs.YtjfkmgicbakmgaaGreat.Sto
open Go.RowKit
variable {P : Nat} {k : K} {O : Int → Int → Prop}

theorem del_mem {P : Int} {l : List S} (g : Good P l) {s : S} (hs : s ∈ l) {t : S} : t ∈ delL l s.a ↔ t ∈ l ∧ t ≠ s := by
  obtain ⟨i, hi⟩ := List.mem_iff_getElem?.1 hs
  have n1 := (g.each s hs).n1
  have e : placeL l s.a = i := place_in g hi (by omega) (by omega)
  unfold delL
  rw [e, mem_cut]
  constructor
  · rintro ⟨j, ne, hj⟩
    refine ⟨List.mem_of_getElem? hj, fun q => ?_⟩
    subst q
    rcases Nat.lt_or_gt_of_ne ne with z | z
    · have := g.two hj hi z; omega
    · have := g.two hi hj z; omega
  · rintro ⟨ht, ne⟩
    obtain ⟨j, hj⟩ := List.mem_iff_getElem?.1 ht
    exact ⟨j, fun q => by subst q; rw [hi] at hj; injection hj with hj; exact ne hj.symm, hj⟩
/-- A span that is there is freed. -/
theorem Inv.freed (h : Inv P k O) {s : S} (hs : s ∈ k.sl) : freeA k.rl k.sl s.a = ⟨s, 0, putL k.rl s.a s.n, delL k.sl s.a⟩ ∧ Whole (P : Int) (putL k.rl s.a s.n) (delL k.sl s.a) := by
  obtain ⟨i, hi⟩ := List.mem_iff_getElem?.1 hs
  have e := beg_at h.whole.good hi rfl
  refine ⟨?_, (h.whole.free e).2.2⟩
  unfold freeA
  rw [e]
theorem big_nodup {l : List Bg.R} (h : Bg.RightL l) : l.Nodup := by
  have := (Bg.right_pw.1 h).2
  refine this.imp fun {a b} q e => ?_
  subst e
  have := of_decide_eq_true q.1
  omega
theorem nodup_mid {α : Type} {l1 l2 : List α} {q x : α} (h : (l1 ++ q :: l2).Nodup) (hx : x ∈ l1 ++ l2) : x ≠ q := by
  rintro rfl
  rw [List.nodup_append] at h
  obtain ⟨_, h2, h3⟩ := h
  rcases List.mem_append.1 hx with z | z
  · exact h3 x z x List.mem_cons_self rfl
  · exact (List.nodup_cons.1 h2).1 z
theorem mid_mem {α : Type} {l1 l2 : List α} {q x : α} (h : x ∈ l1 ++ q :: l2) (ne : x ≠ q) : x ∈ l1 ++ l2 := by
  rcases List.mem_append.1 h with z | z
  · exact List.mem_append.2 (.inl z)
  · rcases List.mem_cons.1 z with z | z
    · exact absurd z ne
    · exact List.mem_append.2 (.inr z)
theorem mid_in {α : Type} {l1 l2 : List α} {q x : α} (h : x ∈ l1 ++ l2) : x ∈ l1 ++ q :: l2 := by
  rcases List.mem_append.1 h with z | z
  · exact List.mem_append.2 (.inl z)
  · exact List.mem_append.2 (.inr (List.mem_cons_of_mem _ z))
theorem mid_sub {α : Type} (l1 l2 : List α) (q : α) : (l1 ++ l2).Sublist (l1 ++ q :: l2) := (List.Sublist.refl l1).append (List.sublist_cons_self q l2)
/-- A large one that waits, as a span. -/
theorem Inv.big_may (h : Inv P k O) {b : Bg.R} (hb : b ∈ k.big) : 4 ≤ b.2 ∧ b.2 ≤ 7 ∧ 0 ≤ b.1 ∧ b.1 % 64 = 0 := by
  have := of_decide_eq_true (h.right.may hb)
  omega
/-- A span that was kept back is freed. -/
theorem Inv.emptyBack (h : Inv P k O) (on : k.on = true) {l1 l2 : List Int} {q : Int} (hb : k.back = l1 ++ q :: l2) :
    (freeA k.rl k.sl q).e = 0 ∧ Inv P { k with rl := (freeA k.rl k.sl q).rl, sl := (freeA k.rl k.sl q).sl, back := l1 ++ l2 } O := by
  obtain ⟨c, c4, hs, ne⟩ := h.back q (by rw [hb]; simp)
  obtain ⟨e, wh⟩ := h.freed hs
  have e : freeA k.rl k.sl q = _ := e
  rw [e]
  have nd := h.bnod
  rw [hb] at nd
  have del : ∀ {t : S}, t ∈ k.sl → t ≠ sp q 8 (c : Int) → t ∈ delL k.sl q := fun ht n => (del_mem h.whole.good hs).2 ⟨ht, n⟩
  refine ⟨rfl, wh, h.good, fun d hd x hx => del (h.pool d hd x hx) fun z => ?_, h.some_, fun q' hq => ?_, nd.sublist (mid_sub _ _ _), h.right, fun b hb' => del (h.big b hb') fun z => ?_, (fun z => (on_no (b := k.on) on z).elim), h.outS, fun a d o d4 => ?_, fun t ht => ?_, h.stk⟩
  · injection z with z1 _ z2
    obtain rfl : d = c := by omega
    exact ne x hx z1
  · obtain ⟨d, d4, ht, n⟩ := h.back q' (by rw [hb]; exact mid_in hq)
    refine ⟨d, d4, del ht fun z => ?_, n⟩
    injection z with z1
    exact nodup_mid nd hq z1
  · injection z with _ _ z2
    have := h.big_may hb'
    omega
  · obtain ⟨c7, m, ht, n⟩ := h.outL a d o d4
    refine ⟨c7, m, del ht fun z => ?_, n⟩
    injection z with _ _ z2
    omega
  · obtain ⟨ht, n⟩ := (del_mem h.whole.good hs).1 ht
    rcases h.cover t ht with ⟨c0, c4', n8, z⟩ | z
    · refine .inl ⟨c0, c4', n8, z.imp id fun z => ?_⟩
      rw [hb] at z
      refine mid_mem z fun w => n (span_at h.whole.good ht hs ?_)
      exact w
    · exact .inr z
/-- A large one that waits is freed. -/
theorem Inv.emptyBig (h : Inv P k O) (on : k.on = true) {l1 l2 : List Bg.R} {b : Bg.R} (hb : k.big = l1 ++ b :: l2) :
    (freeA k.rl k.sl (b.1 / 64)).e = 0 ∧ Inv P { k with rl := (freeA k.rl k.sl (b.1 / 64)).rl, sl := (freeA k.rl k.sl (b.1 / 64)).sl, big := l1 ++ l2 } O := by
  have hm : b ∈ k.big := by rw [hb]; simp
  have hs := h.big b hm
  have mb := h.big_may hm
  obtain ⟨e, wh⟩ := h.freed hs
  have e : freeA k.rl k.sl (b.1 / 64) = _ := e
  rw [e]
  have nd := big_nodup h.right
  rw [hb] at nd
  have del : ∀ {t : S}, t ∈ k.sl → t ≠ sp (b.1 / 64) (pagesI b.2) b.2 → t ∈ delL k.sl (b.1 / 64) := fun ht n => (del_mem h.whole.good hs).2 ⟨ht, n⟩
  refine ⟨rfl, wh, h.good, fun d hd x hx => del (h.pool d hd x hx) fun z => ?_, h.some_, fun q hq => ?_, h.bnod, h.right.sub (by rw [hb]; exact mid_sub _ _ _), fun b' hb' => ?_, (fun z => (on_no (b := k.on) on z).elim), h.outS, fun a d o d4 => ?_, fun t ht => ?_, h.stk⟩
  · injection z with _ _ z2
    omega
  · obtain ⟨d, d4, ht, n⟩ := h.back q hq
    refine ⟨d, d4, del ht fun z => ?_, n⟩
    injection z with _ _ z2
    omega
  · have hm' : b' ∈ k.big := by rw [hb]; exact mid_in hb'
    refine del (h.big b' hm') fun z => nodup_mid nd hb' ?_
    injection z with z1 _ z2
    have := h.big_may hm'
    exact Prod.ext (by omega) z2
  · obtain ⟨c7, m, ht, n⟩ := h.outL a d o d4
    refine ⟨c7, m, del ht fun z => n ?_, fun w => n (by rw [hb]; exact mid_in w)⟩
    injection z with z1 _ z2
    rw [show (a, d) = b from Prod.ext (by show a = b.1; omega) z2]
    exact hm
  · obtain ⟨ht, n⟩ := (del_mem h.whole.good hs).1 ht
    rcases h.cover t ht with z | ⟨c4, c7, np, z⟩
    · exact .inl z
    · refine .inr ⟨c4, c7, np, z.imp (fun z => ?_) id⟩
      rw [hb] at z
      refine mid_mem z fun w => n (span_at h.whole.good ht hs ?_)
      show t.a = b.1 / 64
      have : t.a * 64 = b.1 := congrArg Prod.fst w
      omega
/-- A large one is put to those that wait. -/
theorem Inv.giveBig (h : Inv P k O) (on : k.on = true) {a c : Int} (o : O a c) (c4 : 4 ≤ c) :
    Bg.mayB (a, c) = true ∧ Bg.anyB k.big (a, c) = false ∧ Inv P { k with big := Bg.insL k.big (a, c) } fun b d => O b d ∧ ¬ (b = a ∧ d = c) := by
  obtain ⟨c7, m, hs, nb⟩ := h.outL a c o c4
  have ly := h.lies o
  have pp := h.pages
  have fit := ly.fit
  have a0 := ly.a0
  have w := pages_large c4 c7
  have may : Bg.mayB (a, c) = true := decide_eq_true ⟨c4, c7, a0, m, by show a + wordsI c ≤ 16384; omega⟩
  have any : Bg.anyB k.big (a, c) = false := by
    cases e : Bg.anyB k.big (a, c) with
    | false => rfl
    | true =>
      obtain ⟨x, hx, z⟩ := List.any_eq_true.1 e
      have mx := h.big_may hx
      have hx' := h.big x hx
      have wx := pages_large mx.1 mx.2.1
      have z := of_decide_eq_true z
      simp only at z
      have := span_eq h.whole.good hx' hs (by show x.1 / 64 < a / 64 + pagesI c; omega) (by show a / 64 < x.1 / 64 + pagesI x.2; omega)
      injection this with z1 _ z2
      exact absurd (by rw [show (a, c) = x from Prod.ext (by show a = x.1; omega) z2.symm]; exact hx) nb
  refine ⟨may, any, h.whole, h.good, h.pool, h.some_, h.back, h.bnod, Bg.right_ins h.right may any, fun b hb => ?_, (fun z => (on_no (b := k.on) on z).elim), fun b d o' d4 => h.outS b d o'.1 d4, fun b d o' d4 => ?_, fun t ht => ?_, fun d hd x hx b hb => ?_⟩
  · rcases (Bg.ins_mem _ _ _).1 hb with rfl | hb
    · exact hs
    · exact h.big b hb
  · obtain ⟨d7, m', ht, n⟩ := h.outL b d o'.1 d4
    refine ⟨d7, m', ht, fun z => ?_⟩
    rcases (Bg.ins_mem _ _ _).1 z with z | z
    · exact o'.2 ⟨congrArg Prod.fst z, congrArg Prod.snd z⟩
    · exact n z
  · rcases h.cover t ht with z | ⟨t4, t7, np, z⟩
    · exact .inl z
    · refine .inr ⟨t4, t7, np, ?_⟩
      rcases z with z | z
      · exact .inl ((Bg.ins_mem _ _ _).2 (.inr z))
      · by_cases e : t.a * 64 = a ∧ t.c = c
        · exact .inl ((Bg.ins_mem _ _ _).2 (.inl (by rw [e.1, e.2])))
        · exact .inr ⟨z, e⟩
  · exact (h.stk d hd x hx b hb).imp id fun o' => ⟨o', fun e => by omega⟩
/-- A large one that waits is taken. -/
theorem Inv.takeBig (h : Inv P k O) {l1 l2 : List Bg.R} {b : Bg.R} (hb : k.big = l1 ++ b :: l2) :
    ¬ O b.1 b.2 ∧ Inv P { k with big := l1 ++ l2 } fun a d => (a = b.1 ∧ d = b.2) ∨ O a d := by
  have hm : b ∈ k.big := by rw [hb]; simp
  have mb := h.big_may hm
  have nd := big_nodup h.right
  rw [hb] at nd
  refine ⟨fun o => (h.outL _ _ o mb.1).2.2.2 hm, h.whole, h.good, h.pool, h.some_, h.back, h.bnod, h.right.sub (by rw [hb]; exact mid_sub _ _ _), fun b' hb' => h.big b' (by rw [hb]; exact mid_in hb'), fun z => ?_, fun a d o d4 => ?_, fun a d o d4 => ?_, fun t ht => ?_, fun d hd x hx a ha => (h.stk d hd x hx a ha).imp id .inr⟩
  · have := (h.off z).2
    rw [hb] at this
    simp at this
  · rcases o with ⟨_, e⟩ | o
    · omega
    · exact h.outS a d o d4
  · rcases o with ⟨rfl, rfl⟩ | o
    · exact ⟨mb.2.1, mb.2.2.2, h.big b hm, fun z => nodup_mid nd z rfl⟩
    · obtain ⟨c7, m, ht, n⟩ := h.outL a d o d4
      exact ⟨c7, m, ht, fun z => n (by rw [hb]; exact mid_in z)⟩
  · rcases h.cover t ht with z | ⟨t4, t7, np, z⟩
    · exact .inl z
    · refine .inr ⟨t4, t7, np, ?_⟩
      rcases z with z | z
      · by_cases e : (t.a * 64, t.c) = b
        · exact .inr (.inl ⟨congrArg Prod.fst e, congrArg Prod.snd e⟩)
        · rw [hb] at z; exact .inl (mid_mem z e)
      · exact .inr (.inr z)
/-- What is taken from the heap is no span's. -/
theorem Inv.fresh (h : Inv P k O) {n : Int} {i : Nat} {x : R} (f : Fits k.rl n i x) (_ : 1 ≤ n) {t : S} (ht : t ∈ k.sl) : x.1 + n ≤ t.a ∨ t.a + t.n ≤ x.1 := by
  have := h.whole.apart (List.mem_of_getElem? f.at_) ht
  have := f.big
  omega
/-- Pages for a small class: kept back for the moment. -/
theorem Inv.allocBack (h : Inv P k O) (on : k.on = true) {c : Nat} (hc : c < 4) {i : Nat} {x : R} (f : Fits k.rl 8 i x) :
    Inv P { k with rl := takeL k.rl 8 i x, sl := insL k.sl (sp x.1 8 (c : Int)), back := k.back ++ [x.1] } O := by
  have al := (h.whole.alloc (cl := (c : Int)) f (by omega) (by omega) (by omega)).2.2
  have fr := fun {t : S} (ht : t ∈ k.sl) => h.fresh f (by omega) ht
  have nb : x.1 ∉ k.back := fun q => by
    obtain ⟨d, _, ht, _⟩ := h.back _ q
    have := fr ht
    simp only at this
    omega
  refine ⟨al, h.good, fun d hd y hy => mem_ins.2 (.inr (h.pool d hd y hy)), h.some_, fun q hq => ?_, ?_, h.right, fun b hb => mem_ins.2 (.inr (h.big b hb)), (fun z => (on_no (b := k.on) on z).elim), h.outS, fun a d o d4 => ?_, fun t ht => ?_, h.stk⟩
  · rcases List.mem_append.1 hq with hq | hq
    · obtain ⟨d, d4, ht, n⟩ := h.back q hq
      exact ⟨d, d4, mem_ins.2 (.inr ht), n⟩
    · obtain rfl := List.mem_singleton.1 hq
      refine ⟨c, hc, mem_ins.2 (.inl rfl), fun y hy => ?_⟩
      have := fr (h.pool c hc y hy)
      simp only at this
      omega
  · rw [List.nodup_append]
    exact ⟨h.bnod, by simp, fun u hu v hv e => by rw [List.mem_singleton.1 hv] at e; exact nb (e ▸ hu)⟩
  · obtain ⟨c7, m, ht, n⟩ := h.outL a d o d4
    exact ⟨c7, m, mem_ins.2 (.inr ht), n⟩
  · rcases mem_ins.1 ht with rfl | ht
    · exact .inl ⟨by show (0 : Int) ≤ (c : Int); omega, by show (c : Int) < 4; omega, rfl, .inr (List.mem_append.2 (.inr (List.mem_singleton.2 rfl)))⟩
    · rcases h.cover t ht with ⟨c0, c4, n8, z⟩ | z
      · exact .inl ⟨c0, c4, n8, z.imp id fun z => List.mem_append.2 (.inl z)⟩
      · exact .inr z
/-- Pages for a large class. -/
theorem Inv.allocLarge (h : Inv P k O) {c : Int} (c4 : 4 ≤ c) (c7 : c ≤ 7) {i : Nat} {x : R} (f : Fits k.rl (pagesI c) i x) :
    ¬ O (x.1 * 64) c ∧ Inv P { k with rl := takeL k.rl (pagesI c) i x, sl := insL k.sl (sp x.1 (pagesI c) c) } fun a d => (a = x.1 * 64 ∧ d = c) ∨ O a d := by
  have w := pages_large c4 c7
  have al := (h.whole.alloc (cl := c) f (by omega) (by omega) (by omega)).2.2
  have fr := fun {t : S} (ht : t ∈ k.sl) => h.fresh f (by omega) ht
  have nO : ∀ b : Bg.R, b = (x.1 * 64, c) → b ∉ k.big := fun b e hb => by
    have := fr (h.big b hb)
    subst e
    simp only at this
    omega
  refine ⟨fun o => ?_, al, h.good, fun d hd y hy => mem_ins.2 (.inr (h.pool d hd y hy)), h.some_, fun q hq => ?_, h.bnod, h.right, fun b hb => mem_ins.2 (.inr (h.big b hb)), h.off, fun a d o d4 => ?_, fun a d o d4 => ?_, fun t ht => ?_, fun d hd y hy a ha => (h.stk d hd y hy a ha).imp id .inr⟩
  · obtain ⟨_, _, ht, _⟩ := h.outL _ _ o c4
    have := fr ht
    simp only at this
    omega
  · obtain ⟨d, d4, ht, n⟩ := h.back q hq
    exact ⟨d, d4, mem_ins.2 (.inr ht), n⟩
  · rcases o with ⟨_, e⟩ | o
    · omega
    · exact h.outS a d o d4
  · rcases o with ⟨rfl, rfl⟩ | o
    · exact ⟨c7, by omega, mem_ins.2 (.inl (by rw [show x.1 * 64 / 64 = x.1 by omega])), nO _ rfl⟩
    · obtain ⟨d7, m, ht, n⟩ := h.outL a d o d4
      exact ⟨d7, m, mem_ins.2 (.inr ht), n⟩
  · rcases mem_ins.1 ht with rfl | ht
    · exact .inr ⟨c4, c7, rfl, .inr (.inl ⟨rfl, rfl⟩)⟩
    · rcases h.cover t ht with z | ⟨t4, t7, np, z⟩
      · exact .inl z
      · exact .inr ⟨t4, t7, np, z.imp id .inr⟩
/-- A span that was kept back becomes a pool's, and its first stack is out. -/
theorem Inv.adopt (h : Inv P k O) {l1 l2 : List Int} {pg c : Nat} (hc : c < 4) (hb : k.back = l1 ++ (pg : Int) :: l2) (hs : sp (pg : Int) 8 (c : Int) ∈ k.sl) {i : Nat} (hi : Prt.placeQ pg (k.p c) = some i) {r : List Nat} (hr : Prt.allQ c pg = (pg * 64) :: r) :
    ¬ O ((pg * 64 : Nat) : Int) (c : Int) ∧ Inv P { k.pool c ((k.p c).take i ++ ⟨pg, r⟩ :: (k.p c).drop i) with back := l1 ++ l2 } fun b d => (b = ((pg * 64 : Nat) : Int) ∧ d = (c : Int)) ∨ O b d := by
  have ok := h.ok hs
  have up : pg + 8 ≤ P := by have := ok.up; simp only at this; omega
  obtain ⟨hil, p1, p2⟩ := Prt.placeQ_some hi (h.good c hc).asc
  have nd := h.bnod
  rw [hb] at nd
  obtain ⟨c', c4', hs', ne⟩ := h.back pg (by rw [hb]; simp)
  obtain rfl : c' = c := by have := span_at h.whole.good hs' hs rfl; injection this with _ _ z; omega
  have pp := Prt.per_pos hc
  have anod := Prt.allQ_nodup (page := pg) hc
  rw [hr] at anod
  have an := List.nodup_cons.1 anod
  have a0 : Prt.atB c' pg ((pg * 64 : Nat) : Int) = true := Prt.allQ_at hc _ (by rw [hr]; exact List.mem_cons_self)
  have al := Prt.allQ_length c' pg
  rw [hr, List.length_cons] at al
  have rat : ∀ b ∈ r, Prt.atB c' pg (b : Int) = true := fun b hb => Prt.allQ_at hc _ (by rw [hr]; exact List.mem_cons_of_mem _ hb)
  have old : ∀ y ∈ k.p c', Prt.atB c' y.page ((pg * 64 : Nat) : Int) = false := fun y hy => by
    refine Prt.at_no a0 ?_
    have e := h.pool c' hc y hy
    apply Classical.byContradiction
    intro q
    have := span_eq h.whole.good e hs (by show (y.page : Int) < (pg : Int) + 8; omega) (by show (pg : Int) < (y.page : Int) + 8; omega)
    injection this with z
    exact ne y hy z
  have nO : ¬ O ((pg * 64 : Nat) : Int) (c' : Int) := fun o => by
    obtain ⟨_, y, hy, e1, _⟩ := h.outS _ _ o (by omega)
    rw [Int.toNat_natCast] at *
    rw [old y hy] at e1
    cases e1
  have gi := (h.good c' hc).ins hi up
  have gL : Prt.GoodP P c' ((k.p c').take i ++ ⟨pg, r⟩ :: (k.p c').drop i) := by
    have hx : (Prt.insQ c' (k.p c') i pg)[i]? = some ⟨pg, Prt.allQ c' pg⟩ := by
      unfold Prt.insQ
      rw [List.getElem?_append_right (by rw [List.length_take]; omega), List.length_take, Nat.min_eq_left hil, Nat.sub_self]
      rfl
    have := gi.turn hx r rat an.2
    unfold Prt.insQ at this
    rwa [List.set_append_right _ _ (by rw [List.length_take]; omega), List.length_take, Nat.min_eq_left hil, Nat.sub_self, List.set_cons_zero] at this
  have mem : ∀ d, ∀ y ∈ (k.pool c' ((k.p c').take i ++ ⟨pg, r⟩ :: (k.p c').drop i)).p d, (d = c' ∧ y = ⟨pg, r⟩) ∨ y ∈ k.p d := by
    intro d y hy
    by_cases e : d = c'
    · subst e
      rw [K.pool_at] at hy
      rcases List.mem_append.1 hy with z | z
      · exact .inr (List.mem_of_mem_take z)
      · rcases List.mem_cons.1 z with z | z
        · exact .inl ⟨rfl, z⟩
        · exact .inr (List.mem_of_mem_drop z)
    · rw [K.pool_ne _ _ e] at hy; exact .inr hy
  have keep : ∀ d, ∀ y ∈ k.p d, y ∈ (k.pool c' ((k.p c').take i ++ ⟨pg, r⟩ :: (k.p c').drop i)).p d := by
    intro d y hy
    by_cases e : d = c'
    · subst e
      rw [K.pool_at]
      rw [← List.take_append_drop i (k.p d)] at hy
      rcases List.mem_append.1 hy with z | z
      · exact List.mem_append.2 (.inl z)
      · exact List.mem_append.2 (.inr (List.mem_cons_of_mem _ z))
    · rw [K.pool_ne _ _ e]; exact hy
  have new : (⟨pg, r⟩ : Prt.Q) ∈ (k.pool c' ((k.p c').take i ++ ⟨pg, r⟩ :: (k.p c').drop i)).p c' := by rw [K.pool_at]; simp
  refine ⟨nO, h.whole, fun d hd => ?_, fun d hd y hy => ?_, fun d hd y hy => ?_, fun q hq => ?_, nd.sublist (mid_sub _ _ _), h.right, h.big, fun z => ?_, fun b d o d4 => ?_, fun b d o d4 => ?_, fun t ht => ?_, fun d hd y hy b hb' => ?_⟩
  · show Prt.GoodP P d ((k.pool c' _).p d)
    by_cases e : d = c'
    · subst e; rw [K.pool_at]; exact gL
    · rw [K.pool_ne _ _ e]; exact h.good d hd
  · rcases mem d y hy with ⟨rfl, rfl⟩ | z
    · exact hs
    · exact h.pool d hd y z
  · rcases mem d y hy with ⟨rfl, rfl⟩ | z
    · show r.length < _; omega
    · exact h.some_ d hd y z
  · obtain ⟨d, d4, ht, n⟩ := h.back q (by rw [hb]; exact mid_in hq)
    refine ⟨d, d4, ht, fun y hy => ?_⟩
    rcases mem d y hy with ⟨_, rfl⟩ | z
    · exact fun e => nodup_mid nd hq e.symm
    · exact n y z
  · have := (h.off z).1
    rw [hb] at this
    simp at this
  · rcases o with ⟨rfl, rfl⟩ | o
    · refine ⟨by omega, ⟨pg, r⟩, ?_, ?_, ?_⟩
      · rw [Int.toNat_natCast]; exact new
      · rw [Int.toNat_natCast]; exact a0
      · rw [Int.toNat_natCast]; exact an.1
    · obtain ⟨d0, y, hy, e1, e2⟩ := h.outS b d o d4
      exact ⟨d0, y, keep _ y hy, e1, e2⟩
  · rcases o with ⟨_, e⟩ | o
    · omega
    · exact h.outL b d o d4
  · rcases h.cover t ht with ⟨c0, c4, n8, z⟩ | ⟨t4, t7, np, z⟩
    · refine .inl ⟨c0, c4, n8, ?_⟩
      rcases z with ⟨y, hy, e⟩ | z
      · exact .inl ⟨y, keep _ y hy, e⟩
      · by_cases e : t.a = (pg : Int)
        · have : t = sp (pg : Int) 8 (c' : Int) := span_at h.whole.good ht hs e
          refine .inl ⟨⟨pg, r⟩, ?_, e.symm⟩
          rw [this]
          show _ ∈ (k.pool c' _).p ((c' : Int)).toNat
          rw [Int.toNat_natCast]
          exact new
        · rw [hb] at z; exact .inr (mid_mem z e)
    · exact .inr ⟨t4, t7, np, z.imp id .inr⟩
  · rcases mem d y hy with ⟨rfl, rfl⟩ | z
    · simp only [hr] at hb'
      rcases List.mem_cons.1 hb' with rfl | m
      · exact .inr (.inl ⟨rfl, rfl⟩)
      · exact .inl m
    · exact (h.stk d hd y z b hb').imp id .inr
end Go.Proofs.YtjfkmgicbakmgaaGreat.Sto
