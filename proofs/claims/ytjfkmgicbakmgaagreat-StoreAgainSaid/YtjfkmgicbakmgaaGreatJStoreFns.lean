/-
  An allocator's steps as the program takes them (a small stack, a large one, each given back, the phase turned), in ways: what each callee answers, and what is so behind it. Own work; no program is walked here.
-/
import Derived.Test.YtjfkmgicbakmgaaGreatJHeap
import Derived.Test.YtjfkmgicbakmgaaGreatJStoreHeap
namespace Go.Proofs.YtjfkmgicbakmgaaGreat.Sto
open Go.RowKit
variable {P : Nat} {k : K} {O : Int → Int → Prop}

def Plus (O : Int → Int → Prop) (a c : Int) : Int → Int → Prop := fun b d => (b = a ∧ d = c) ∨ O b d
def Minus (O : Int → Int → Prop) (a c : Int) : Int → Int → Prop := fun b d => O b d ∧ ¬ (b = a ∧ d = c)
theorem split_at {α : Type} {l : List α} {i : Nat} {x : α} (h : l[i]? = some x) : l = l.take i ++ x :: l.drop (i + 1) := by
  obtain ⟨hk, rfl⟩ := List.getElem?_eq_some_iff.1 h
  rw [← List.drop_eq_getElem_cons hk, List.take_append_drop]
/-- The phase does not tell where nothing is kept back and nothing waits. -/
theorem Inv.phase {rl : List R} {sl : List S} {p : Nat → List Prt.Q} {big : List Bg.R} {on : Bool} {back : List Int} (h : Inv P ⟨rl, sl, p, big, true, back⟩ O) (e : on = false → back = [] ∧ big = []) : Inv P ⟨rl, sl, p, big, on, back⟩ O := by
  cases on with
  | true => exact h
  | false => exact h.off_ (e rfl).1 (e rfl).2 false
theorem all_head {c pg : Nat} (hc : c < 4) : ∃ r, Prt.allQ c pg = (pg * 64) :: r := by
  have pp := Prt.per_pos hc
  have e := Prt.drop_at (Prt.allQ_get (c := c) (page := pg) (k := 0) pp.1)
  rw [List.drop_zero] at e
  refine ⟨(Prt.allQ c pg).drop 1, e.trans ?_⟩
  unfold Prt.stk
  rw [Nat.zero_mul, Nat.add_zero]
/-- A stack of a small class. -/
inductive TakeS (P : Nat) (k : K) (O : Int → Int → Prop) (c : Nat) : Prop
  | has (a : Nat) (h1 : Prt.takeC (k.p c) = 0) (h2 : Prt.takeA (k.p c) = (a : Int)) (h3 : ¬ O (a : Int) (c : Int)) (h4 : Inv P (k.pool c (Prt.takeL (k.p c))) (Plus O (a : Int) (c : Int)))
  | none (h1 : Prt.takeC (k.p c) = 2) (h2 : Prt.takeA (k.p c) = 0) (h3 : Prt.takeL (k.p c) = k.p c) (h4 : allocA k.rl k.sl 8 (c : Int) = ⟨0, 3, k.rl, k.sl⟩)
  | new (pg : Nat) (rl : List R) (sl : List S) (h1 : Prt.takeC (k.p c) = 2) (h2 : Prt.takeA (k.p c) = 0) (h3 : Prt.takeL (k.p c) = k.p c) (h4 : allocA k.rl k.sl 8 (c : Int) = ⟨(pg : Int), 0, rl, sl⟩) (h5 : Prt.addC P (k.p c) (pg : Int) = 0) (h6 : Prt.takeC (Prt.addL P c (k.p c) (pg : Int)) = 0) (h7 : Prt.takeA (Prt.addL P c (k.p c) (pg : Int)) = ((pg * 64 : Nat) : Int)) (h8 : ¬ O ((pg * 64 : Nat) : Int) (c : Int)) (h9 : Inv P (({ k with rl := rl, sl := sl } : K).pool c (Prt.takeL (Prt.addL P c (k.p c) (pg : Int)))) (Plus O ((pg * 64 : Nat) : Int) (c : Int))) (h10 : pg + 8 ≤ P) (h11 : ∀ d, d < 4 → ∀ y ∈ k.p d, y.page + 8 ≤ pg ∨ pg + 8 ≤ y.page)
theorem Inv.takeS (h : Inv P k O) {c : Nat} (hc : c < 4) : TakeS P k O c := by
  rcases Prt.takeQ_ways (k.p c) with ⟨e, none_⟩ | ⟨i, pg, a, r, _, hx, e⟩
  · have h1 : Prt.takeC (k.p c) = 2 := by unfold Prt.takeC; rw [e]
    have h2 : Prt.takeA (k.p c) = 0 := by unfold Prt.takeA; rw [e]
    have h3 : Prt.takeL (k.p c) = k.p c := by unfold Prt.takeL; rw [e]
    cases f : fitAt k.rl 8 with
    | none => exact .none h1 h2 h3 (allocA_full ⟨by omega, by omega, by omega⟩ f)
    | some ix =>
      obtain ⟨i, x⟩ := ix
      have fi := fit_at_some f
      have hx := h.whole.right.mem (List.mem_of_getElem? fi.at_)
      have big := fi.big
      obtain ⟨pg, hpg⟩ : ∃ pg : Nat, x.1 = (pg : Int) := ⟨x.1.toNat, by omega⟩
      have al := allocA_ok (sl := k.sl) (cl := (c : Int)) ⟨by omega, by omega, by omega⟩ f
      have ha := h.on_.allocBack (c := c) rfl hc fi
      rw [hpg] at al ha
      have up : pg + 8 ≤ P := by omega
      have hs : sp (pg : Int) 8 (c : Int) ∈ insL k.sl (sp (pg : Int) 8 (c : Int)) := mem_ins.2 (.inl rfl)
      have pl : ∃ j, Prt.placeQ pg (k.p c) = some j := by
        cases q : Prt.placeQ pg (k.p c) with
        | some j => exact ⟨j, rfl⟩
        | none =>
          exfalso
          have far : ∀ y ∈ k.p c, y.page + 8 ≤ pg ∨ pg + 8 ≤ y.page := fun y hy => by
            have := h.fresh fi (by omega) (h.pool c hc y hy)
            simp only [hpg] at this
            omega
          have asc := (h.good c hc).asc
          generalize k.p c = L at q far asc
          induction L with
          | nil => cases q
          | cons y t ih =>
            rcases far y List.mem_cons_self with z | z
            · have st : Prt.placeQ pg (y :: t) = (Prt.placeQ pg ((y :: t).drop 1)).map (· + 1) := Prt.placeQ_go (by simp) (fun w hw => by simp at hw; rw [hw]; exact z)
              rw [q] at st
              cases q2 : Prt.placeQ pg t with
              | none => exact ih q2 (fun w hw => far w (List.mem_cons_of_mem _ hw)) (List.pairwise_cons.1 asc).2
              | some j => rw [List.drop_one, List.tail_cons, q2] at st; cases st
            · have := Prt.placeQ_here (L := y :: t) (k := 0) (x := y) rfl (fun w hw => by simp at hw) z
              rw [q] at this
              cases this
      obtain ⟨j, pl⟩ := pl
      obtain ⟨r, hr⟩ := all_head (pg := pg) hc
      obtain ⟨nO, ad⟩ := ha.adopt (l1 := k.back) (l2 := []) hc rfl hs pl hr
      have hadd : Prt.addL P c (k.p c) (pg : Int) = Prt.insQ c (k.p c) j pg := by
        unfold Prt.addL
        rw [if_neg (by omega), Int.toNat_natCast, pl]
      have hjl := (Prt.placeQ_some pl (h.good c hc).asc).1
      have hget : (Prt.insQ c (k.p c) j pg)[j]? = some ⟨pg, (pg * 64) :: r⟩ := by
        unfold Prt.insQ
        rw [hr, List.getElem?_append_right (by rw [List.length_take]; omega), List.length_take, Nat.min_eq_left hjl, Nat.sub_self]
        rfl
      have htake := Prt.takeQ_at (L := Prt.insQ c (k.p c) j pg) (fun y hy => by
        unfold Prt.insQ at hy
        rw [List.take_append_of_le_length (by rw [List.length_take]; omega)] at hy
        exact none_ y (List.mem_of_mem_take (List.mem_of_mem_take hy))) hget
      have hset : (Prt.insQ c (k.p c) j pg).set j ⟨pg, r⟩ = (k.p c).take j ++ ⟨pg, r⟩ :: (k.p c).drop j := by
        unfold Prt.insQ
        rw [List.set_append_right _ _ (by rw [List.length_take]; omega), List.length_take, Nat.min_eq_left hjl, Nat.sub_self, List.set_cons_zero]
      refine .new pg _ _ h1 h2 h3 al ?_ ?_ ?_ nO ?_ up (fun d hd y hy => by
        have := h.fresh fi (by omega) (h.pool d hd y hy)
        simp only [hpg] at this
        omega)
      · unfold Prt.addC
        rw [if_neg (by omega), Int.toNat_natCast, pl]
      · rw [hadd]; unfold Prt.takeC; rw [htake]
      · rw [hadd]; unfold Prt.takeA; rw [htake]
      · rw [hadd]
        have : Prt.takeL (Prt.insQ c (k.p c) j pg) = (k.p c).take j ++ ⟨pg, r⟩ :: (k.p c).drop j := by unfold Prt.takeL; rw [htake, ← hset]
        rw [this]
        obtain ⟨krl, ksl, kp, kbig, kon, kback⟩ := k
        simp only [List.append_nil] at ad
        exact Inv.phase (on := kon) ad h.off
  · have hT := h.take hc hx
    refine .has a ?_ ?_ hT.1 ?_
    · unfold Prt.takeC; rw [e]
    · unfold Prt.takeA; rw [e]
    · have : Prt.takeL (k.p c) = (k.p c).set i ⟨pg, r⟩ := by unfold Prt.takeL; rw [e]
      rw [this]
      exact hT.2
/-- A stack of a large class. -/
inductive TakeB (P : Nat) (k : K) (O : Int → Int → Prop) (c : Int) : Prop
  | has (h1 : Bg.takeC k.big c = 0) (h3 : ¬ O (Bg.takeA k.big c) c) (h4 : Inv P { k with big := Bg.takeL k.big c } (Plus O (Bg.takeA k.big c) c))
  | none (h1 : Bg.takeC k.big c = 2) (h4 : allocA k.rl k.sl (pagesI c) c = ⟨0, 3, k.rl, k.sl⟩)
  | new (pg : Nat) (rl : List R) (sl : List S) (h1 : Bg.takeC k.big c = 2) (h4 : allocA k.rl k.sl (pagesI c) c = ⟨(pg : Int), 0, rl, sl⟩) (h8 : ¬ O ((pg : Int) * 64) c) (h9 : Inv P { k with rl := rl, sl := sl } (Plus O ((pg : Int) * 64) c)) (h10 : pg < P)
theorem Inv.takeB (h : Inv P k O) {c : Int} (c4 : 4 ≤ c) (c7 : c ≤ 7) : TakeB P k O c := by
  have w := pages_large c4 c7
  rcases Bg.take_ways k.big c with ⟨_, _, h1, _, _⟩ | ⟨x, hx, hc, _, h1, hL, hA⟩
  · cases f : fitAt k.rl (pagesI c) with
    | none => exact .none h1 (allocA_full ⟨by omega, by omega, by omega⟩ f)
    | some ix =>
      obtain ⟨i, x⟩ := ix
      have fi := fit_at_some f
      have hx := h.whole.right.mem (List.mem_of_getElem? fi.at_)
      have big := fi.big
      obtain ⟨pg, hpg⟩ : ∃ pg : Nat, x.1 = (pg : Int) := ⟨x.1.toNat, by omega⟩
      have al := allocA_ok (sl := k.sl) (cl := c) ⟨by omega, by omega, by omega⟩ f
      have ha := h.allocLarge c4 c7 fi
      rw [hpg] at al ha
      exact .new pg _ _ h1 al ha.1 ha.2 (by omega)
  · have t := h.takeBig (split_at hx)
    rw [← hL, ← hA, hc] at t
    exact .has h1 t.1 t.2
/-- A stack of a small class is given back. -/
inductive GiveS (P : Nat) (k : K) (O : Int → Int → Prop) (a : Int) (c : Nat) : Prop
  | stay (pg : Int) (h1 : Prt.putR c (k.p c) a = ((pg, false, 0), Prt.putL c (k.p c) a)) (h4 : Inv P (k.pool c (Prt.putL c (k.p c) a)) (Minus O a (c : Int)))
  | back (pg : Int) (h1 : Prt.putR c (k.p c) a = ((pg, true, 0), Prt.putL c (k.p c) a)) (h2 : k.on = true) (h3 : Lq.putC true k.back pg = 0) (h5 : Lq.putL true k.back pg = k.back ++ [pg]) (h4 : Inv P { k.pool c (Prt.putL c (k.p c) a) with back := k.back ++ [pg] } (Minus O a (c : Int)))
  | gone (pg : Int) (h1 : Prt.putR c (k.p c) a = ((pg, true, 0), Prt.putL c (k.p c) a)) (h2 : k.on = false) (h3 : (freeA k.rl k.sl pg).e = 0) (h4 : Inv P { k.pool c (Prt.putL c (k.p c) a) with rl := (freeA k.rl k.sl pg).rl, sl := (freeA k.rl k.sl pg).sl } (Minus O a (c : Int)))
theorem Inv.giveS (h : Inv P k O) {c : Nat} (hc : c < 4) {a : Int} (o : O a (c : Int)) : GiveS P k O a c := by
  obtain ⟨i, x, m, rfl, hx, ha, hn, hb⟩ := h.found hc o
  have hr := Prt.putR_at hb hx ha
  rw [Int.toNat_natCast, if_neg hn] at hr
  by_cases d : x.free.length + 1 = Prt.perN c
  · rw [if_pos d] at hr
    have hL : Prt.putL c (k.p c) (m : Int) = (k.p c).take i ++ (k.p c).drop (i + 1) := by unfold Prt.putL; rw [hr]
    have hR : Prt.putR c (k.p c) (m : Int) = (((x.page : Int), true, 0), Prt.putL c (k.p c) (m : Int)) := by rw [hL, hr]
    have up := h.pool_page hc (List.mem_of_getElem? hx)
    have pp := h.pages
    cases on : k.on with
    | true =>
      obtain ⟨nb, lv⟩ := h.leave on hc hx ha hn d
      have may : Lq.mayI (x.page : Int) = true := decide_eq_true (by omega)
      have ov : Lq.overI k.back (x.page : Int) = false := by
        cases e : Lq.overI k.back (x.page : Int) with
        | false => rfl
        | true =>
          obtain ⟨q, hq, z⟩ := List.any_eq_true.1 e
          obtain ⟨d', d4, hs, _⟩ := h.back q hq
          have z := of_decide_eq_true z
          have := span_eq h.whole.good hs (h.pool c hc x (List.mem_of_getElem? hx)) (by show q < (x.page : Int) + 8; omega) (by show (x.page : Int) < q + 8; omega)
          injection this with z1
          exact absurd (z1 ▸ hq) nb
      rw [← hL] at lv
      refine .back (x.page : Int) hR on ?_ ?_ lv
      · unfold Lq.putC; rw [may, ov]; rfl
      · unfold Lq.putL; rw [may, ov]; rfl
    | false =>
      obtain ⟨nb, lv⟩ := h.on_.leave rfl hc hx ha hn d
      obtain ⟨b0, g0⟩ := h.off on
      have e1 : ({ k with on := true } : K).p c = k.p c := rfl
      rw [e1, ← hL] at lv
      obtain ⟨e0, em⟩ := lv.emptyBack (l1 := []) (l2 := []) (q := (x.page : Int)) rfl (by show k.back ++ [(x.page : Int)] = _; rw [b0])
      refine .gone (x.page : Int) hR on e0 ?_
      clear hL hR hr
      obtain ⟨krl, ksl, kp, kbig, kon, kback⟩ := k
      simp only at on b0 g0
      subst on; subst b0; subst g0
      exact Inv.phase (on := false) em (fun _ => ⟨rfl, rfl⟩)
  · rw [if_neg d] at hr
    have hL : Prt.putL c (k.p c) (m : Int) = (k.p c).set i ⟨x.page, m :: x.free⟩ := by unfold Prt.putL; rw [hr]
    have pt := h.put hc hx ha hn d
    rw [← hL] at pt
    exact .stay (x.page : Int) (by rw [hL, hr]) pt
/-- A stack of a large class is given back. -/
inductive GiveB (P : Nat) (k : K) (O : Int → Int → Prop) (a c : Int) : Prop
  | back (h2 : k.on = true) (h3 : Bg.putC k.big (a, c) = 0) (h4 : Inv P { k with big := Bg.putL k.big (a, c) } (Minus O a c))
  | gone (h2 : k.on = false) (h3 : (freeA k.rl k.sl (a / 64)).e = 0) (h4 : Inv P { k with rl := (freeA k.rl k.sl (a / 64)).rl, sl := (freeA k.rl k.sl (a / 64)).sl } (Minus O a c))
theorem Inv.giveB (h : Inv P k O) {a c : Int} (o : O a c) (c4 : 4 ≤ c) : GiveB P k O a c := by
  cases on : k.on with
  | true =>
    obtain ⟨m, n, g⟩ := h.giveBig on o c4
    have hL : Bg.putL k.big (a, c) = Bg.insL k.big (a, c) := by unfold Bg.putL; rw [if_pos m, if_neg (by rw [n]; simp)]
    exact .back on (by unfold Bg.putC; rw [if_pos m, if_neg (by rw [n]; simp)]) (by rw [hL]; exact g)
  | false =>
    obtain ⟨b0, g0⟩ := h.off on
    obtain ⟨m, n, g⟩ := h.on_.giveBig rfl o c4
    have hi : Bg.insL k.big (a, c) = [(a, c)] := by rw [g0]; rfl
    obtain ⟨e0, em⟩ := g.emptyBig (l1 := []) (l2 := []) (b := (a, c)) rfl hi
    refine .gone on e0 ?_
    obtain ⟨krl, ksl, kp, kbig, kon, kback⟩ := k
    simp only at on b0 g0
    subst on; subst b0; subst g0
    exact Inv.phase (on := false) em (fun _ => ⟨rfl, rfl⟩)
/-! ### The same as plain functions -/
def takeSR (P : Nat) (k : K) (c : Nat) : K × Int × Int :=
  if Prt.takeC (k.p c) = 0 then (k.pool c (Prt.takeL (k.p c)), Prt.takeA (k.p c), 0)
  else if (allocA k.rl k.sl 8 (c : Int)).e = 0 then (({ k with rl := (allocA k.rl k.sl 8 (c : Int)).rl, sl := (allocA k.rl k.sl 8 (c : Int)).sl } : K).pool c (Prt.takeL (Prt.addL P c (k.p c) (allocA k.rl k.sl 8 (c : Int)).x)), Prt.takeA (Prt.addL P c (k.p c) (allocA k.rl k.sl 8 (c : Int)).x), 0)
  else (k, 0, 3)
def takeLR (k : K) (c : Int) : K × Int × Int :=
  if Bg.takeC k.big c = 0 then ({ k with big := Bg.takeL k.big c }, Bg.takeA k.big c, 0)
  else if (allocA k.rl k.sl (pagesI c) c).e = 0 then ({ k with rl := (allocA k.rl k.sl (pagesI c) c).rl, sl := (allocA k.rl k.sl (pagesI c) c).sl }, (allocA k.rl k.sl (pagesI c) c).x * 64, 0)
  else (k, 0, 3)
def giveSR (k : K) (a : Int) (c : Nat) : K :=
  if (Prt.putG c (k.p c) a) then
    if k.on then { k.pool c (Prt.putL c (k.p c) a) with back := Lq.putL true k.back (Prt.putP c (k.p c) a) }
    else { k.pool c (Prt.putL c (k.p c) a) with rl := (freeA k.rl k.sl (Prt.putP c (k.p c) a)).rl, sl := (freeA k.rl k.sl (Prt.putP c (k.p c) a)).sl }
  else k.pool c (Prt.putL c (k.p c) a)
def giveLR (k : K) (a c : Int) : K :=
  if k.on then { k with big := Bg.putL k.big (a, c) } else { k with rl := (freeA k.rl k.sl (a / 64)).rl, sl := (freeA k.rl k.sl (a / 64)).sl }
/-- A stack is taken, or there is no room. -/
structure Took (P : Nat) (k : K) (O : Int → Int → Prop) (c : Int) (r : K × Int × Int) : Prop where
  way : (r.2.2 = 0 ∧ ¬ O r.2.1 c ∧ Inv P r.1 (Plus O r.2.1 c)) ∨ (r.2.2 = 3 ∧ r.2.1 = 0 ∧ r.1 = k)
theorem Inv.tookS (h : Inv P k O) {c : Nat} (hc : c < 4) : Took P k O (c : Int) (takeSR P k c) := by
  unfold takeSR
  cases h.takeS hc with
  | has a h1 h2 h3 h4 =>
    rw [if_pos h1, h2]
    exact ⟨.inl ⟨rfl, h3, h4⟩⟩
  | none h1 h2 h3 h4 =>
    rw [if_neg (by omega), h4, if_neg (show ¬ (3 : Int) = 0 by decide)]
    exact ⟨.inr ⟨rfl, rfl, rfl⟩⟩
  | new pg rl sl h1 h2 h3 h4 h5 h6 h7 h8 h9 h10 h11 =>
    rw [if_neg (by omega), h4, if_pos rfl]
    simp only [h7]
    exact ⟨.inl ⟨rfl, h8, h9⟩⟩
theorem Inv.tookL (h : Inv P k O) {c : Int} (c4 : 4 ≤ c) (c7 : c ≤ 7) : Took P k O c (takeLR k c) := by
  unfold takeLR
  cases h.takeB c4 c7 with
  | has h1 h3 h4 =>
    rw [if_pos h1]
    exact ⟨.inl ⟨rfl, h3, h4⟩⟩
  | none h1 h4 =>
    rw [if_neg (by omega), h4, if_neg (show ¬ (3 : Int) = 0 by decide)]
    exact ⟨.inr ⟨rfl, rfl, rfl⟩⟩
  | new pg rl sl h1 h4 h8 h9 h10 =>
    rw [if_neg (by omega), h4, if_pos rfl]
    exact ⟨.inl ⟨rfl, h8, h9⟩⟩
theorem Inv.gaveS (h : Inv P k O) {c : Nat} (hc : c < 4) {a : Int} (o : O a (c : Int)) : Inv P (giveSR k a c) (Minus O a (c : Int)) := by
  unfold giveSR Prt.putG Prt.putP
  cases h.giveS hc o with
  | stay pg h1 h4 =>
    rw [h1, if_neg (by simp)]
    exact h4
  | back pg h1 h2 h3 h5 h4 =>
    rw [h1, if_pos rfl, if_pos h2]
    simp only [h5]
    exact h4
  | gone pg h1 h2 h3 h4 =>
    rw [h1, if_pos rfl, if_neg (by rw [h2]; simp)]
    exact h4
theorem Inv.gaveL (h : Inv P k O) {a c : Int} (o : O a c) (c4 : 4 ≤ c) : Inv P (giveLR k a c) (Minus O a c) := by
  unfold giveLR
  cases h.giveB o c4 with
  | back h2 h3 h4 => rw [if_pos h2]; exact h4
  | gone h2 h3 h4 => rw [if_neg (by rw [h2]; simp)]; exact h4
/-! ### The phase is turned off -/
def freeAll (rl : List R) (sl : List S) : List Int → List R × List S
  | [] => (rl, sl)
  | q :: t => freeAll (freeA rl sl q).rl (freeA rl sl q).sl t
def bigPages (l : List Bg.R) : List Int := l.map fun b => b.1 / 64
/-- One of those that are kept back, the first one, is freed. -/
theorem Inv.dropBack {rl : List R} {sl : List S} {p : Nat → List Prt.Q} {big : List Bg.R} {q : Int} {t : List Int} (h : Inv P ⟨rl, sl, p, big, true, q :: t⟩ O) : (freeA rl sl q).e = 0 ∧ Inv P ⟨(freeA rl sl q).rl, (freeA rl sl q).sl, p, big, true, t⟩ O := h.emptyBack (l1 := []) rfl rfl
theorem Inv.dropBig {rl : List R} {sl : List S} {p : Nat → List Prt.Q} {back : List Int} {b : Bg.R} {t : List Bg.R} (h : Inv P ⟨rl, sl, p, b :: t, true, back⟩ O) : (freeA rl sl (b.1 / 64)).e = 0 ∧ Inv P ⟨(freeA rl sl (b.1 / 64)).rl, (freeA rl sl (b.1 / 64)).sl, p, t, true, back⟩ O := h.emptyBig (l1 := []) rfl rfl
theorem Inv.drainBack {p : Nat → List Prt.Q} {big : List Bg.R} : ∀ {back : List Int} {rl : List R} {sl : List S}, Inv P ⟨rl, sl, p, big, true, back⟩ O → Inv P ⟨(freeAll rl sl back).1, (freeAll rl sl back).2, p, big, true, []⟩ O
  | [], _, _, h => h
  | q :: t, rl, sl, h => by
    show Inv P ⟨(freeAll (freeA rl sl q).rl (freeA rl sl q).sl t).1, (freeAll (freeA rl sl q).rl (freeA rl sl q).sl t).2, p, big, true, []⟩ O
    exact Inv.drainBack h.dropBack.2
theorem Inv.drainBig {p : Nat → List Prt.Q} {back : List Int} : ∀ {big : List Bg.R} {rl : List R} {sl : List S}, Inv P ⟨rl, sl, p, big, true, back⟩ O → Inv P ⟨(freeAll rl sl (bigPages big)).1, (freeAll rl sl (bigPages big)).2, p, [], true, back⟩ O
  | [], _, _, h => h
  | b :: t, rl, sl, h => by
    show Inv P ⟨(freeAll (freeA rl sl (b.1 / 64)).rl (freeA rl sl (b.1 / 64)).sl (bigPages t)).1, (freeAll (freeA rl sl (b.1 / 64)).rl (freeA rl sl (b.1 / 64)).sl (bigPages t)).2, p, [], true, back⟩ O
    exact Inv.drainBig h.dropBig.2
def gcK (k : K) (on : Bool) : K := if on then { k with on := true } else
  let s := freeAll k.rl k.sl k.back
  let t := freeAll s.1 s.2 (bigPages k.big)
  ⟨t.1, t.2, k.p, [], false, []⟩
theorem Inv.gc (h : Inv P k O) (on : Bool) : Inv P (gcK k on) O := by
  unfold gcK
  cases on with
  | true => rw [if_pos rfl]; exact h.on_
  | false =>
    rw [if_neg (by simp)]
    obtain ⟨krl, ksl, kp, kbig, kon, kback⟩ := k
    have d := h.on_.drainBack.drainBig
    exact Inv.phase (on := false) d (fun _ => ⟨rfl, rfl⟩)
/-- Where nothing is out, and the phase is off, there is one run. -/
theorem Inv.quiet (h : Inv P k O) (on : k.on = false) (none_ : ∀ a c, ¬ O a c) : k.rl = [(0, (P : Int))] ∧ k.sl = [] ∧ k.big = [] ∧ k.back = [] ∧ ∀ c, c < 4 → k.p c = [] := by
  obtain ⟨b0, g0⟩ := h.off on
  have pools : ∀ c, c < 4 → k.p c = [] := fun c hc => by
    cases e : k.p c with
    | nil => rfl
    | cons x t =>
      exfalso
      have hx : x ∈ k.p c := by rw [e]; exact List.mem_cons_self
      have all : ∀ a ∈ Prt.allQ c x.page, a ∈ x.free := fun a ha => (h.stk c hc x hx a ha).resolve_right (none_ _ _)
      have fw := h.some_ c hc x hx
      have nd := Prt.allQ_nodup (page := x.page) hc
      have len := Prt.allQ_length c x.page
      have : ∀ (l m : List Nat), l.Nodup → (∀ a ∈ l, a ∈ m) → l.length ≤ m.length := by
        intro l
        induction l with
        | nil => intro m _ _; simp
        | cons a t ih =>
          intro m nd sub
          have nd := List.nodup_cons.1 nd
          have ha := sub a List.mem_cons_self
          have := ih (m.erase a) nd.2 (fun b hb => (List.mem_erase_of_ne (fun e => by subst e; exact nd.1 hb)).2 (sub b (List.mem_cons_of_mem _ hb)))
          rw [List.length_erase_of_mem ha] at this
          have : 0 < m.length := List.length_pos_of_mem ha
          simp only [List.length_cons]
          omega
      have := this _ _ nd all
      omega
  have spans : k.sl = [] := by
    cases e : k.sl with
    | nil => rfl
    | cons s t =>
      exfalso
      rcases h.cover s (by rw [e]; exact List.mem_cons_self) with ⟨c0, c4, _, q⟩ | ⟨_, _, _, q⟩
      · rcases q with ⟨x, hx, _⟩ | q
        · rw [pools _ (by omega)] at hx; cases hx
        · rw [b0] at q; cases q
      · rcases q with q | q
        · rw [g0] at q; cases q
        · exact none_ _ _ q
  refine ⟨?_, spans, g0, b0, pools⟩
  have w := h.whole
  rw [spans] at w
  exact w.back
end Go.Proofs.YtjfkmgicbakmgaaGreat.Sto
