/-
  What slices.Insert and slices.Delete of one span answer of a slice that is owned. Own work; proved by a walk through the library's text as it was turned.
-/
import Derived.Test.YtmajgfpfbieakaaRows
import Derived.Test.YtmajgfpfbieakaaLiveMem
import Derived.Test.YtmajgfpfbieakaaLiveCopy
import Derived.Test.YtmajgfpfbieakaaLiveIns
import Derived.WalkKit
import Derived.ProofKit
import Derived.OpenShut
import Derived.Outline
import Derived.Deep.Light
import Derived.IntWalk
import Derived.RegionTactic
import Derived.Deep.RegionLaw
namespace Go.Proofs.Ytmajgfpfbieakaa.Lm
open Go.ChangeShapes Go.WideShapes Go.ChangeAt Go.RowKit
set_option maxRecDepth 100000

/-- Insert, whatever room there is. -/
theorem ins_any (B : Nat) (v : Value) (n i : Nat) (l : List S) (x : S) (hx : Fit x) (vb vc : Nat) (w : World) (h : OwS w B v n l) (b : BxS w vb x) (hv : v.ownBlock ≠ some vb) (hi : i ≤ n) (hn : n ≤ 1000) (hB : B ≤ w.heap.size) :
    Calls Try.prog 45 #[v, .int .i64 (i : Int), .slice (some ⟨vb, 0, none⟩) 1 vc] w (Turned B v (l.take i ++ x :: l.drop i) w) := by
  have hl := h.len
  by_cases c : i = n
  · subst c
    have e1 : l.take i = l := List.take_of_length_le (by omega)
    have e2 : l.drop i = [] := List.drop_eq_nil_of_le (by omega)
    rw [e1, e2]
    refine ins_end B v i l x vb vc w h ⟨rfl, fun y hy => by obtain rfl := List.mem_singleton.1 hy; exact hx, fun _ => ⟨vb, 0, rfl, Blk.lt b, fun j y hy => ?_⟩⟩ hn hB
    have hj := (List.getElem?_eq_some_iff.1 hy).1
    obtain rfl : j = 0 := by simpa using hj
    simp only [List.getElem?_cons_zero, Option.some.injEq] at hy
    subst hy
    exact ⟨b.c0, b.c1, b.c2⟩
  · rcases h.blk with ⟨_, rfl⟩ | ⟨g, cp, r, rfl, hb, hg, hr, hc, hm⟩
    · omega
    · by_cases d : n + 1 ≤ cp
      · exact ins_shift B g n cp i l x hx r vb vc _ w hb hg hl hr h.fit d hm (by omega) hn b (fun e => hv (by rw [e]; rfl))
      · exact ins_grow B g n cp i l x hx r vb vc _ w hB hg hl h.fit hc (by omega) (by omega) hn b

theorem ar_step {ops : Array Oper} {o : Oper} {a : Act} {K : Act → World → Prop} {Q : Exit → Act → World → Prop} {E : Prop} {w : World} (hgd : o.guard = none) (s x : Operand)
    (ho : o.op = .call { callee := .builtin .append, args := #[s, x], argTypes := #[22, 22] }) (hty : o.type = 22)
    {g : Nat} {cur cs : List Value} (i m c sc : Nat) (T : TypeId) (h : Blk w g T cur) (ad : Addr) (hs : a.eval s = .slice (some ⟨g, 0, none⟩) i c) (hx : a.eval x = .slice (some ad) m sc)
    (hn : cs.length = m * 3) (hfit : i * 3 + cs.length ≤ cur.length) (hroom : i + m ≤ c) (h1 : ∀ u ∈ cs, u.oneCell' = true) (hr : ∀ j v, cs[j]? = some v → w.cell? (ad.add j) = some v)
    (go : ∀ w', Hid (Blk w' g T (over cur (i * 3) cs)) → Hid (Kept (Only g) w w') → K (a.put o.dst (.slice (some ⟨g, 0, none⟩) (i + m) c)) w') :
    if Region.wanted o (yielded ops a.tmps) = true then Oper.wp Try.prog o a w K Q else E := by
  have hw : Region.wanted o (yielded ops a.tmps) = true := by simp [Region.wanted, hgd]
  rw [if_pos hw]
  obtain ⟨i0, hi, hz0, hz1, hz2⟩ := info_parts Try.spanInfo
  have hrun := run_append_room_cells (P := Try.prog) w 22 22 40 i0 Try.underlying22 hi g 0 i c ad m sc cs (by rw [hz1]; exact hn) hr h1 hroom (fun j hj => by rw [hz1, Nat.zero_add]; exact h.mem (by omega)) (fun j hj => h.frozen _)
  rw [hz1, Nat.zero_add] at hrun
  unfold Oper.wp execOp
  simp only [ho, hty, resolve, invoke, builtin, Sem.run_bind, Sem.run_pure, Result.andThen_ok, List.map_toArray, List.map_cons, List.map_nil, hs, hx, hrun]
  exact go _ (Lib.hid (Blk.cells cs cur (i * 3) w h hfit)) (Lib.hid (kept_cells _ _ _ _))
theorem cut_cells (i : Nat) (l : List S) (r : List Value) (hi : i < l.length) : ∃ r', over (over (CS l ++ r) (i * 3) (CS (l.drop (i + 1)))) ((l.length - 1) * 3) (CS [⟨0, 0, 0⟩]) = CS (l.take i ++ l.drop (i + 1)) ++ r' ∧ r'.length = r.length + 3 := by
  have e : CS l = CS (l.take i) ++ (CS [l[i]] ++ CS (l.drop (i + 1))) := by rw [← CS_append, ← CS_append, List.singleton_append, List.getElem_cons_drop, List.take_append_drop]
  have ha : (CS (l.take i)).length = i * 3 := by rw [CS_length]; simp; omega
  have hd : (CS (l.drop (i + 1))).length = (l.length - (i + 1)) * 3 := by rw [CS_length]; simp
  have h3 : (CS [l[i]]).length = 3 := rfl
  have h4 : (CS [⟨0, 0, 0⟩]).length = 3 := rfl
  rw [e, CS_append]
  generalize CS (l.take i) = A at *
  generalize CS (l.drop (i + 1)) = D at *
  generalize CS [l[i]] = X at *
  generalize CS [⟨0, 0, 0⟩] = Z at *
  rw [over_at (i * 3) A (X ++ D) D r ha]
  have := over_at ((l.length - 1) * 3) (A ++ D) [] Z ((X ++ D ++ r).drop D.length) (by rw [List.length_append]; omega)
  rw [List.append_nil, List.nil_append] at this
  rw [this, List.append_assoc]
  exact ⟨_, rfl, by simp; omega⟩
theorem cl_wp {ops : Array Oper} {rest : List Oper} {o : Oper} {a : Act} {Q : Exit → Act → World → Prop} {w : World} (hgd : o.guard = none) (s : Operand)
    (ho : o.op = .call { callee := .builtin .clear, args := #[s], argTypes := #[22] }) {g : Nat} {cur : List Value} (of dc : Nat) (T : TypeId) (h : Blk w g T cur) (hs : a.eval s = .slice (some ⟨g, of, none⟩) 1 dc) (hfit : of + 3 ≤ cur.length)
    (go : ∀ w', Hid (Blk w' g T (over cur of (CS [⟨0, 0, 0⟩]))) → Hid (Kept (Only g) w w') → wpList Try.prog ops Q rest (a.put o.dst (.tuple #[])) w') : wpList Try.prog ops Q (o :: rest) a w := by
  refine wpList_plain hgd fun K hK => ?_
  obtain ⟨w', hrun, h2, h3⟩ := clear_own w of dc T h hfit o.type
  unfold Oper.wp execOp
  simp only [ho, resolve, invoke, builtin, Sem.run_bind, Sem.run_pure, Result.andThen_ok, List.map_toArray, List.map_cons, List.map_nil, hs, hrun]
  exact hK _ _ (go w' h2 h3)
set_option maxHeartbeats 2000000 in
theorem del_any (B : Nat) (v : Value) (n i : Nat) (l : List S) (w : World) (h : OwS w B v n l) (hi : i < n) (hn : n ≤ 1000) :
    Calls Try.prog 46 #[v, .int .i64 (i : Int), .int .i64 ((i : Int) + 1)] w (Turned B v (l.take i ++ l.drop (i + 1)) w) := by
  obtain ⟨k, rfl⟩ : ∃ k, n = k + 1 := ⟨n - 1, by omega⟩
  have hl := h.len
  have hf := h.fit
  rcases h.blk with ⟨_, hz⟩ | ⟨g, c, r, rfl, hB, hg, hr, hc, hm⟩
  · omega
  have hm' : c ≤ 9223372036854775807 := by simp only [maxLen] at hm; omega
  have ha : (CS l).length = (k + 1) * 3 := by rw [CS_length]; omega
  have hd : (CS (l.drop (i + 1))).length = (k - i) * 3 := by rw [CS_length]; simp; omega
  have hL : (l.take i ++ l.drop (i + 1)).length = k := by simp; omega
  obtain ⟨r', hr', hrl⟩ := cut_cells i l r (by omega)
  rw [hl, Nat.add_sub_cancel] at hr'
  have P : ∀ w1 w2, Hid (Kept (Only g) w.drew w1) → Hid (Blk w2 g 40 (over (over (CS l ++ r) (i * 3) (CS (l.drop (i + 1)))) (k * 3) (CS [⟨0, 0, 0⟩]))) → Hid (Kept (Only g) w1 w2) →
      Turned B (.slice (some ⟨g, 0, none⟩) (k + 1) c) (l.take i ++ l.drop (i + 1)) w (.returned (.slice (some ⟨g, 0, none⟩) k c)) w2 := fun w1 w2 k1 b2 k2 => by
    have b2 := b2.out
    rw [hr'] at b2
    refine ⟨_, rfl, ?_, ?_, .inl rfl⟩
    · rw [hL]
      exact OwS.ofBlk hB b2 hL (by omega) (by omega) hm (fun y hy => by
        rcases List.mem_append.1 hy with hy | hy
        · exact hf y (List.mem_of_mem_take hy)
        · exact hf y (List.mem_of_mem_drop hy))
    · exact ((Kept.refl _ _).drew.trans (k1.out.trans k2.out)).mono fun k e => by rw [e]; rfl
  have P := Lib.hid P
  have HB := Lib.hid hg
  obtain ⟨ad, hA, s1⟩ : ∃ ad : Addr, (if c = i + 1 then some (⟨g, 0, none⟩ : Addr) else some ⟨g, (i + 1) * 3, none⟩) = some ad ∧ Hid (∀ j v, (CS (l.drop (i + 1)))[j]? = some v → w.drew.cell? (ad.add j) = some v) := by
    by_cases q : c = i + 1
    · exact ⟨_, if_pos q, Lib.hid fun j v hj => by have := (List.getElem?_eq_some_iff.1 hj).1; omega⟩
    · refine ⟨_, if_neg q, Lib.hid fun j v hj => ?_⟩
      rw [addr_add]
      show w.cell? _ = _
      rw [hg.cell, List.getElem?_append_left (by have := (List.getElem?_eq_some_iff.1 hj).1; omega)]
      rw [C_drop, List.getElem?_drop] at hj
      exact hj
  have o1 := Lib.hid (CS_one (l.drop (i + 1)))
  have f1 := Lib.hid (show i * 3 + (CS (l.drop (i + 1))).length ≤ (CS l ++ r).length from by simp; omega)
  have f2 := Lib.hid (show k * 3 + 3 ≤ (over (CS l ++ r) (i * 3) (CS (l.drop (i + 1)))).length from by rw [over_length f1.out]; simp; omega)
  have hd := Lib.hid hd
  clear h hg hr ha hr' hrl hL
  have e0 : i ≤ c := by omega
  have e9 : ¬ c = k := by omega
  have e10 : (k : Int) ≤ (k : Int) + 1 := by omega
  have e1 : ((i : Int) + 1).toNat = i + 1 := by omega
  have e2 : i + 1 ≤ (k + 1) := by omega
  have e3 : (i : Int) ≤ ((k : Int) + 1) := by omega
  have e4 : (i : Int) + 1 ≤ ((k : Int) + 1) := by omega
  have e5 : (0 : Int) ≤ (i : Int) + 1 := by omega
  have e6 : (i : Int) ≤ (c : Int) := by omega
  have e7 : i ≤ (k + 1) := by omega
  have e8 : i + (k - i) = k := by omega
  go_enter Try.func46, Try.ntmps46
  go_wp2_with fail
  go_region_law (refine ar_step rfl (.tmp 22) (.tmp 25) rfl rfl i (k - i) c (c - (i + 1)) 40 HB.out ad (by simp [Act.eval, Act.put]) (by simp [Act.eval, Act.put]) hd.out f1.out (by omega) o1.out s1.out ?_; intro w1 b1 k1; rw [e8])
  have P := Lib.hid (fun w2 => P.out w1 w2 k1)
  go_wp2_with (refine cl_wp rfl (.tmp 31) rfl (k * 3) (c - k) 40 b1.out rfl f2.out ?_; intro w2 b2 k2; have P := Lib.hid (P.out w2 b2 k2))
  go_ret
  exact P.out
end Go.Proofs.Ytmajgfpfbieakaa.Lm
