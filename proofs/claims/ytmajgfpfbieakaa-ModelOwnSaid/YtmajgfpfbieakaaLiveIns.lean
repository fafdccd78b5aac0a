/-
  What slices.Insert of one span answers of a slice that is owned. Own work; proved by a walk through the library's text as it was turned.
-/
import Derived.Test.YtmajgfpfbieakaaRows
import Derived.Test.YtmajgfpfbieakaaLiveMem
import Derived.Test.YtmajgfpfbieakaaLiveCopy
import Derived.WalkKit
import Derived.ProofKit
import Derived.OpenShut
import Derived.Outline
import Derived.Deep.Light
import Derived.IntWalk
import Derived.RegionTactic
import Derived.Deep.RegionLaw
import Derived.Lib.Overlaps
import Derived.Laws.Externs
namespace Go.Proofs.Ytmajgfpfbieakaa.Lm
open Go.ChangeShapes Go.WideShapes Go.ChangeAt Go.RowKit
set_option maxRecDepth 100000

/-- What Insert and Delete answer: a slice that is owned, of the list L; nothing but its old block has turned. -/
def Turned (B : Nat) (v : Value) (L : List S) (w : World) (e : Ending) (w' : World) : Prop :=
  ∃ v', e = .returned v' ∧ OwS w' B v' L.length L ∧ Kept (fun k => some k = v.ownBlock) w w' ∧ (v'.ownBlock = v.ownBlock ∨ v'.ownBlock = some w.heap.size)
theorem ins_end (B : Nat) (v : Value) (n : Nat) (l : List S) (x : S) (vb vc : Nat) (w : World) (h : OwS w B v n l) (r : RsS w (some ⟨vb, 0, none⟩) 1 [x]) (hn : n ≤ 1000) (hb : B ≤ w.heap.size) :
    Calls Try.prog 45 #[v, .int .i64 (n : Int), .slice (some ⟨vb, 0, none⟩) 1 vc] w (Turned B v (l ++ [x]) w) := by
  have hl := h.len
  have P : ∀ v' w', Hid (OwS w' B v' (n + 1) (l ++ [x])) → Hid (Kept (fun k => some k = v.ownBlock) w w') → Hid (v'.ownBlock = v.ownBlock ∨ v'.ownBlock = some w.heap.size) → Turned B v (l ++ [x]) w (.returned v') w' := fun v' w' h1 h2 h3 => ⟨v', rfl, by simpa [hl] using h1.out, h2.out, h3.out⟩
  have P := Lib.hid P
  have HR := Lib.hid r
  have HO := Lib.hid h
  obtain ⟨A, c, rfl, _, hc, hA⟩ := h.rs
  clear h r hl
  cases A with
  | none =>
    obtain rfl := hA rfl
    obtain rfl : n = 0 := by omega
    clear hA
    go_enter Try.func45, Try.ntmps45
    go_wp2_with (at_builtin; refine appS_wp rfl (.tmp 23) (.tmp 24) rfl rfl B _ 0 l rfl HO.out _ 1 vc [x] rfl HR.out (fun h => by cases h) hn (by omega) hb _ rfl _ rfl ?_; intro v' w' h1 h2 h3; have P := Lib.hid (P.out v' w' h1 h2 h3))
    go_ret
    exact P.out
  | some ad =>
    obtain ⟨ab, ao, asp⟩ := ad
    clear hA
    go_enter Try.func45, Try.ntmps45
    go_wp2_with (at_builtin; refine appS_wp rfl (.tmp 23) (.tmp 24) rfl rfl B _ n l rfl HO.out _ 1 vc [x] rfl HR.out (fun h => by cases h) hn (by omega) hb _ rfl _ rfl ?_; intro v' w' h1 h2 h3; have P := Lib.hid (P.out v' w' h1 h2 h3))
    all_goals
      go_ret
      exact P.out
/-- Two copies make room for one, and lay it. -/
theorem shift_cells (i : Nat) (l : List S) (x : S) (r : List Value) (hi : i < l.length) :
    over (over (CS l ++ r) ((i + 1) * 3) (CS (l.drop i))) (i * 3) (CS [x]) = CS (l.take i ++ x :: l.drop i) ++ r.drop 3 := by
  have e : CS l = CS (l.take i) ++ CS (l.drop i) := by rw [← CS_append, List.take_append_drop]
  have ha : (CS (l.take i)).length = i * 3 := by rw [CS_length]; simp; omega
  have hd : 3 ≤ (CS (l.drop i)).length := by rw [CS_length]; simp; omega
  rw [e, CS_append, show CS (x :: l.drop i) = CS [x] ++ CS (l.drop i) from rfl]
  generalize CS (l.take i) = A at *
  generalize CS (l.drop i) = D at *
  have h3 : (CS [x]).length = 3 := rfl
  generalize CS [x] = X at *
  have hA : (A ++ D.take 3).length = (i + 1) * 3 := by simp; omega
  have e1 : A ++ D ++ r = (A ++ D.take 3) ++ D.drop 3 ++ r := by simp
  rw [e1, over_at _ _ _ _ _ hA]
  have e2 : (D.drop 3 ++ r).drop D.length = r.drop 3 := by
    rw [List.drop_append, List.drop_eq_nil_of_le (by simp), List.nil_append]
    congr 1
    simp
    omega
  have h4 : (D.take 3).length = 3 := by simp; omega
  rw [e2, show A ++ D.take 3 ++ D ++ r.drop 3 = A ++ (D.take 3 ++ D) ++ r.drop 3 by simp, over_at _ _ _ _ _ ha, h3, List.append_assoc (D.take 3), List.drop_left' h4]
  simp
theorem overlaps_no (w : World) (a b la ca lb cb o : Nat) (ta tb : TypeId) (xs ys : List Value) (ha : Blk w a ta xs) (hb : Blk w b tb ys) (hne : a ≠ b) (h0 : ys ≠ []) :
    (callFunc 49 #[.slice (some ⟨a, 0, none⟩) la ca, .slice (some ⟨b, o, none⟩) lb cb]).run Try.prog w = .ok (.value (.bool false)) w := by
  have sa : w.shape? a = some (ta, xs.length) := by unfold World.shape?; rw [ha]; simp
  have sb : w.shape? b = some (tb, ys.length) := by unfold World.shape?; rw [hb]; simp
  rw [run_callFunc_extern Try.func49 (by kernel_rfl) (by kernel_rfl) (by kernel_rfl) (e := Extern.SlicesOverlaps.overlaps #[22, 22] #[4]) (by kernel_rfl),
    Lib.run_overlaps_apart w 22 4 40 Try.underlying22 3 (fun w => by kernel_rfl) ⟨a, 0, none⟩ ⟨b, o, none⟩ la ca lb cb hne ta tb _ _ sa sb (by simpa using h0) (ha.frozen _) (ha.frozen _)]
  rfl
set_option maxHeartbeats 2000000 in
theorem ins_shift (B g n c i : Nat) (l : List S) (x : S) (hx : Fit x) (r : List Value) (vb vc : Nat) (T : TypeId) (w : World) (hB : B ≤ g) (h : Blk w g 40 (CS l ++ r)) (hl : l.length = n) (hr : r.length = (c - n) * 3) (hf : ∀ x ∈ l, Fit x) (hc : n + 1 ≤ c) (hm : c ≤ maxLen) (hi : i < n) (hn : n ≤ 1000)
    (b : Blk w vb T [.int .i64 x.a, .int .i64 x.n, .int .i64 x.c]) (hv : vb ≠ g) :
    Calls Try.prog 45 #[.slice (some ⟨g, 0, none⟩) n c, .int .i64 (i : Int), .slice (some ⟨vb, 0, none⟩) 1 vc] w (Turned B (.slice (some ⟨g, 0, none⟩) n c) (l.take i ++ x :: l.drop i) w) := by
  have hm' : c ≤ 9223372036854775807 := by simp only [maxLen] at hm; omega
  have ha : (CS l).length = n * 3 := by rw [CS_length]; omega
  have hdl : (CS (l.drop i)).length = (n - i) * 3 := by rw [CS_length]; simp; omega
  have hne : CS l ++ r ≠ [] := fun e => by have := congrArg List.length e; rw [List.length_append, List.length_nil] at this; omega
  have hov := overlaps_no w vb g 1 vc (n - i) (c - (i + 1)) ((i + 1) * 3) T 40 _ _ b h hv hne
  have P : ∀ w1 w2, Hid (Blk w1 g 40 (over (CS l ++ r) ((i + 1) * 3) (CS (l.drop i)))) → Hid (Kept (Only g) w.drew w1) → Hid (Blk w2 g 40 (over (over (CS l ++ r) ((i + 1) * 3) (CS (l.drop i))) (i * 3) (CS [x]))) → Hid (Kept (Only g) w1 w2) →
      Turned B (.slice (some ⟨g, 0, none⟩) n c) (l.take i ++ x :: l.drop i) w (.returned (.slice (some ⟨g, 0, none⟩) (n + 1) c)) w2 := fun w1 w2 _ k1 b2 k2 => by
    have b2 := b2.out
    rw [shift_cells i l x r (by omega)] at b2
    have hL : (l.take i ++ x :: l.drop i).length = n + 1 := by simp; omega
    refine ⟨_, rfl, ?_, ?_, .inl rfl⟩
    · rw [hL]
      exact OwS.ofBlk hB b2 hL (by simp; omega) hc hm (fun y hy => by
        rcases List.mem_append.1 hy with hy | hy
        · exact hf y (List.mem_of_mem_take hy)
        · rcases List.mem_cons.1 hy with rfl | hy
          · exact hx
          · exact hf y (List.mem_of_mem_drop hy))
    · exact ((Kept.refl _ _).drew.trans (k1.out.trans k2.out)).mono fun k e => by rw [e]; rfl
  have P := Lib.hid P
  have HB := Lib.hid h
  have HV := Lib.hid b
  have s1 := Lib.hid (show ∀ j v, (CS (l.drop i))[j]? = some v → w.drew.cell? ((⟨g, i * 3, none⟩ : Addr).add j) = some v from fun j v hj => by
    rw [addr_add]
    show w.cell? _ = _
    rw [h.cell, List.getElem?_append_left (by have := (List.getElem?_eq_some_iff.1 hj).1; omega)]
    rw [C_drop, List.getElem?_drop] at hj
    exact hj)
  have o1 := Lib.hid (CS_one (l.drop i))
  have f1 := Lib.hid (show (i + 1) * 3 + (CS (l.drop i)).length ≤ (CS l ++ r).length from by simp; omega)
  have f2 := Lib.hid (show i * 3 + (CS [x]).length ≤ (over (CS l ++ r) ((i + 1) * 3) (CS (l.drop i))).length from by rw [over_length (by simp; omega)]; simp [CS]; omega)
  have hdl := Lib.hid hdl
  clear h b hr ha hne
  have e1 : ((i : Int) + 1).toNat = i + 1 := by omega
  have e2 : ¬ c = i + 1 := by omega
  have e3 : ¬ c = i := by omega
  have e4 : ((n : Int) + 1).toNat = n + 1 := by omega
  have w1 : IntKind.i64.wrap ((i : Int) + 1) = (i : Int) + 1 := IntWalk.i64_in _ (by omega)
  have b1 : (0 : Int) ≤ (i : Int) + 1 := by omega
  have b2 : i ≤ n := by omega
  have b3 : (i : Int) ≤ (n : Int) + 1 := by omega
  go_enter Try.func45, Try.ntmps45
  go_wp2_with fail
  go_region_law (refine cp_step rfl (.tmp 73) (.tmp 76) rfl rfl ((i + 1) * 3) (n - i) 40 HB.out (c - (i + 1)) (c - i) (n - i) (n + 1 - i) ⟨g, i * 3, none⟩ (by simp [Act.eval, Act.put]) (by simp [Act.eval, Act.put]) (by simp only [Nat.min_def]; split <;> omega) hdl.out f1.out o1.out s1.out ?_; intro w1 b1 k1)
  have s2 := Lib.hid (show ∀ j v, (CS [x])[j]? = some v → w1.cell? ((⟨vb, 0, none⟩ : Addr).add j) = some v from fun j v hj => by
    rw [addr_add, Nat.zero_add, Blk.cell (Blk.kept (Blk.drew HV.out) k1.out hv)]
    exact hj)
  have P := Lib.hid (fun w2 => P.out w1 w2 b1 k1)
  clear s1 HV
  go_wp2_with (refine cp_wp (cs := CS [x]) rfl (.tmp 80) (.tmp 81) rfl rfl (i * 3) 1 40 b1.out (c - i) vc (n + 1 - i) 1 ⟨vb, 0, none⟩ rfl rfl (by simp only [Nat.min_def]; split <;> omega) rfl f2.out (CS_one _) s2.out ?_; intro w2 b2 k2; have P := Lib.hid (P.out w2 b2 k2))
  go_ret
  exact P.out
theorem az_wp {ops : Array Oper} {rest : List Oper} {o : Oper} {a : Act} {Q : Exit → Act → World → Prop} {w : World} (hgd : o.guard = none) (s x : Operand)
    (ho : o.op = .call { callee := .builtin .append, args := #[s, x], argTypes := #[22, 3] }) (hty : o.type = 22) (v u v' : Value) (w' : World) (hs : a.eval s = v) (hx : a.eval x = u)
    (hrun : (Builtin.append_ #[22, 3] 22 #[v, u]).run Try.prog w = .ok v' w') (go : wpList Try.prog ops Q rest (a.put o.dst v') w') : wpList Try.prog ops Q (o :: rest) a w := by
  refine wpList_plain hgd fun K hK => ?_
  unfold Oper.wp execOp
  simp only [ho, hty, resolve, invoke, builtin, Sem.run_bind, Sem.run_pure, Result.andThen_ok, List.map_toArray, List.map_cons, List.map_nil, hs, hx, hrun]
  exact hK _ _ go
set_option maxHeartbeats 2000000 in
theorem ins_grow (B g n c i : Nat) (l : List S) (x : S) (hx : Fit x) (r : List Value) (vb vc : Nat) (T : TypeId) (w : World) (hB : B ≤ w.heap.size) (h : Blk w g 40 (CS l ++ r)) (hl : l.length = n) (hf : ∀ x ∈ l, Fit x) (hnc : n ≤ c) (hc : c < n + 1) (hi : i < n) (hn : n ≤ 1000)
    (b : Blk w vb T [.int .i64 x.a, .int .i64 x.n, .int .i64 x.c]) :
    Calls Try.prog 45 #[.slice (some ⟨g, 0, none⟩) n c, .int .i64 (i : Int), .slice (some ⟨vb, 0, none⟩) 1 vc] w (Turned B (.slice (some ⟨g, 0, none⟩) n c) (l.take i ++ x :: l.drop i) w) := by
  have ht : (CS (l.take i)).length = i * 3 := by rw [CS_length]; simp; omega
  have hd : (CS (l.drop i)).length = (n - i) * 3 := by rw [CS_length]; simp; omega
  have eC : CS l = CS (l.take i) ++ CS (l.drop i) := by rw [← CS_append, List.take_append_drop]
  have hL : (l.take i ++ x :: l.drop i).length = n + 1 := by simp; omega
  obtain ⟨G, rest, w1, hrun, b1, hrl, hG, hGm, k1⟩ := zeros_own w g i c (n + 1 - i) (CS (l.take i)) ht (fun j v hj => by rw [h.cell, eC, List.append_assoc, List.getElem?_append_left (by have := (List.getElem?_eq_some_iff.1 hj).1; omega)]; exact hj) (by omega) (by omega) (by omega)
  rw [show i + (n + 1 - i) = n + 1 by omega] at hrun hG
  rw [show ((n + 1 - i : Nat) : Int) = (n : Int) + 1 - (i : Int) by omega] at hrun
  obtain ⟨N, hN⟩ : ∃ N, N = w.heap.size := ⟨_, rfl⟩
  rw [← hN] at hrun b1
  have hg := h.lt
  have hvb := b.lt
  have o1 : over (CS (l.take i) ++ rest) (i * 3) (CS [x]) = CS (l.take i) ++ CS [x] ++ rest.drop 3 := by
    have := over_at (i * 3) (CS (l.take i)) [] (CS [x]) rest ht
    rw [show (CS [x]).length = 3 from rfl] at this
    simpa using this
  have o2 : over (CS (l.take i) ++ CS [x] ++ rest.drop 3) ((i + 1) * 3) (CS (l.drop i)) = CS (l.take i ++ x :: l.drop i) ++ (rest.drop 3).drop ((n - i) * 3) := by
    have := over_at ((i + 1) * 3) (CS (l.take i) ++ CS [x]) [] (CS (l.drop i)) (rest.drop 3) (by rw [List.length_append, ht]; simp [CS]; omega)
    rw [CS_append, show CS (x :: l.drop i) = CS [x] ++ CS (l.drop i) from rfl]
    simpa [hd] using this
  have P : ∀ w2 w3, Hid (Kept (Only N) w1 w2) → Hid (Kept (Only N) w2.drew w3) → Hid (Blk w3 N 40 (over (CS (l.take i) ++ CS [x] ++ rest.drop 3) ((i + 1) * 3) (CS (l.drop i)))) →
      Turned B (.slice (some ⟨g, 0, none⟩) n c) (l.take i ++ x :: l.drop i) w (.returned (.slice (some ⟨N, 0, none⟩) (n + 1) G)) w3 := fun w2 w3 k2 k3 b3 => by
    have b3 := b3.out
    rw [o2] at b3
    refine ⟨_, rfl, ?_, ?_, .inr (by rw [← hN]; rfl)⟩
    · rw [hL]
      exact OwS.ofBlk (by omega) b3 hL (by simp; omega) hG hGm (fun y hy => by
        rcases List.mem_append.1 hy with hy | hy
        · exact hf y (List.mem_of_mem_take hy)
        · rcases List.mem_cons.1 hy with rfl | hy
          · exact hx
          · exact hf y (List.mem_of_mem_drop hy))
    · exact (k1.join (k2.out.drew.trans k3.out) (fun k hk e => by have : k = N := e; omega)).mono fun _ x => x.elim
  have P := Lib.hid P
  have hgN : g ≠ N := by omega
  have hvN : vb ≠ N := by omega
  have sA := Lib.hid (show ∀ j v, (CS [x])[j]? = some v → w1.cell? ((⟨vb, 0, none⟩ : Addr).add j) = some v from fun j v hj => by
    rw [addr_add, Nat.zero_add, Blk.cell (b.kept k1 (fun x => x))]
    exact hj)
  have sB := Lib.hid (show ∀ w2, Hid (Kept (Only N) w1 w2) → ∀ j v, (CS (l.drop i))[j]? = some v → w2.drew.cell? ((⟨g, i * 3, none⟩ : Addr).add j) = some v from fun w2 k2 j v hj => by
    rw [addr_add]
    show w2.cell? _ = _
    rw [Blk.cell ((h.kept k1 (fun x => x)).kept k2.out hgN), eC, List.append_assoc, List.getElem?_append_right (by omega), show i * 3 + j - (CS (l.take i)).length = j by omega, List.getElem?_append_left (by have := (List.getElem?_eq_some_iff.1 hj).1; omega)]
    exact hj)
  have b1 := Lib.hid b1
  have hd := Lib.hid hd
  have o1 := Lib.hid o1
  have c1 := Lib.hid (CS_one (l.drop i))
  have f1 := Lib.hid (show i * 3 + (CS [x]).length ≤ (CS (l.take i) ++ rest).length from by rw [List.length_append, ht]; simp [CS]; omega)
  have f2 := Lib.hid (show (i + 1) * 3 + (CS (l.drop i)).length ≤ (CS (l.take i) ++ CS [x] ++ rest.drop 3).length from by rw [List.length_append, List.length_append, ht, hd.out]; simp [CS]; omega)
  have hz3 : (c : Int) < (n : Int) + 1 := by omega
  have e0 : ¬ G = i := by omega
  have e1 : ((i : Int) + 1).toNat = i + 1 := by omega
  have e2 : ¬ G = i + 1 := by omega
  have e3 : ¬ c = i := by omega
  have hrun' := Lib.hid hrun
  have q1 : IntKind.i64.wrap ((i : Int) + 1) = (i : Int) + 1 := IntWalk.i64_in _ (by omega)
  have q2 : (0 : Int) ≤ (i : Int) + 1 := by omega
  have q3 : i ≤ n := by omega
  have q4 : (i : Int) ≤ (n : Int) := by omega
  have q5 : (i : Int) ≤ (n : Int) + 1 := by omega
  clear h b ht eC hL hrl o2 k1 hN hg hvb hrun
  go_enter Try.func45, Try.ntmps45
  go_wp2_with (first
    | (at_builtin; refine az_wp rfl (.tmp 34) (.tmp 39) rfl rfl _ _ _ w1 rfl rfl hrun'.out ?_)
    | (refine cp_wp (cs := CS [x]) rfl (.tmp 43) (.tmp 44) rfl rfl (i * 3) 1 40 b1.out (G - i) vc (n + 1 - i) 1 ⟨vb, 0, none⟩ rfl rfl (by simp only [Nat.min_def]; split <;> omega) rfl f1.out (CS_one _) sA.out ?_; intro w2 b2 k2; rw [o1.out] at b2; have sB := Lib.hid (sB.out w2 k2)))
  go_region_law (refine cp_step rfl (.tmp 50) (.tmp 53) rfl rfl ((i + 1) * 3) (n - i) 40 (Blk.drew b2.out) (G - (i + 1)) (c - i) (n - i) (n - i) ⟨g, i * 3, none⟩ (by simp [Act.eval, Act.put]) (by simp [Act.eval, Act.put]) (Nat.min_self _) hd.out f2.out c1.out sB.out ?_; intro w3 b3 k3)
  have P := Lib.hid (P.out w2 w3 k2 k3 b3)
  go_wp2
  go_ret
  exact P.out
end Go.Proofs.Ytmajgfpfbieakaa.Lm
