/-
  The builtins copy, clear and append-of-a-make at slices of spans, by blocks that are known whole. Own work; no program is walked here.
-/
import Derived.Test.YtmajgfpfbieakaaRows
import Derived.Test.YtmajgfpfbieakaaLiveMem
import Derived.Test.YtmajgfpfbieakaaOver
import Derived.Laws.IdiomCopy
import Derived.Lib.AppendZerosOnto
import Derived.Lib.SliceRun
namespace Go.Proofs.Ytmajgfpfbieakaa.Lm
open Go.ChangeShapes Go.WideShapes Go.ChangeAt Go.RowKit

theorem Try.size3 : (Try.prog.info? 40).map (·.size) = some 3 := by kernel_rfl
/-- The builtin copy of k spans onto a block. -/
theorem copy_own (w : World) {g : Nat} {cur cs : List Value} (o k : Nat) (T : TypeId) (h : Blk w g T cur) (dc sc dl sl : Nat) (ad : Addr) (hk : Nat.min sl dl = k) (hn : cs.length = k * 3) (hfit : o + cs.length ≤ cur.length) (h1 : ∀ u ∈ cs, u.oneCell' = true)
    (hs : ∀ j v, cs[j]? = some v → w.cell? (ad.add j) = some v) :
    ∃ w', (Builtin.copy_ #[22, 22] 3 #[.slice (some ⟨g, o, none⟩) dl dc, .slice (some ad) sl sc]).run Try.prog w = .ok (.int .i64 (k : Int)) w' ∧ Blk w' g T (over cur o cs) ∧ Kept (Only g) w w' := by
  have hl := run_loadCells_list (P := Try.prog) w ad cs hs
  have hst := run_storeCells_cells (P := Try.prog) g o cs 0 w (by simpa using fun j hj => h.mem (by omega)) (by simpa using fun j _ => h.frozen (o + j)) h1
  refine ⟨w.setCells g o cs, ?_, Blk.cells cs cur o w h hfit, kept_cells _ _ _ _⟩
  have hq := Try.size3
  cases hi : Try.prog.info? 40 with
  | none => simp [hi] at hq
  | some i =>
    have hz : i.size = 3 := by simpa [hi] using hq
    simp [Builtin.copy_, run_underlying Try.underlying22, Builtin.lenOf, Builtin.firstCells, sizeOf, typeInfo, hi, hz, hk, ← hn, hl, hst, goInt]
theorem copy_own0 (w : World) (dc sc : Nat) (da sa : Option Addr) (sl dl : Nat) (hn : Nat.min sl dl = 0) :
    (Builtin.copy_ #[22, 22] 3 #[.slice da dl dc, .slice sa sl sc]).run Try.prog w = .ok (.int .i64 0) w := by
  have hq := Try.size3
  cases hi : Try.prog.info? 40 with
  | none => simp [hi] at hq
  | some i =>
    have hl : ∀ (x : Addr), (loadCells x 0).run Try.prog w = .ok #[] w := fun x => by simpa using run_loadCells_list (P := Try.prog) w x [] (by simp)
    cases da <;> cases sa <;> simp [Builtin.copy_, run_underlying Try.underlying22, Builtin.lenOf, Builtin.firstCells, sizeOf, typeInfo, hi, hn, storeCells, hl, goInt]
theorem cp_wp {ops : Array Oper} {rest : List Oper} {o : Oper} {a : Act} {Q : Exit → Act → World → Prop} {w : World} (hgd : o.guard = none) (s x : Operand)
    (ho : o.op = .call { callee := .builtin .copy, args := #[s, x], argTypes := #[22, 22] }) (hty : o.type = 3)
    {g : Nat} {cur cs : List Value} (of k : Nat) (T : TypeId) (h : Blk w g T cur) (dc sc dl sl : Nat) (ad : Addr) (hs : a.eval s = .slice (some ⟨g, of, none⟩) dl dc) (hx : a.eval x = .slice (some ad) sl sc)
    (hk : Nat.min sl dl = k) (hn : cs.length = k * 3) (hfit : of + cs.length ≤ cur.length) (h1 : ∀ u ∈ cs, u.oneCell' = true) (hr : ∀ j v, cs[j]? = some v → w.cell? (ad.add j) = some v)
    (go : ∀ w', Hid (Blk w' g T (over cur of cs)) → Hid (Kept (Only g) w w') → wpList Try.prog ops Q rest (a.put o.dst (.int .i64 (k : Int))) w') : wpList Try.prog ops Q (o :: rest) a w := by
  refine wpList_plain hgd fun K hK => ?_
  obtain ⟨w', hrun, h2, h3⟩ := copy_own w of k T h dc sc dl sl ad hk hn hfit h1 hr
  unfold Oper.wp execOp
  simp only [ho, hty, resolve, invoke, builtin, Sem.run_bind, Sem.run_pure, Result.andThen_ok, List.map_toArray, List.map_cons, List.map_nil, hs, hx, hrun]
  exact hK _ _ (go w' h2 h3)
theorem cp_step {ops : Array Oper} {o : Oper} {a : Act} {K : Act → World → Prop} {Q : Exit → Act → World → Prop} {E : Prop} {w : World} (hgd : o.guard = none) (s x : Operand)
    (ho : o.op = .call { callee := .builtin .copy, args := #[s, x], argTypes := #[22, 22] }) (hty : o.type = 3)
    {g : Nat} {cur cs : List Value} (of k : Nat) (T : TypeId) (h : Blk w g T cur) (dc sc dl sl : Nat) (ad : Addr) (hs : a.eval s = .slice (some ⟨g, of, none⟩) dl dc) (hx : a.eval x = .slice (some ad) sl sc)
    (hk : Nat.min sl dl = k) (hn : cs.length = k * 3) (hfit : of + cs.length ≤ cur.length) (h1 : ∀ u ∈ cs, u.oneCell' = true) (hr : ∀ j v, cs[j]? = some v → w.cell? (ad.add j) = some v)
    (go : ∀ w', Hid (Blk w' g T (over cur of cs)) → Hid (Kept (Only g) w w') → K (a.put o.dst (.int .i64 (k : Int))) w') :
    if Region.wanted o (yielded ops a.tmps) = true then Oper.wp Try.prog o a w K Q else E := by
  have hw : Region.wanted o (yielded ops a.tmps) = true := by simp [Region.wanted, hgd]
  rw [if_pos hw]
  obtain ⟨w', hrun, h2, h3⟩ := copy_own w of k T h dc sc dl sl ad hk hn hfit h1 hr
  unfold Oper.wp execOp
  simp only [ho, hty, resolve, invoke, builtin, Sem.run_bind, Sem.run_pure, Result.andThen_ok, List.map_toArray, List.map_cons, List.map_nil, hs, hx, hrun]
  exact go w' h2 h3
/-- The builtin clear of one span. -/
theorem clear_own (w : World) {g : Nat} {cur : List Value} (o dc : Nat) (T : TypeId) (h : Blk w g T cur) (hfit : o + 3 ≤ cur.length) (ty : TypeId) :
    ∃ w', (Builtin.clear_ #[22] ty #[.slice (some ⟨g, o, none⟩) 1 dc]).run Try.prog w = .ok (.tuple #[]) w' ∧ Blk w' g T (over cur o (CS [⟨0, 0, 0⟩])) ∧ Kept (Only g) w w' := by
  have hst := run_storeCells_cells (P := Try.prog) g o (CS [⟨0, 0, 0⟩]) 0 w (by simpa [CS] using fun j hj => h.mem (by omega)) (by simpa using fun j _ => h.frozen (o + j)) (CS_one _)
  refine ⟨w.setCells g o (CS [⟨0, 0, 0⟩]), ?_, Blk.cells _ cur o w h (by simpa [CS] using hfit), kept_cells _ _ _ _⟩
  obtain ⟨i0, hi, hz0, hz1, hz2⟩ := info_parts Try.spanInfo
  have hzc : (Builtin.zeroCells (Value.agg #[.int .i64 0, .int .i64 0, .int .i64 0]).cells 1).toList = CS [⟨0, 0, 0⟩] := by kernel_rfl
  simp only [Nat.add_zero] at hst
  simp [Builtin.clear_, run_underlying Try.underlying22, zeroValue, typeInfo, hi, hz0, hzc, hst]
/-- append of a make of k spans where there is no room. -/
theorem zeros_own (w : World) (g i c k : Nat) (cs : List Value) (hcs : cs.length = i * 3) (hold : ∀ j v, cs[j]? = some v → w.cell? ⟨g, j, none⟩ = some v) (hk : 0 < k) (hc : c < i + k) (hb : i + k ≤ 3000) :
    ∃ G rest w', (Builtin.append_ #[22, 3] 22 #[.slice (some ⟨g, 0, none⟩) i c, .int .i64 (k : Int)]).run Try.prog w = .ok (.slice (some ⟨w.heap.size, 0, none⟩) (i + k) G) w' ∧
      Blk w' w.heap.size 40 (cs ++ rest) ∧ rest.length = (G - i) * 3 ∧ i + k ≤ G ∧ G ≤ maxLen ∧ Kept Old w w' := by
  obtain ⟨i0, hi, hz0, hz1, hz2⟩ := info_parts Try.spanInfo
  have hf : (Builtin.firstCells i0.size i (.slice (some ⟨g, 0, none⟩) i c)).run Try.prog w.drew = .ok cs.toArray w.drew := by
    rw [hz1]
    exact run_firstCells_some w.drew 3 i ⟨g, 0, none⟩ i c cs (by omega) (fun j v hj => by rw [addr_add, Nat.zero_add]; exact hold j v hj)
  have h := Lib.run_append_grow_zeros w 22 3 22 40 i0 _ .i64 .i64 Try.underlying22 Try.underlying3 hi hz0 (some ⟨g, 0, none⟩) i c cs hf k hk (by omega) hc (by omega) (by rw [hz2]; omega) (by rw [hz2]; exact growslice_fits hc (by omega))
  have ea : ∀ (cs : List Value) (x y : Array Value), (cs ++ (x.toList ++ y.toList)).toArray = cs.toArray ++ x ++ y := by intros; apply Array.ext'; simp
  refine ⟨_, (Builtin.zeroCells (Value.agg #[.int .i64 0, .int .i64 0, .int .i64 0]).cells k).toList ++ (Builtin.zeroCells (Value.agg #[.int .i64 0, .int .i64 0, .int .i64 0]).cells (grownCap w (i + k) c 40 - (i + k))).toList, _, h, ?_, ?_, grownCap_ge _ _ _ _, grownCap_le_maxLen _ _ _ _ (by unfold maxLen; omega), ((Kept.refl _ _).drew).alloc _⟩
  · have := Blk.new w.drew 40 (cs ++ ((Builtin.zeroCells (Value.agg #[.int .i64 0, .int .i64 0, .int .i64 0]).cells k).toList ++ (Builtin.zeroCells (Value.agg #[.int .i64 0, .int .i64 0, .int .i64 0]).cells (grownCap w (i + k) c 40 - (i + k))).toList))
    rw [ea] at this
    exact this
  · have := grownCap_ge w (i + k) c 40
    simp [Builtin.zeroCells, Value.cells]
    omega
/-- What is owned, by its block. -/
theorem OwS.blk {w : World} {B : Nat} {v : Value} {n : Nat} {l : List S} (h : OwS w B v n l) : (v = .slice none 0 0 ∧ n = 0) ∨ ∃ g c r, v = .slice (some ⟨g, 0, none⟩) n c ∧ B ≤ g ∧ Blk w g 40 (CS l ++ r) ∧ r.length = (c - n) * 3 ∧ n ≤ c ∧ c ≤ maxLen := by
  have hlen := h.len
  rcases h.row.2 with hv | ⟨g, cap, cur, rfl, hb, hg, hn, hm, hs, ht⟩
  · exact .inl hv
  · refine .inr ⟨g, cap, cur.toList.drop (n * 3), rfl, hb, ?_, by simp; omega, hn, hm⟩
    have : CS l ++ cur.toList.drop (n * 3) = cur.toList := by
      rw [← ht]
      have e : (CS l).length = n * 3 := by rw [CS_length]; omega
      rw [← ht] at e
      rw [List.take_append_drop]
    unfold Blk
    rw [this, hg]
theorem OwS.ofBlk {w : World} {B g n c : Nat} {l : List S} {r : List Value} (hb : B ≤ g) (h : Blk w g 40 (CS l ++ r)) (hl : l.length = n) (hr : r.length = (c - n) * 3) (hn : n ≤ c) (hm : c ≤ maxLen) (hf : ∀ x ∈ l, Fit x) : OwS w B (.slice (some ⟨g, 0, none⟩) n c) n l := by
  have e : (CS l).length = n * 3 := by rw [CS_length]; omega
  refine ⟨⟨by omega, .inr ⟨g, c, (CS l ++ r).toArray, rfl, hb, h, hn, hm, by simp; omega, ?_⟩⟩, hf⟩
  simp [← e]
end Go.Proofs.Ytmajgfpfbieakaa.Lm
