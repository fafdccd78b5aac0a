/-
  What Heap.Runs answers: make and copy at slices of runs. Own work; each is proved by a walk through the landed text.
-/
import Derived.Test.YtdolchlhphoggaaRows
import Derived.Test.YtdolchlhphoggaaHeapSt
import Derived.Test.YtdolchlhphoggaaSpanCopy
namespace Go.Proofs.Ytdolchlhphoggaa
open Go.ChangeShapes Go.WideShapes Go.ChangeAt Go.RowKit
set_option maxRecDepth 100000

theorem Try.size2 : (Try.prog.info? 63).map (·.size) = some 2 := by kernel_rfl
/-- The builtin copy of k runs onto a block. -/
theorem copyR_own (w : World) {g : Nat} {cur cs : List Value} (o k : Nat) (T : TypeId) (h : Blk w g T cur) (dc sc dl sl : Nat) (ad : Addr) (hk : Nat.min sl dl = k) (hn : cs.length = k * 2) (hfit : o + cs.length ≤ cur.length) (h1 : ∀ u ∈ cs, u.oneCell' = true)
    (hs : ∀ j v, cs[j]? = some v → w.cell? (ad.add j) = some v) :
    ∃ w', (Builtin.copy_ #[30, 30] 3 #[.slice (some ⟨g, o, none⟩) dl dc, .slice (some ad) sl sc]).run Try.prog w = .ok (.int .i64 (k : Int)) w' ∧ Blk w' g T (over cur o cs) ∧ Kept (Only g) w w' := by
  have hl := run_loadCells_list (P := Try.prog) w ad cs hs
  have hst := run_storeCells_cells (P := Try.prog) g o cs 0 w (by simpa using fun j hj => h.mem (by omega)) (by simpa using fun j _ => h.frozen (o + j)) h1
  refine ⟨w.setCells g o cs, ?_, Blk.cells cs cur o w h hfit, kept_cells _ _ _ _⟩
  have hq := Try.size2
  cases hi : Try.prog.info? 63 with
  | none => simp [hi] at hq
  | some i =>
    have hz : i.size = 2 := by simpa [hi] using hq
    simp [Builtin.copy_, run_underlying Try.underlying30, Builtin.lenOf, Builtin.firstCells, sizeOf, typeInfo, hi, hz, hk, ← hn, hl, hst, goInt]
theorem copyR_own0 (w : World) (dc sc : Nat) (da sa : Option Addr) (sl dl : Nat) (hn : Nat.min sl dl = 0) :
    (Builtin.copy_ #[30, 30] 3 #[.slice da dl dc, .slice sa sl sc]).run Try.prog w = .ok (.int .i64 0) w := by
  have hq := Try.size2
  cases hi : Try.prog.info? 63 with
  | none => simp [hi] at hq
  | some i =>
    have hl : ∀ (x : Addr), (loadCells x 0).run Try.prog w = .ok #[] w := fun x => by simpa using run_loadCells_list (P := Try.prog) w x [] (by simp)
    cases da <;> cases sa <;> simp [Builtin.copy_, run_underlying Try.underlying30, Builtin.lenOf, Builtin.firstCells, sizeOf, typeInfo, hi, hn, storeCells, hl, goInt]
theorem cpR_wp {ops : Array Oper} {rest : List Oper} {o : Oper} {a : Act} {Q : Exit → Act → World → Prop} {w : World} (hgd : o.guard = none) (s x : Operand)
    (ho : o.op = .call { callee := .builtin .copy, args := #[s, x], argTypes := #[30, 30] }) (hty : o.type = 3)
    {g : Nat} {cur cs : List Value} (of k : Nat) (T : TypeId) (h : Blk w g T cur) (dc sc dl sl : Nat) (ad : Addr) (hs : a.eval s = .slice (some ⟨g, of, none⟩) dl dc) (hx : a.eval x = .slice (some ad) sl sc)
    (hk : Nat.min sl dl = k) (hn : cs.length = k * 2) (hfit : of + cs.length ≤ cur.length) (h1 : ∀ u ∈ cs, u.oneCell' = true) (hr : ∀ j v, cs[j]? = some v → w.cell? (ad.add j) = some v)
    (go : ∀ w', Hid (Blk w' g T (over cur of cs)) → Hid (Kept (Only g) w w') → wpList Try.prog ops Q rest (a.put o.dst (.int .i64 (k : Int))) w') : wpList Try.prog ops Q (o :: rest) a w := by
  refine wpList_plain hgd fun K hK => ?_
  obtain ⟨w', hrun, h2, h3⟩ := copyR_own w of k T h dc sc dl sl ad hk hn hfit h1 hr
  unfold Oper.wp execOp
  simp only [ho, hty, resolve, invoke, builtin, Sem.run_bind, Sem.run_pure, Result.andThen_ok, List.map_toArray, List.map_cons, List.map_nil, hs, hx, hrun]
  exact hK _ _ (go w' h2 h3)
theorem makeR (n : Nat) (h : n ≤ 3000) (w : World) : ∃ cs : List Value, cs.length = n * 2 ∧ (Instr.makeSlice 30 (.int .i64 (n : Int)) (.int .i64 (n : Int))).run Try.prog w = .ok (.slice (some ⟨w.heap.size, 0, none⟩) n n) (w.alloc (.cells cs.toArray 63)) := by
  obtain ⟨i0, hi, hz0, hz1, hz2⟩ := info_parts Try.runInfo
  have hr := run_make (P := Try.prog) w 30 63 i0 _ Try.underlying30 hi hz0 .i64 .i64 n n (by omega) (Int.le_refl _) (by rw [hz2]; omega) (by omega)
  simp only [Int.toNat_natCast, hz1] at hr
  exact ⟨(madeCells (Value.agg #[.int .i64 0, .int .i64 0]).cells (n * 2)).toList, by rw [Array.length_toList, size_madeCells], by rw [Array.toArray_toList]; exact hr⟩
/-- A block of runs reads as their list. -/
theorem Rs.ofBlk {w : World} {g : Nat} {l : List R} (h : Blk w g 63 (C l)) (hf : ∀ x ∈ l, in64 x.1 ∧ in64 x.2) : Rs w (some ⟨g, 0, none⟩) l.length l :=
  ⟨rfl, hf, fun _ => ⟨g, 0, rfl, Blk.lt h, fun i x hx => by
    have := C_get l i x hx
    rw [Nat.zero_add]
    exact ⟨(Blk.cell h _).trans this.1, (Blk.cell h _).trans this.2⟩⟩⟩
/-- The list that Runs answers: new memory. -/
def RunsPost (l : List R) (w : World) (e : Ending) (w' : World) : Prop := ∃ g, e = .returned (.slice (some ⟨g, 0, none⟩) l.length l.length) ∧ Rs w' (some ⟨g, 0, none⟩) l.length l ∧ Kept Old w w' ∧ w.heap.size ≤ g ∧ g < w'.heap.size
set_option maxHeartbeats 1000000 in
theorem hp_runs {w0 W : World} {h : Nat} {P : Int} {rl : List R} {sl : List S} {F : Nat → Prop} (H : Hp w0 W h P rl sl F) :
    Calls Try.prog 20 #[ptr h] W (RunsPost rl W) := by
  obtain ⟨q, A, n, c, H⟩ := H
  have hn := H.runs.len
  have hl : rl.length ≤ 257 := H.whole.len.1
  obtain rfl : rl.length = n := hn
  obtain ⟨cs, hcs, hm⟩ := makeR rl.length (by omega) W
  have k0 : Kept Old W (W.alloc (.cells cs.toArray 63)) := (Kept.refl _ _).alloc _
  have a1 := H.box.cell 1
  have d1 := (H.box.kept k0 (fun x => x)).cell 1
  simp only [List.getElem?_cons_succ, List.getElem?_cons_zero] at a1 d1
  have b0 := Lib.hid (Blk.new W 63 cs)
  have r1 := Lib.hid (H.runs.old k0)
  have fit := Lib.hid H.runs.fit
  have k0 := Lib.hid k0
  obtain ⟨V, hV⟩ : ∃ V, V = W.alloc (.cells cs.toArray 63) := ⟨_, rfl⟩
  rw [← hV] at hm d1 b0 r1 k0
  have hs : V.heap.size = W.heap.size + 1 := by rw [hV]; simp
  clear hV H
  have E : ∀ w', Hid (Blk w' W.heap.size 63 (C rl)) → Hid (Kept (Only W.heap.size) V w') → RunsPost rl W (.returned (.slice (some ⟨W.heap.size, 0, none⟩) rl.length rl.length)) w' := fun w' b k =>
    ⟨_, rfl, Rs.ofBlk b.out fit.out, k0.out.join k.out (fun i hi e => by have : i = W.heap.size := e; omega), Nat.le_refl _, Blk.lt b.out⟩
  have E := Lib.hid E
  by_cases hz : rl.length = 0
  · have e0 : rl = [] := List.eq_nil_of_length_eq_zero hz
    subst e0
    have cl : cs = [] := List.eq_nil_of_length_eq_zero (by simpa using hcs)
    subst cl
    have E := Lib.hid (E.out V b0 (Lib.hid (Kept.refl _ _)))
    have hm : (Instr.makeSlice 30 (.int .i64 0) (.int .i64 0)).run Try.prog W = .ok (.slice (some ⟨W.heap.size, 0, none⟩) 0 0) V := hm
    have a1 : W.cell? ⟨h, 1, none⟩ = some (.slice A 0 c) := a1
    have d1 : V.cell? ⟨h, 1, none⟩ = some (.slice A 0 c) := d1
    have cz := copyR_own0 V 0 c (some ⟨W.heap.size, 0, none⟩) A 0 0 rfl
    clear hcs b0 r1 fit
    go_enter Try.func20, Try.ntmps20
    go_wp2
    go_ret
    exact E.out
  · obtain ⟨g, o, rfl, _⟩ := r1.out.lies (by omega)
    have f1 := Lib.hid (show 0 + (C rl).length ≤ cs.length from by rw [C_length]; omega)
    have f2 := Lib.hid (show (C rl).length = rl.length * 2 from C_length rl)
    have o1 : over cs 0 (C rl) = C rl := by
      unfold over
      rw [List.drop_eq_nil_of_le (by rw [C_length]; omega)]
      simp
    have o1 := Lib.hid o1
    have s1 := Lib.hid r1.out.cells
    have c2 := Lib.hid (C_one rl)
    have hcs := Lib.hid hcs
    clear r1
    go_enter Try.func20, Try.ntmps20
    go_wp2_with (refine cpR_wp (cs := C rl) rfl (.tmp 12) (.tmp 16) rfl rfl 0 rl.length 63 b0.out rl.length c rl.length rl.length ⟨g, o, none⟩ rfl rfl (Nat.min_self _) f2.out f1.out c2.out s1.out ?_; intro w2 b2 k2; rw [o1.out] at b2; have E := Lib.hid (E.out w2 b2 k2))
    go_ret
    exact E.out
end Go.Proofs.Ytdolchlhphoggaa
