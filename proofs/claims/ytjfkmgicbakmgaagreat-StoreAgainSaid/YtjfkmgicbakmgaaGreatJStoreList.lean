/-
  A store's On and Live. Own work; each is proved by a walk through the landed text.
-/
import Derived.Test.YtjfkmgicbakmgaaGreatRows
import Derived.WalkKit
import Derived.ProofKit
import Derived.OpenShut
import Derived.Outline
import Derived.Deep.Light
import Derived.Deep.QuietTactic
import Derived.BigQuiet
import Derived.IntWalk
import Derived.StillTailTactics
import Derived.Test.YtjfkmgicbakmgaaGreatJStoreNew
namespace Go.Proofs.YtjfkmgicbakmgaaGreat.Sto
open Go.ChangeShapes Go.WideShapes Go.ChangeAt Go.RowKit
set_option maxRecDepth 100000
theorem make_liveN (n : Nat) (h : n ≤ 3000) (w : World) : ∃ cs : List Value, cs.length = n * 3 ∧ (Instr.makeSlice 47 (.int .i64 (n : Int)) (.int .i64 (n : Int))).run Tryz.prog w = .ok (.slice (some ⟨w.heap.size, 0, none⟩) n n) (w.alloc (.cells cs.toArray 52)) := by
  obtain ⟨i0, hi, hz0, hz1, hz2⟩ := info_parts Lm.Tryz.spanInfo
  have hr := run_make (P := Tryz.prog) w 47 52 i0 _ Tryz.underlying47 hi hz0 .i64 .i64 n n (by omega) (Int.le_refl _) (by rw [hz2]; omega) (by omega)
  simp only [Int.toNat_natCast, hz1] at hr
  exact ⟨(madeCells (Value.agg #[.int .i64 0, .int .i64 0, .int .i64 0]).cells (n * 3)).toList, by rw [Array.length_toList, size_madeCells], by rw [Array.toArray_toList]; exact hr⟩
section calls
variable {w0 W : World} {s P : Nat} {k : K} {live : List Lm.S} {F : Nat → Prop} {pl : Pl}
theorem son_any (m : StM w0 W s P k live F pl) : Calls Tryz.prog 38 #[ptr s] W fun e W' => e = .returned (.bool k.on) ∧ W = W' := by
  have c11 := m.c11
  clear m
  go_enter Tryz.func38, Tryz.ntmps38
  go_wp2
  go_ret
  exact ⟨rfl, rfl⟩
def ListPost (l : List Lm.S) (w : World) (e : Ending) (w' : World) : Prop := ∃ v, e = .returned v ∧ Lm.MadeS l w v w'
set_option maxHeartbeats 1000000 in
theorem slive_any (m : StM w0 W s P k live F pl) (hn : live.length ≤ 600) : Calls Tryz.prog 24 #[ptr s] W (ListPost live W) := by
  obtain ⟨cs, hcs, hm⟩ := make_liveN live.length (by omega) W
  have HM := Lib.hid m
  have k0 : Kept Old W (W.alloc (.cells cs.toArray 52)) := (Kept.refl _ _).alloc _
  obtain ⟨A, c, ev, r, hc, hA⟩ := m.lv.ow.rs
  have d13 := m.c13
  rw [ev] at d13
  have c13 := Lm.cell_on k0 d13
  have b0 := Lib.hid (Blk.new W 52 cs)
  have r1 := Lib.hid (r.old k0)
  have k0 := Lib.hid k0
  have hf := Lib.hid m.lv.ow.fit
  obtain ⟨V, hV⟩ : ∃ V, V = W.alloc (.cells cs.toArray 52) := ⟨_, rfl⟩
  rw [← hV] at hm c13 b0 r1 k0
  have hs : V.heap.size = W.heap.size + 1 := by rw [hV]; simp
  clear hV r m ev
  have E : ∀ w', Hid (Blk w' W.heap.size 52 (Lm.CS live)) → Hid (Kept (Only W.heap.size) V w') → ListPost live W (.returned (.slice (some ⟨W.heap.size, 0, none⟩) live.length live.length)) w' := fun w' b k => by
    have o : Lm.OwS w' W.heap.size (.slice (some ⟨W.heap.size, 0, none⟩) live.length live.length) live.length live := Lm.OwS.ofBlk (r := []) (Nat.le_refl _) (by simpa using b.out) rfl (by simp) (Nat.le_refl _) (by simp only [maxLen]; omega) hf.out
    exact ⟨_, rfl, Lm.madeS_end o (k0.out.join k.out (fun i hi e => by have : i = W.heap.size := e; omega))⟩
  have E := Lib.hid E
  by_cases hl : live.length = 0
  · have e0 : live = [] := List.eq_nil_of_length_eq_zero hl
    subst e0
    have cl : cs = [] := List.eq_nil_of_length_eq_zero (by simpa using hcs)
    subst cl
    have E := Lib.hid (E.out V b0 (Lib.hid (Kept.refl _ _)))
    have hm : (Instr.makeSlice 47 (.int .i64 0) (.int .i64 0)).run Tryz.prog W = .ok (.slice (some ⟨W.heap.size, 0, none⟩) 0 0) V := hm
    have c13 : V.cell? ⟨s, 13, none⟩ = some (.slice A 0 c) := c13
    have d13 : W.cell? ⟨s, 13, none⟩ = some (.slice A 0 c) := d13
    have cz := Lm.copy_own0 V 0 c (some ⟨W.heap.size, 0, none⟩) A 0 0 rfl
    clear hcs b0 r1
    go_enter Tryz.func24, Tryz.ntmps24
    go_wp2
    go_ret
    exact E.out
  · obtain ⟨g, o, rfl, _⟩ := r1.out.lies (by omega)
    have f1 := Lib.hid (show 0 + (Lm.CS live).length ≤ cs.length from by rw [Lm.CS_length]; omega)
    have f2 := Lib.hid (show (Lm.CS live).length = live.length * 3 from Lm.CS_length live)
    have o1 : over cs 0 (Lm.CS live) = Lm.CS live := by
      unfold over
      rw [List.drop_eq_nil_of_le (by rw [Lm.CS_length]; omega)]
      simp
    have o1 := Lib.hid o1
    have s1 := Lib.hid r1.out.cells
    have c2 := Lib.hid (Lm.CS_one live)
    have hcs := Lib.hid hcs
    have r1' := Lib.hid r1
    clear r1
    go_enter Tryz.func24, Tryz.ntmps24
    go_wp2_with (refine Lm.cp_wp (cs := Lm.CS live) rfl (.tmp 12) (.tmp 16) rfl rfl 0 live.length 52 b0.out live.length c live.length live.length ⟨g, o, none⟩ rfl rfl (Nat.min_self _) f2.out f1.out c2.out s1.out ?_; intro w2 b2 k2; rw [o1.out] at b2; have E := Lib.hid (E.out w2 b2 k2))
    go_ret
    exact E.out
end calls
end Go.Proofs.YtjfkmgicbakmgaaGreat.Sto
