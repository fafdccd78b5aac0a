/-
  Joined texts of Arena; own work.
-/
import Derived.Test.YtcndilpaijapkaaGreatRows
import Derived.Below
import Derived.Laws.OwnMore
import Derived.Laws.Rows
import Derived.Laws.CopyOwn
import Derived.Deep.Draws
import Derived.Deep.OwnRows
import Derived.Deep.AppendLies
import Derived.Lib.Hide
import Derived.WalkKit
import Derived.ProofKit
import Derived.OpenShut
import Derived.Outline
import Derived.Deep.Light
import Derived.Deep.QuietTactic
import Derived.BigQuiet
import Derived.IntWalk
import Derived.StillTailTactics
import Derived.Test.YtcndilpaijapkaaGreatJBase
/- Words for memory: a row of words known whole (Row), and a frame (Kept): which blocks may have turned. Own work; no program is walked here. -/
namespace Go.Proofs.YtcndilpaijapkaaGreat
open Go.RowKit

/-! ### Rows of words -/
/-- Words as cells. -/
def U (ws : List Nat) : List Value := ws.map fun (x : Nat) => Value.int .u64 (x : Int)
theorem U_length (ws : List Nat) : (U ws).length = ws.length := by unfold U; simp
theorem U_get (ws : List Nat) (i : Nat) : (U ws)[i]? = (ws[i]?).map fun (x : Nat) => Value.int .u64 (x : Int) := by unfold U; simp
theorem U_set (ws : List Nat) (i : Nat) (x : Nat) : (U ws).set i (.int .u64 (x : Int)) = U (ws.set i x) := by unfold U; rw [List.map_set]
theorem U_append (a b : List Nat) : U (a ++ b) = U a ++ U b := by unfold U; simp
theorem U_take (a : List Nat) (n : Nat) : U (a.take n) = (U a).take n := by unfold U; simp
theorem U_drop (a : List Nat) (n : Nat) : U (a.drop n) = (U a).drop n := by unfold U; simp
theorem U_one (ws : List Nat) : ∀ v ∈ U ws, v.oneCell' = true := by
  intro v hv
  unfold U at hv
  obtain ⟨x, _, rfl⟩ := List.mem_map.1 hv
  rfl
theorem U_zeros (n : Nat) : madeCells #[.int .u64 0] n = (U (List.replicate n 0)).toArray := by
  apply Array.ext'
  unfold madeCells U
  simp only [List.map_replicate]
  apply List.ext_getElem?
  intro i
  by_cases c : i < n
  · simp [c, Nat.mod_one]
  · simp [c]
/-- Block g is the words ws, each below 2 ^ 64. -/
structure Row (w : World) (g : Nat) (ws : List Nat) : Prop where
  blk : Blk w g 193 (U ws)
  fit : ∀ x ∈ ws, x < 18446744073709551616
theorem Row.cell {w : World} {g : Nat} {ws : List Nat} (h : Row w g ws) {i : Nat} (hi : i < ws.length) : w.cell? ⟨g, i, none⟩ = some (.int .u64 ((ws[i]'hi : Nat) : Int)) := by
  rw [h.blk.cell, U_get, List.getElem?_eq_getElem hi]; rfl
theorem Row.has {w : World} {g : Nat} {ws : List Nat} (h : Row w g ws) {i : Nat} (hi : i < ws.length) : ∃ x : Nat, x < 18446744073709551616 ∧ w.cell? ⟨g, i, none⟩ = some (.int .u64 (x : Int)) := ⟨ws[i], h.fit _ (List.getElem_mem hi), h.cell hi⟩
theorem Row.get_lt {w : World} {g : Nat} {ws : List Nat} (h : Row w g ws) {i : Nat} (hi : i < ws.length) : ws[i] < 18446744073709551616 := h.fit _ (List.getElem_mem hi)
theorem Row.frozen {w : World} {g : Nat} {ws : List Nat} (h : Row w g ws) (i : Nat) : w.frozen? ⟨g, i, none⟩ = false := h.blk.frozen i
theorem Row.lt {w : World} {g : Nat} {ws : List Nat} (h : Row w g ws) : g < w.heap.size := h.blk.lt
theorem Row.kept {D : Nat → Prop} {w w' : World} {g : Nat} {ws : List Nat} (h : Row w g ws) (k : Kept D w w') (hd : ¬ D g) : Row w' g ws := ⟨h.blk.kept k hd, h.fit⟩
theorem Row.below {B : Nat} {w w' : World} {g : Nat} {ws : List Nat} (h : Row w g ws) (k : Below B w w') (hd : g < B) : Row w' g ws := ⟨h.blk.below k hd, h.fit⟩
theorem Row.alloc {w : World} {g : Nat} {ws : List Nat} (h : Row w g ws) (o : Obj) : Row (w.alloc o) g ws := ⟨h.blk.alloc o, h.fit⟩
theorem Row.drew {w : World} {g : Nat} {ws : List Nat} (h : Row w g ws) : Row w.drew g ws := ⟨h.blk, h.fit⟩
theorem Row.drewN {w : World} {g : Nat} {ws : List Nat} (h : Row w g ws) (n : Nat) : Row (w.drewN n) g ws := ⟨h.blk, h.fit⟩
theorem Row.put {w : World} {g : Nat} {ws : List Nat} (h : Row w g ws) (i : Nat) {x : Nat} (hx : x < 18446744073709551616) : Row (w.setCell ⟨g, i, none⟩ (.int .u64 (x : Int))) g (ws.set i x) :=
  ⟨by have := h.blk.put i (.int .u64 (x : Int)); rwa [U_set] at this, fun y hy => by
    rcases List.mem_or_eq_of_mem_set hy with c | c
    · exact h.fit y c
    · omega⟩
theorem Row.far {w : World} {g : Nat} {ws : List Nat} (h : Row w g ws) {p : Addr} (hp : g ≠ p.block) (u : Value) : Row (w.setCell p u) g ws := ⟨h.blk.far hp u, h.fit⟩
theorem Row.zeros (w : World) (n : Nat) : Row (w.alloc (.cells (madeCells #[.int .u64 0] n) 193)) w.heap.size (List.replicate n 0) :=
  ⟨by rw [U_zeros]; exact Blk.new _ _ _, fun x hx => by rw [List.eq_of_mem_replicate hx]; decide⟩

/-! ### The lists behind a copy, a fill -/
def copyL (ws : List Nat) (to : Nat) (cs : List Nat) : List Nat := ws.take to ++ (cs ++ ws.drop (to + cs.length))
theorem copyL_length (ws : List Nat) (to : Nat) (cs : List Nat) (h : to + cs.length ≤ ws.length) : (copyL ws to cs).length = ws.length := by unfold copyL; simp; omega
theorem copyL_U (ws : List Nat) (to : Nat) (cs : List Nat) : splice (U ws) to (U cs) = U (copyL ws to cs) := by
  unfold splice copyL; rw [U_append, U_append, U_take, U_drop, U_length]
theorem copyL_fit (ws : List Nat) (to : Nat) (cs : List Nat) (h : ∀ x ∈ ws, x < 18446744073709551616) (hc : ∀ x ∈ cs, x < 18446744073709551616) : ∀ x ∈ copyL ws to cs, x < 18446744073709551616 := by
  intro x hx
  unfold copyL at hx
  rcases List.mem_append.1 hx with c | c
  · exact h x (List.mem_of_mem_take c)
  · rcases List.mem_append.1 c with c | c
    · exact hc x c
    · exact h x (List.mem_of_mem_drop c)
theorem copyL_nil (ws : List Nat) (to : Nat) : copyL ws to [] = ws := by unfold copyL; simp
theorem copyL_get (ws : List Nat) (to : Nat) (cs : List Nat) (h : to + cs.length ≤ ws.length) (i : Nat) :
    (copyL ws to cs)[i]? = if i < to then ws[i]? else if i < to + cs.length then cs[i - to]? else ws[i]? := by
  unfold copyL
  by_cases a : i < to
  · rw [if_pos a, List.getElem?_append_left (by simp; omega), List.getElem?_take, if_pos a]
  · rw [if_neg a, List.getElem?_append_right (by simp; omega)]
    have l : (ws.take to).length = to := by simp; omega
    rw [l]
    by_cases b : i < to + cs.length
    · rw [if_pos b, List.getElem?_append_left (by omega)]
    · rw [if_neg b, List.getElem?_append_right (by omega), List.getElem?_drop]
      congr 1
      omega
/-- The words from a place on. -/
def cutL (ws : List Nat) (at_ n : Nat) : List Nat := (ws.drop at_).take n
theorem cutL_length (ws : List Nat) (a n : Nat) (h : a + n ≤ ws.length) : (cutL ws a n).length = n := by unfold cutL; simp; omega
theorem cutL_fit (ws : List Nat) (a n : Nat) (h : ∀ x ∈ ws, x < 18446744073709551616) : ∀ x ∈ cutL ws a n, x < 18446744073709551616 := fun x hx => h x (List.mem_of_mem_drop (List.mem_of_mem_take hx))
theorem cutL_get (ws : List Nat) (a n i : Nat) : (cutL ws a n)[i]? = if i < n then ws[a + i]? else none := by
  unfold cutL; rw [List.getElem?_take, List.getElem?_drop]
theorem cutL_all (ws : List Nat) : cutL ws 0 ws.length = ws := by unfold cutL; simp
/-- What a copy within one row leaves. -/
abbrev movedL (ws : List Nat) (to from_ n : Nat) : List Nat := copyL ws to (cutL ws from_ n)
abbrev filledL (ws : List Nat) (at_ n x : Nat) : List Nat := copyL ws at_ (List.replicate n x)
theorem filled_zero (ws : List Nat) (a x : Nat) : filledL ws a 0 x = ws := copyL_nil ws a
theorem filled_step (ws : List Nat) (a n x : Nat) (h : a + n < ws.length) : (filledL ws a n x).set (a + n) x = filledL ws a (n + 1) x := by
  apply List.ext_getElem?
  intro i
  have l : (filledL ws a n x).length = ws.length := copyL_length _ _ _ (by simp; omega)
  rw [List.getElem?_set, l, copyL_get _ _ _ (by simp; omega), copyL_get _ _ _ (by simp; omega)]
  simp only [List.length_replicate, List.getElem?_replicate]
  by_cases c : a + n = i
  · subst c
    rw [if_pos rfl, if_pos h, if_neg (by omega), if_pos (by omega), if_pos (by omega)]
  · rw [if_neg c]
    by_cases d : i < a
    · rw [if_pos d, if_pos d]
    · rw [if_neg d, if_neg d]
      by_cases f : i < a + n
      · rw [if_pos f, if_pos (by omega), if_pos (by omega), if_pos (by omega)]
      · rw [if_neg f, if_neg (by omega)]
theorem filled_length (ws : List Nat) (a n x : Nat) (h : a + n ≤ ws.length) : (filledL ws a n x).length = ws.length := copyL_length _ _ _ (by simp; omega)
theorem moved_length (ws : List Nat) (t f n : Nat) (h : t + n ≤ ws.length) (h' : f + n ≤ ws.length) : (movedL ws t f n).length = ws.length := copyL_length _ _ _ (by rw [cutL_length _ _ _ h']; exact h)
theorem set_copy (ws : List Nat) (a x : Nat) (h : a < ws.length) : ws.set a x = filledL ws a 1 x := by
  have := filled_step ws a 0 x (by omega)
  rw [filled_zero] at this
  exact this
theorem Row.copy {w w' : World} {g to : Nat} {ws cs : List Nat} (h : Row w g ws) (hc : ∀ x ∈ cs, x < 18446744073709551616) (e : w'.heap[g]? = some (.cells (splice (U ws) to (U cs)).toArray 193 (0, 0))) : Row w' g (copyL ws to cs) :=
  ⟨by unfold Blk; rw [← copyL_U]; exact e, copyL_fit _ _ _ h.fit hc⟩
end Go.Proofs.YtcndilpaijapkaaGreat
/- What each function of package arena answers, of an arena whose words are known (Ar), and what becomes of the words. Own work; each is proved by a walk through the landed text. Conditions: as each states. -/
namespace Go.Proofs.YtcndilpaijapkaaGreat
open Go.ChangeShapes Go.WideShapes Go.ChangeAt Go.RowKit
set_option maxRecDepth 100000

/-- At p lies an arena whose words, in block g, are ws. -/
structure Ar (w : World) (p g : Nat) (ws : List Nat) : Prop where
  box : Blk w p 147 [.slice (some ⟨g, 0, none⟩) ws.length ws.length]
  row : Row w g ws
  big : ws.length ≤ 16384
theorem Ar.ne {w : World} {p g : Nat} {ws : List Nat} (h : Ar w p g ws) : p ≠ g := h.box.ne h.row.blk (by decide)
theorem Ar.kept {D : Nat → Prop} {w w' : World} {p g : Nat} {ws : List Nat} (h : Ar w p g ws) (k : Kept D w w') (hp : ¬ D p) (hg : ¬ D g) : Ar w' p g ws := ⟨h.box.kept k hp, h.row.kept k hg, h.big⟩
theorem Ar.cell {w : World} {p g : Nat} {ws : List Nat} (h : Ar w p g ws) : w.cell? ⟨p, 0, none⟩ = some (.slice (some ⟨g, 0, none⟩) ws.length ws.length) := h.box.cell 0
theorem Ar.alloc {w : World} {p g : Nat} {ws : List Nat} (h : Ar w p g ws) (o : Obj) : Ar (w.alloc o) p g ws := ⟨h.box.alloc o, h.row.alloc o, h.big⟩
theorem Ar.turn {w w' : World} {p g : Nat} {ws vs : List Nat} (h : Ar w p g ws) (k : Kept (Only g) w w') (r : Row w' g vs) (l : vs.length = ws.length) : Ar w' p g vs :=
  ⟨by rw [l]; exact h.box.kept k h.ne, r, by rw [l]; exact h.big⟩

/-! ### A copy -/
theorem one_cell : (Tryz.prog.info? 193).map (·.size) = some 1 := by kernel_rfl
/-- The builtin copy of n words onto a row: the words behind it, and nothing else has turned. -/
theorem copy_run (w : World) {g : Nat} {ws cs : List Nat} (off : Nat) (h : Row w g ws) (dp sp : Option Addr) (n dc sc : Nat) (hn : cs.length = n) (hf : ∀ x ∈ cs, x < 18446744073709551616) (hfit : off + n ≤ ws.length)
    (hd : 0 < n → dp = some ⟨g, off, none⟩) (hs : 0 < n → ∃ ad, sp = some ad ∧ ∀ j v, (U cs)[j]? = some v → w.cell? (ad.add j) = some v) :
    ∃ w', (Builtin.copy_ #[145, 145] 3 #[.slice dp n dc, .slice sp n sc]).run Tryz.prog w = .ok (.int .i64 (n : Int)) w' ∧ Row w' g (copyL ws off cs) ∧ Kept (Only g) w w' := by
  subst hn
  by_cases h0 : cs.length = 0
  · obtain rfl : cs = [] := List.eq_nil_of_length_eq_zero h0
    exact ⟨w, run_copy_none (P := Tryz.prog) w 145 145 3 193 dp sp _ dc _ sc Tryz.underlying145 one_cell rfl, by rw [copyL_nil]; exact h, Kept.refl _ _⟩
  · obtain rfl := hd (by omega)
    obtain ⟨ad, rfl, hsrc⟩ := hs (by omega)
    have hrun := run_copy_row (P := Tryz.prog) w 145 145 3 193 g off cs.length dc ad cs.length sc (U ws).toArray 193 (U cs) Tryz.underlying145 one_cell h.blk (by rw [U_length]; exact (Nat.min_self _).symm) hsrc (by simp [U_length]; omega) (U_one cs)
    rw [U_length] at hrun
    refine ⟨_, hrun, h.copy hf ?_, only_setRow _ _ _⟩
    have := setRow_heap w g _ ((U ws).toArray.toList.take off ++ (U cs ++ (U ws).toArray.toList.drop (off + cs.length))).toArray 193 _ h.blk
    simpa [splice, U_length] using this

/-! ### check -/
theorem check_nil (a n : Int) (w : World) :
    Calls Tryz.prog 166 #[.pointer none, .int .i64 a, .int .i64 n] w fun e w' => e = .returned (.int .i64 2) ∧ w = w' := by
  go_enter Tryz.func166, Tryz.ntmps166
  go_wp2
  go_ret
  exact ⟨rfl, rfl⟩
/-- Are the n words from a on there? -/
def thereB (l : Nat) (a n : Int) : Bool := decide (0 ≤ n ∧ 0 ≤ a ∧ n ≤ (l : Int) - a)
theorem check_ok {p g : Nat} {ws : List Nat} (a n : Int) (w : World) (h : Ar w p g ws) (t : thereB ws.length a n = true) :
    Calls Tryz.prog 166 #[ptr p, .int .i64 a, .int .i64 n] w fun e w' => e = .returned (.int .i64 0) ∧ w = w' := by
  obtain ⟨h0, h1, h2⟩ := of_decide_eq_true t
  have hc := h.cell
  have hb := h.big
  clear t
  have h3 : ¬ n < 0 := by omega
  have h4 : ¬ a < 0 := by omega
  have h5 : ¬ (ws.length : Int) - a < n := by omega
  go_enter Tryz.func166, Tryz.ntmps166
  go_wp2
  go_ret
  exact ⟨rfl, rfl⟩
theorem check_bad {p g : Nat} {ws : List Nat} (a n : Int) (w : World) (h : Ar w p g ws) (t : thereB ws.length a n = false) (b0 : -9223372036854775808 ≤ a) (b1 : a ≤ 9223372036854775807) :
    Calls Tryz.prog 166 #[ptr p, .int .i64 a, .int .i64 n] w fun e w' => e = .returned (.int .i64 1) ∧ w = w' := by
  have t' := of_decide_eq_false t
  have hc := h.cell
  have hb := h.big
  clear t
  by_cases c0 : n < 0
  · clear t'
    go_enter Tryz.func166, Tryz.ntmps166
    go_wp2
    go_ret
    exact ⟨rfl, rfl⟩
  · by_cases c1 : a < 0
    · clear t'
      go_enter Tryz.func166, Tryz.ntmps166
      go_wp2
      go_ret
      exact ⟨rfl, rfl⟩
    · have c2 : (ws.length : Int) - a < n := by omega
      clear t'
      go_enter Tryz.func166, Tryz.ntmps166
      go_wp2
      go_ret
      exact ⟨rfl, rfl⟩

/-! ### Len, Pages -/
theorem arLen_nil (w : World) : Calls Tryz.prog 113 #[.pointer none] w fun e w' => e = .returned (.int .i64 0) ∧ w = w' := by
  go_enter Tryz.func113, Tryz.ntmps113
  go_wp2
  go_ret
  exact ⟨rfl, rfl⟩
theorem arLen_any {p g : Nat} {ws : List Nat} (w : World) (h : Ar w p g ws) : Calls Tryz.prog 113 #[ptr p] w fun e w' => e = .returned (.int .i64 (ws.length : Int)) ∧ w = w' := by
  have hc := h.cell
  go_enter Tryz.func113, Tryz.ntmps113
  go_wp2
  go_ret
  exact ⟨rfl, rfl⟩
theorem pages_nil (w : World) : Calls Tryz.prog 183 #[.pointer none] w fun e w' => e = .returned (.int .i64 0) ∧ w = w' := by
  go_enter Tryz.func183, Tryz.ntmps183
  go_wp2_with fail
  refine (arLen_nil _).mono ?_
  rintro e w' ⟨rfl, rfl⟩
  go_wp2_with fail
  go_ret
  exact ⟨rfl, rfl⟩
theorem pages_any {p g : Nat} {ws : List Nat} (w : World) (h : Ar w p g ws) : Calls Tryz.prog 183 #[ptr p] w fun e w' => e = .returned (.int .i64 ((ws.length / 64 : Nat) : Int)) ∧ w = w' := by
  go_enter Tryz.func183, Tryz.ntmps183
  go_wp2_with fail
  refine (arLen_any _ h).mono ?_
  rintro e w' ⟨rfl, rfl⟩
  have hb := h.big
  go_wp2_with fail
  go_ret
  exact ⟨rfl, rfl⟩

/-! ### New -/
theorem uint_info : (Tryz.prog.info? 193).map (fun i => (i.zero, i.size, i.bytes)) = some (some (.int .u64 0), 1, 8) := by kernel_rfl
theorem make_words (n : Nat) (h : n ≤ 1099511627776) (w : World) :
    (Instr.makeSlice 145 (.int .i64 (n : Int)) (.int .i64 (n : Int))).run Tryz.prog w = .ok (.slice (some ⟨w.heap.size, 0, none⟩) n n) (w.alloc (.cells (madeCells #[.int .u64 0] n) 193)) :=
  run_make_row' (P := Tryz.prog) 145 193 (.int .u64 0) 8 Tryz.underlying145 uint_info rfl .i64 .i64 n (by omega) (by omega) w
theorem arNew_no (n : Int) (w : World) (h : n < 1 ∨ 256 < n) : Calls Tryz.prog 44 #[.int .i64 n] w fun e w' => e = .returned (.pointer none) ∧ w = w' := by
  rcases h with h | h
  · go_enter Tryz.func44, Tryz.ntmps44
    go_wp2
    go_ret
    exact ⟨rfl, rfl⟩
  · have h' : ¬ n < 1 := by omega
    go_enter Tryz.func44, Tryz.ntmps44
    go_wp2
    go_ret
    exact ⟨rfl, rfl⟩
/-- A new arena: two new blocks; all words are 0. -/
def arNewPost (n : Nat) (w : World) (e : Ending) (w' : World) : Prop := ∃ p g, e = .returned (ptr p) ∧ Ar w' p g (List.replicate (n * 64) 0) ∧ Kept Old w w' ∧ w.heap.size ≤ p ∧ w.heap.size ≤ g
theorem arNew_yes (n : Nat) (w : World) (h : 1 ≤ n) (h' : n ≤ 256) : Calls Tryz.prog 44 #[.int .i64 (n : Int)] w (arNewPost n w) := by
  have hm := make_words (n * 64) (by omega)
  have e : ((n * 64 : Nat) : Int) = (n : Int) * 64 := by omega
  rw [e] at hm
  clear e
  have P : arNewPost n w (.returned (ptr (w.heap.size + 1))) ((w.alloc (.cells (madeCells #[.int .u64 0] (n * 64)) 193)).alloc (.cells #[.slice (some ⟨w.heap.size, 0, none⟩) (n * 64) (n * 64)] 147)) := by
    refine ⟨w.heap.size + 1, w.heap.size, rfl, ⟨?_, (Row.zeros w _).alloc _, by simp; omega⟩, ((Kept.refl _ _).alloc _).alloc _, by omega, Nat.le_refl _⟩
    have := Blk.new (w.alloc (.cells (madeCells #[.int .u64 0] (n * 64)) 193)) 147 [.slice (some ⟨w.heap.size, 0, none⟩) (n * 64) (n * 64)]
    simpa using this
  go_enter Tryz.func44, Tryz.ntmps44
  go_wp2
  go_ret
  exact P

/-! ### Load, Store -/
theorem load_nil (a : Int) (w : World) : Calls Tryz.prog 139 #[.pointer none, .int .i64 a] w fun e w' => e = .returned (.tuple #[.int .u64 0, .int .i64 2]) ∧ w = w' := by
  go_enter Tryz.func139, Tryz.ntmps139
  go_wp2_with fail
  refine (check_nil _ _ _).mono ?_
  rintro e w' ⟨rfl, rfl⟩
  go_wp2_with fail
  go_ret2
  exact ⟨rfl, rfl⟩
theorem load_bad {p g : Nat} {ws : List Nat} (a : Int) (w : World) (h : Ar w p g ws) (t : thereB ws.length a 1 = false) (b0 : -9223372036854775808 ≤ a) (b1 : a ≤ 9223372036854775807) :
    Calls Tryz.prog 139 #[ptr p, .int .i64 a] w fun e w' => e = .returned (.tuple #[.int .u64 0, .int .i64 1]) ∧ w = w' := by
  have T := Lib.hid t
  clear t
  go_enter Tryz.func139, Tryz.ntmps139
  go_wp2_with fail
  refine (check_bad _ _ _ h T.out b0 b1).mono ?_
  rintro e w' ⟨rfl, rfl⟩
  go_wp2_with fail
  go_ret2
  exact ⟨rfl, rfl⟩
theorem there_nat (l a n : Nat) (h : a + n ≤ l) : thereB l (a : Int) (n : Int) = true := decide_eq_true (by omega)
theorem Row.at {w : World} {g : Nat} {ws : List Nat} (h : Row w g ws) {i x : Nat} (hx : ws[i]? = some x) : w.cell? ⟨g, i, none⟩ = some (.int .u64 (x : Int)) := by
  rw [h.blk.cell, U_get, hx]; rfl
theorem get_lt {ws : List Nat} {k x : Nat} (hx : ws[k]? = some x) : k < ws.length := by
  rcases Nat.lt_or_ge k ws.length with c | c
  · exact c
  · rw [List.getElem?_eq_none c] at hx; cases hx
theorem load_ok {p g : Nat} {ws : List Nat} (k x : Nat) (w : World) (h : Ar w p g ws) (hx : ws[k]? = some x) :
    Calls Tryz.prog 139 #[ptr p, .int .i64 (k : Int)] w fun e w' => e = .returned (.tuple #[.int .u64 (x : Int), .int .i64 0]) ∧ w = w' := by
  have hk := get_lt hx
  have c1 := h.row.at hx
  have c0 := h.cell
  clear hx
  go_enter Tryz.func139, Tryz.ntmps139
  go_wp2_with fail
  refine (check_ok _ _ _ h (there_nat _ k 1 hk)).mono ?_
  rintro e w' ⟨rfl, rfl⟩
  go_wp2_with fail
  go_ret2
  exact ⟨rfl, rfl⟩
theorem store_nil (a x : Int) (w : World) : Calls Tryz.prog 160 #[.pointer none, .int .i64 a, .int .u64 x] w fun e w' => e = .returned (.int .i64 2) ∧ w = w' := by
  go_enter Tryz.func160, Tryz.ntmps160
  go_wp2_with fail
  refine (check_nil _ _ _).mono ?_
  rintro e w' ⟨rfl, rfl⟩
  go_wp2_with fail
  go_ret
  exact ⟨rfl, rfl⟩
theorem store_bad {p g : Nat} {ws : List Nat} (a x : Int) (w : World) (h : Ar w p g ws) (t : thereB ws.length a 1 = false) (b0 : -9223372036854775808 ≤ a) (b1 : a ≤ 9223372036854775807) :
    Calls Tryz.prog 160 #[ptr p, .int .i64 a, .int .u64 x] w fun e w' => e = .returned (.int .i64 1) ∧ w = w' := by
  have T := Lib.hid t
  clear t
  go_enter Tryz.func160, Tryz.ntmps160
  go_wp2_with fail
  refine (check_bad _ _ _ h T.out b0 b1).mono ?_
  rintro e w' ⟨rfl, rfl⟩
  go_wp2_with fail
  go_ret
  exact ⟨rfl, rfl⟩
theorem store_ok {p g : Nat} {ws : List Nat} (k x : Nat) (w : World) (h : Ar w p g ws) (hk : k < ws.length) (hx : x < 18446744073709551616) :
    Calls Tryz.prog 160 #[ptr p, .int .i64 (k : Int), .int .u64 (x : Int)] w fun e w' => e = .returned (.int .i64 0) ∧ Ar w' p g (ws.set k x) ∧ Kept (Only g) w w' := by
  have c1 := h.row.cell hk
  have c0 := h.cell
  have f0 := h.row.frozen k
  have K : Kept (Only g) w (w.setCell ⟨g, k, none⟩ (.int .u64 (x : Int))) := only_setCell _ _ _ _
  have A := h.turn K (h.row.put k hx) (by simp)
  have K' := Lib.hid K
  have A' := Lib.hid A
  clear K A
  go_enter Tryz.func160, Tryz.ntmps160
  go_wp2_with fail
  refine (check_ok _ _ _ h (there_nat _ k 1 hk)).mono ?_
  rintro e w' ⟨rfl, rfl⟩
  go_wp2_with fail
  go_ret
  exact ⟨rfl, A'.out, K'.out⟩

/-! ### Cuts -/
/-- A cut 's[a:a+n]' of a row. -/
theorem cut_at (g l a n : Nat) (h : a + n ≤ l) : ∃ ad : Addr, (∀ W, (Instr.slice 145 (.slice (some ⟨g, 0, none⟩) l l) (some (.int .i64 (a : Int))) (some (.int .i64 ((a : Int) + (n : Int)))) none).run Tryz.prog W = .ok (.slice (some ad) n (l - a)) W) ∧ (0 < n → ad = ⟨g, a, none⟩) := by
  refine ⟨if l = a then ⟨g, 0, none⟩ else ⟨g, a, none⟩, fun W => ?_, fun hn => if_neg (by omega)⟩
  have hu : Tryz.prog.underlying 145 = some (.slice (Tryz.prog.elem 145)) := by kernel_rfl
  have hs : (sizeOf (Tryz.prog.elem 145)).run Tryz.prog W = .ok 1 W := by kernel_rfl
  rw [run_slice_lh (P := Tryz.prog) W 145 (some ⟨g, 0, none⟩) l l hu .i64 .i64 a _ (by omega) (by omega) (by omega), hs]
  simp only [Result.andThen, sliced, Int.toNat_natCast, Nat.mul_one, Option.map_some]
  have e1 : ((a : Int) + (n : Int)).toNat - a = n := by omega
  rw [e1]
  by_cases c : l = a
  · rw [if_pos c, if_pos c]
  · rw [if_neg c, if_neg c, addr_add, Nat.zero_add]
theorem cut_run (g l a n : Nat) (h : a + n ≤ l) : ∃ A : Option Addr, (∀ W, (Instr.slice 145 (.slice (some ⟨g, 0, none⟩) l l) (some (.int .i64 (a : Int))) (some (.int .i64 ((a : Int) + (n : Int)))) none).run Tryz.prog W = .ok (.slice A n (l - a)) W) ∧ (0 < n → A = some ⟨g, a, none⟩) := by
  obtain ⟨ad, h1, h2⟩ := cut_at g l a n h
  exact ⟨some ad, h1, fun hn => congrArg some (h2 hn)⟩

/-! ### Slice -/
/-- A slice is a new block. -/
def SlicePost (ws : List Nat) (a n : Nat) (w : World) (e : Ending) (w' : World) : Prop := ∃ g, e = .returned (.tuple #[.slice (some ⟨g, 0, none⟩) n n, .int .i64 0]) ∧ Row w' g (cutL ws a n) ∧ Kept Old w w' ∧ w.heap.size ≤ g
theorem arCut_cells {w : World} {g : Nat} {ws : List Nat} (h : Row w g ws) (a n : Nat) (A : Option Addr) (hA : 0 < n → A = some ⟨g, a, none⟩) (hn : 0 < n) :
    ∃ ad, A = some ad ∧ ∀ j v, (U (cutL ws a n))[j]? = some v → w.cell? (ad.add j) = some v := by
  refine ⟨_, hA hn, fun j v hv => ?_⟩
  rw [addr_add, h.blk.cell, ← hv, U_get, U_get, cutL_get]
  rw [U_get, cutL_get] at hv
  by_cases c : j < n
  · rw [if_pos c]
  · rw [if_neg c] at hv; cases hv

/-! ### Copy -/
theorem Ar.drew {w : World} {p g : Nat} {ws : List Nat} (h : Ar w p g ws) : Ar w.drew p g ws := ⟨h.box, h.row.drew, h.big⟩

/-! ### Fill -/
/-- Behind k rounds of a fill. -/
structure Filled (p g : Nat) (ws : List Nat) (a x : Nat) (w : World) (k : Nat) (W : World) : Prop where
  ar : Ar W p g (filledL ws a k x)
  kept : Kept (Only g) w W
theorem Filled.step {p g : Nat} {ws : List Nat} {a x : Nat} {w W : World} {k : Nat} (h : Filled p g ws a x w k W) (hk : a + k < ws.length) (hx : x < 18446744073709551616) :
    Filled p g ws a x w (k + 1) (W.setCell ⟨g, a + k, none⟩ (.int .u64 (x : Int))) := by
  refine ⟨?_, h.kept.trans (only_setCell _ _ _ _)⟩
  have r := h.ar.row.put (a + k) hx
  rw [filled_step ws a k x hk] at r
  exact h.ar.turn (only_setCell _ _ _ _) r (by rw [filled_length _ _ _ _ (by omega), filled_length _ _ _ _ (by omega)])
end Go.Proofs.YtcndilpaijapkaaGreat
