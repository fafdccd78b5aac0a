/-
  What each function of package arena answers, of an arena whose words are known (Ar), and what becomes of the words. Own work; each is proved by a walk through the landed text. Conditions: as each states.
-/
import Derived.Test.YtcaongcpfepcjaaRows
import Derived.Test.YtcaongcpfepcjaaMem
import Derived.WalkKit
import Derived.ProofKit
import Derived.OpenShut
import Derived.Outline
import Derived.Deep.Light
import Derived.Deep.QuietTactic
import Derived.BigQuiet
import Derived.IntWalk
import Derived.StillTailTactics
namespace Go.Proofs.Ytcaongcpfepcjaa
open Go.ChangeShapes Go.WideShapes Go.ChangeAt Go.RowKit
set_option maxRecDepth 100000

/-- At p lies an arena whose words, in block g, are ws. -/
structure Ar (w : World) (p g : Nat) (ws : List Nat) : Prop where
  box : Blk w p 57 [.slice (some ⟨g, 0, none⟩) ws.length ws.length]
  row : Row w g ws
  big : ws.length ≤ 16384
theorem Ar.ne {w : World} {p g : Nat} {ws : List Nat} (h : Ar w p g ws) : p ≠ g := h.box.ne h.row.blk (by decide)
theorem Ar.kept {D : Nat → Prop} {w w' : World} {p g : Nat} {ws : List Nat} (h : Ar w p g ws) (k : Kept D w w') (hp : ¬ D p) (hg : ¬ D g) : Ar w' p g ws := ⟨h.box.kept k hp, h.row.kept k hg, h.big⟩
theorem Ar.cell {w : World} {p g : Nat} {ws : List Nat} (h : Ar w p g ws) : w.cell? ⟨p, 0, none⟩ = some (.slice (some ⟨g, 0, none⟩) ws.length ws.length) := h.box.cell 0
theorem Ar.alloc {w : World} {p g : Nat} {ws : List Nat} (h : Ar w p g ws) (o : Obj) : Ar (w.alloc o) p g ws := ⟨h.box.alloc o, h.row.alloc o, h.big⟩
abbrev ptr (p : Nat) : Value := .pointer (some ⟨p, 0, none⟩)
theorem Ar.turn {w w' : World} {p g : Nat} {ws vs : List Nat} (h : Ar w p g ws) (k : Kept (Only g) w w') (r : Row w' g vs) (l : vs.length = ws.length) : Ar w' p g vs :=
  ⟨by rw [l]; exact h.box.kept k h.ne, r, by rw [l]; exact h.big⟩

/-! ### A copy -/
theorem one_cell : (Try.prog.info? 85).map (·.size) = some 1 := by kernel_rfl
/-- The builtin copy of n words onto a row: the words behind it, and nothing else has turned. -/
theorem copy_run (w : World) {g : Nat} {ws cs : List Nat} (off : Nat) (h : Row w g ws) (dp sp : Option Addr) (n dc sc : Nat) (hn : cs.length = n) (hf : ∀ x ∈ cs, x < 18446744073709551616) (hfit : off + n ≤ ws.length)
    (hd : 0 < n → dp = some ⟨g, off, none⟩) (hs : 0 < n → ∃ ad, sp = some ad ∧ ∀ j v, (U cs)[j]? = some v → w.cell? (ad.add j) = some v) :
    ∃ w', (Builtin.copy_ #[55, 55] 3 #[.slice dp n dc, .slice sp n sc]).run Try.prog w = .ok (.int .i64 (n : Int)) w' ∧ Row w' g (copyL ws off cs) ∧ Kept (Only g) w w' := by
  subst hn
  by_cases h0 : cs.length = 0
  · obtain rfl : cs = [] := List.eq_nil_of_length_eq_zero h0
    exact ⟨w, run_copy_none (P := Try.prog) w 55 55 3 85 dp sp _ dc _ sc Try.underlying55 one_cell rfl, by rw [copyL_nil]; exact h, Kept.refl _ _⟩
  · obtain rfl := hd (by omega)
    obtain ⟨ad, rfl, hsrc⟩ := hs (by omega)
    have hrun := run_copy_row (P := Try.prog) w 55 55 3 85 g off cs.length dc ad cs.length sc (U ws).toArray 85 (U cs) Try.underlying55 one_cell h.blk (by rw [U_length]; exact (Nat.min_self _).symm) hsrc (by simp [U_length]; omega) (U_one cs)
    rw [U_length] at hrun
    refine ⟨_, hrun, h.copy hf ?_, only_setRow _ _ _⟩
    have := setRow_heap w g _ ((U ws).toArray.toList.take off ++ (U cs ++ (U ws).toArray.toList.drop (off + cs.length))).toArray 85 _ h.blk
    simpa [splice, U_length] using this

/-! ### check -/
theorem check_nil (a n : Int) (w : World) :
    Calls Try.prog 54 #[.pointer none, .int .i64 a, .int .i64 n] w fun e w' => e = .returned (.int .i64 2) ∧ w = w' := by
  go_enter Try.func54, Try.ntmps54
  go_wp2
  go_ret
  exact ⟨rfl, rfl⟩
/-- Are the n words from a on there? -/
def thereB (l : Nat) (a n : Int) : Bool := decide (0 ≤ n ∧ 0 ≤ a ∧ n ≤ (l : Int) - a)
theorem check_ok {p g : Nat} {ws : List Nat} (a n : Int) (w : World) (h : Ar w p g ws) (t : thereB ws.length a n = true) :
    Calls Try.prog 54 #[ptr p, .int .i64 a, .int .i64 n] w fun e w' => e = .returned (.int .i64 0) ∧ w = w' := by
  obtain ⟨h0, h1, h2⟩ := of_decide_eq_true t
  have hc := h.cell
  have hb := h.big
  clear t
  have h3 : ¬ n < 0 := by omega
  have h4 : ¬ a < 0 := by omega
  have h5 : ¬ (ws.length : Int) - a < n := by omega
  go_enter Try.func54, Try.ntmps54
  go_wp2
  go_ret
  exact ⟨rfl, rfl⟩
theorem check_bad {p g : Nat} {ws : List Nat} (a n : Int) (w : World) (h : Ar w p g ws) (t : thereB ws.length a n = false) (b0 : -9223372036854775808 ≤ a) (b1 : a ≤ 9223372036854775807) :
    Calls Try.prog 54 #[ptr p, .int .i64 a, .int .i64 n] w fun e w' => e = .returned (.int .i64 1) ∧ w = w' := by
  have t' := of_decide_eq_false t
  have hc := h.cell
  have hb := h.big
  clear t
  by_cases c0 : n < 0
  · clear t'
    go_enter Try.func54, Try.ntmps54
    go_wp2
    go_ret
    exact ⟨rfl, rfl⟩
  · by_cases c1 : a < 0
    · clear t'
      go_enter Try.func54, Try.ntmps54
      go_wp2
      go_ret
      exact ⟨rfl, rfl⟩
    · have c2 : (ws.length : Int) - a < n := by omega
      clear t'
      go_enter Try.func54, Try.ntmps54
      go_wp2
      go_ret
      exact ⟨rfl, rfl⟩

/-! ### Len, Pages -/
theorem len_nil (w : World) : Calls Try.prog 41 #[.pointer none] w fun e w' => e = .returned (.int .i64 0) ∧ w = w' := by
  go_enter Try.func41, Try.ntmps41
  go_wp2
  go_ret
  exact ⟨rfl, rfl⟩
theorem len_any {p g : Nat} {ws : List Nat} (w : World) (h : Ar w p g ws) : Calls Try.prog 41 #[ptr p] w fun e w' => e = .returned (.int .i64 (ws.length : Int)) ∧ w = w' := by
  have hc := h.cell
  go_enter Try.func41, Try.ntmps41
  go_wp2
  go_ret
  exact ⟨rfl, rfl⟩
theorem pages_nil (w : World) : Calls Try.prog 24 #[.pointer none] w fun e w' => e = .returned (.int .i64 0) ∧ w = w' := by
  go_enter Try.func24, Try.ntmps24
  go_wp2_with fail
  refine (len_nil _).mono ?_
  rintro e w' ⟨rfl, rfl⟩
  go_wp2_with fail
  go_ret
  exact ⟨rfl, rfl⟩
theorem pages_any {p g : Nat} {ws : List Nat} (w : World) (h : Ar w p g ws) : Calls Try.prog 24 #[ptr p] w fun e w' => e = .returned (.int .i64 ((ws.length / 64 : Nat) : Int)) ∧ w = w' := by
  go_enter Try.func24, Try.ntmps24
  go_wp2_with fail
  refine (len_any _ h).mono ?_
  rintro e w' ⟨rfl, rfl⟩
  have hb := h.big
  go_wp2_with fail
  go_ret
  exact ⟨rfl, rfl⟩

/-! ### New -/
theorem uint_info : (Try.prog.info? 85).map (fun i => (i.zero, i.size, i.bytes)) = some (some (.int .u64 0), 1, 8) := by kernel_rfl
theorem make_words (n : Nat) (h : n ≤ 1099511627776) (w : World) :
    (Instr.makeSlice 55 (.int .i64 (n : Int)) (.int .i64 (n : Int))).run Try.prog w = .ok (.slice (some ⟨w.heap.size, 0, none⟩) n n) (w.alloc (.cells (madeCells #[.int .u64 0] n) 85)) :=
  run_make_row' (P := Try.prog) 55 85 (.int .u64 0) 8 Try.underlying55 uint_info rfl .i64 .i64 n (by omega) (by omega) w
theorem new_no (n : Int) (w : World) (h : n < 1 ∨ 256 < n) : Calls Try.prog 9 #[.int .i64 n] w fun e w' => e = .returned (.pointer none) ∧ w = w' := by
  rcases h with h | h
  · go_enter Try.func9, Try.ntmps9
    go_wp2
    go_ret
    exact ⟨rfl, rfl⟩
  · have h' : ¬ n < 1 := by omega
    go_enter Try.func9, Try.ntmps9
    go_wp2
    go_ret
    exact ⟨rfl, rfl⟩
/-- A new arena: two new blocks; all words are 0. -/
def NewPost (n : Nat) (w : World) (e : Ending) (w' : World) : Prop := ∃ p g, e = .returned (ptr p) ∧ Ar w' p g (List.replicate (n * 64) 0) ∧ Kept Old w w' ∧ w.heap.size ≤ p ∧ w.heap.size ≤ g
theorem new_yes (n : Nat) (w : World) (h : 1 ≤ n) (h' : n ≤ 256) : Calls Try.prog 9 #[.int .i64 (n : Int)] w (NewPost n w) := by
  have hm := make_words (n * 64) (by omega)
  have e : ((n * 64 : Nat) : Int) = (n : Int) * 64 := by omega
  rw [e] at hm
  clear e
  have P : NewPost n w (.returned (ptr (w.heap.size + 1))) ((w.alloc (.cells (madeCells #[.int .u64 0] (n * 64)) 85)).alloc (.cells #[.slice (some ⟨w.heap.size, 0, none⟩) (n * 64) (n * 64)] 57)) := by
    refine ⟨w.heap.size + 1, w.heap.size, rfl, ⟨?_, (Row.zeros w _).alloc _, by simp; omega⟩, ((Kept.refl _ _).alloc _).alloc _, by omega, Nat.le_refl _⟩
    have := Blk.new (w.alloc (.cells (madeCells #[.int .u64 0] (n * 64)) 85)) 57 [.slice (some ⟨w.heap.size, 0, none⟩) (n * 64) (n * 64)]
    simpa using this
  go_enter Try.func9, Try.ntmps9
  go_wp2
  go_ret
  exact P

/-! ### Load, Store -/
theorem load_nil (a : Int) (w : World) : Calls Try.prog 49 #[.pointer none, .int .i64 a] w fun e w' => e = .returned (.tuple #[.int .u64 0, .int .i64 2]) ∧ w = w' := by
  go_enter Try.func49, Try.ntmps49
  go_wp2_with fail
  refine (check_nil _ _ _).mono ?_
  rintro e w' ⟨rfl, rfl⟩
  go_wp2_with fail
  go_ret2
  exact ⟨rfl, rfl⟩
theorem load_bad {p g : Nat} {ws : List Nat} (a : Int) (w : World) (h : Ar w p g ws) (t : thereB ws.length a 1 = false) (b0 : -9223372036854775808 ≤ a) (b1 : a ≤ 9223372036854775807) :
    Calls Try.prog 49 #[ptr p, .int .i64 a] w fun e w' => e = .returned (.tuple #[.int .u64 0, .int .i64 1]) ∧ w = w' := by
  have T := Lib.hid t
  clear t
  go_enter Try.func49, Try.ntmps49
  go_wp2_with fail
  refine (check_bad _ _ _ h T.out b0 b1).mono ?_
  rintro e w' ⟨rfl, rfl⟩
  go_wp2_with fail
  go_ret2
  exact ⟨rfl, rfl⟩
theorem there_nat (l a n : Nat) (h : a + n ≤ l) : thereB l (a : Int) (n : Int) = true := decide_eq_true (by omega)
theorem Row.at {w : World} {g : Nat} {ws : List Nat} (h : Row w g ws) {i x : Nat} (hx : ws[i]? = some x) : w.cell? ⟨g, i, none⟩ = some (.int .u64 (x : Int)) := by
  rw [h.blk.cell, U_get, hx]; rfl
theorem get_lt {ws : List Nat} {k x : Nat} (hx : ws[k]? = some x) : k < ws.length := by
  rcases Nat.lt_or_ge k ws.length with c | c
  · exact c
  · rw [List.getElem?_eq_none c] at hx; cases hx
theorem load_ok {p g : Nat} {ws : List Nat} (k x : Nat) (w : World) (h : Ar w p g ws) (hx : ws[k]? = some x) :
    Calls Try.prog 49 #[ptr p, .int .i64 (k : Int)] w fun e w' => e = .returned (.tuple #[.int .u64 (x : Int), .int .i64 0]) ∧ w = w' := by
  have hk := get_lt hx
  have c1 := h.row.at hx
  have c0 := h.cell
  clear hx
  go_enter Try.func49, Try.ntmps49
  go_wp2_with fail
  refine (check_ok _ _ _ h (there_nat _ k 1 hk)).mono ?_
  rintro e w' ⟨rfl, rfl⟩
  go_wp2_with fail
  go_ret2
  exact ⟨rfl, rfl⟩
theorem store_nil (a x : Int) (w : World) : Calls Try.prog 51 #[.pointer none, .int .i64 a, .int .u64 x] w fun e w' => e = .returned (.int .i64 2) ∧ w = w' := by
  go_enter Try.func51, Try.ntmps51
  go_wp2_with fail
  refine (check_nil _ _ _).mono ?_
  rintro e w' ⟨rfl, rfl⟩
  go_wp2_with fail
  go_ret
  exact ⟨rfl, rfl⟩
theorem store_bad {p g : Nat} {ws : List Nat} (a x : Int) (w : World) (h : Ar w p g ws) (t : thereB ws.length a 1 = false) (b0 : -9223372036854775808 ≤ a) (b1 : a ≤ 9223372036854775807) :
    Calls Try.prog 51 #[ptr p, .int .i64 a, .int .u64 x] w fun e w' => e = .returned (.int .i64 1) ∧ w = w' := by
  have T := Lib.hid t
  clear t
  go_enter Try.func51, Try.ntmps51
  go_wp2_with fail
  refine (check_bad _ _ _ h T.out b0 b1).mono ?_
  rintro e w' ⟨rfl, rfl⟩
  go_wp2_with fail
  go_ret
  exact ⟨rfl, rfl⟩
theorem store_ok {p g : Nat} {ws : List Nat} (k x : Nat) (w : World) (h : Ar w p g ws) (hk : k < ws.length) (hx : x < 18446744073709551616) :
    Calls Try.prog 51 #[ptr p, .int .i64 (k : Int), .int .u64 (x : Int)] w fun e w' => e = .returned (.int .i64 0) ∧ Ar w' p g (ws.set k x) ∧ Kept (Only g) w w' := by
  have c1 := h.row.cell hk
  have c0 := h.cell
  have f0 := h.row.frozen k
  have K : Kept (Only g) w (w.setCell ⟨g, k, none⟩ (.int .u64 (x : Int))) := only_setCell _ _ _ _
  have A := h.turn K (h.row.put k hx) (by simp)
  have K' := Lib.hid K
  have A' := Lib.hid A
  clear K A
  go_enter Try.func51, Try.ntmps51
  go_wp2_with fail
  refine (check_ok _ _ _ h (there_nat _ k 1 hk)).mono ?_
  rintro e w' ⟨rfl, rfl⟩
  go_wp2_with fail
  go_ret
  exact ⟨rfl, A'.out, K'.out⟩

/-! ### Cuts -/
/-- A cut 's[a:a+n]' of a row. -/
theorem cut_at (g l a n : Nat) (h : a + n ≤ l) : ∃ ad : Addr, (∀ W, (Instr.slice 55 (.slice (some ⟨g, 0, none⟩) l l) (some (.int .i64 (a : Int))) (some (.int .i64 ((a : Int) + (n : Int)))) none).run Try.prog W = .ok (.slice (some ad) n (l - a)) W) ∧ (0 < n → ad = ⟨g, a, none⟩) := by
  refine ⟨if l = a then ⟨g, 0, none⟩ else ⟨g, a, none⟩, fun W => ?_, fun hn => if_neg (by omega)⟩
  have hu : Try.prog.underlying 55 = some (.slice (Try.prog.elem 55)) := by kernel_rfl
  have hs : (sizeOf (Try.prog.elem 55)).run Try.prog W = .ok 1 W := by kernel_rfl
  rw [run_slice_lh (P := Try.prog) W 55 (some ⟨g, 0, none⟩) l l hu .i64 .i64 a _ (by omega) (by omega) (by omega), hs]
  simp only [Result.andThen, sliced, Int.toNat_natCast, Nat.mul_one, Option.map_some]
  have e1 : ((a : Int) + (n : Int)).toNat - a = n := by omega
  rw [e1]
  by_cases c : l = a
  · rw [if_pos c, if_pos c]
  · rw [if_neg c, if_neg c, addr_add, Nat.zero_add]
theorem cut_run (g l a n : Nat) (h : a + n ≤ l) : ∃ A : Option Addr, (∀ W, (Instr.slice 55 (.slice (some ⟨g, 0, none⟩) l l) (some (.int .i64 (a : Int))) (some (.int .i64 ((a : Int) + (n : Int)))) none).run Try.prog W = .ok (.slice A n (l - a)) W) ∧ (0 < n → A = some ⟨g, a, none⟩) := by
  obtain ⟨ad, h1, h2⟩ := cut_at g l a n h
  exact ⟨some ad, h1, fun hn => congrArg some (h2 hn)⟩

/-! ### Slice -/
/-- A slice is a new block. -/
def SlicePost (ws : List Nat) (a n : Nat) (w : World) (e : Ending) (w' : World) : Prop := ∃ g, e = .returned (.tuple #[.slice (some ⟨g, 0, none⟩) n n, .int .i64 0]) ∧ Row w' g (cutL ws a n) ∧ Kept Old w w' ∧ w.heap.size ≤ g
theorem cut_cells {w : World} {g : Nat} {ws : List Nat} (h : Row w g ws) (a n : Nat) (A : Option Addr) (hA : 0 < n → A = some ⟨g, a, none⟩) (hn : 0 < n) :
    ∃ ad, A = some ad ∧ ∀ j v, (U (cutL ws a n))[j]? = some v → w.cell? (ad.add j) = some v := by
  refine ⟨_, hA hn, fun j v hv => ?_⟩
  rw [addr_add, h.blk.cell, ← hv, U_get, U_get, cutL_get]
  rw [U_get, cutL_get] at hv
  by_cases c : j < n
  · rw [if_pos c]
  · rw [if_neg c] at hv; cases hv

/-! ### Copy -/
theorem Ar.drew {w : World} {p g : Nat} {ws : List Nat} (h : Ar w p g ws) : Ar w.drew p g ws := ⟨h.box, h.row.drew, h.big⟩

/-! ### Fill -/
/-- Behind k rounds of a fill. -/
structure Filled (p g : Nat) (ws : List Nat) (a x : Nat) (w : World) (k : Nat) (W : World) : Prop where
  ar : Ar W p g (filledL ws a k x)
  kept : Kept (Only g) w W
theorem Filled.step {p g : Nat} {ws : List Nat} {a x : Nat} {w W : World} {k : Nat} (h : Filled p g ws a x w k W) (hk : a + k < ws.length) (hx : x < 18446744073709551616) :
    Filled p g ws a x w (k + 1) (W.setCell ⟨g, a + k, none⟩ (.int .u64 (x : Int))) := by
  refine ⟨?_, h.kept.trans (only_setCell _ _ _ _)⟩
  have r := h.ar.row.put (a + k) hx
  rw [filled_step ws a k x hk] at r
  exact h.ar.turn (only_setCell _ _ _ _) r (by rw [filled_length _ _ _ _ (by omega), filled_length _ _ _ _ (by omega)])
end Go.Proofs.Ytcaongcpfepcjaa
