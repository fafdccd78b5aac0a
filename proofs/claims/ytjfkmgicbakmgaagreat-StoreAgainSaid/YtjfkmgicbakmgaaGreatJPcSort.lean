/-
  A row of pieces that the library's sort has turned: it reads as a list in ascending order of addresses; what the sort leaves alone. Own work, on the library's own contract; no program is walked here.
-/
import Derived.Shelf.SlSortCmp.NoneTotal
import Derived.Test.YtjfkmgicbakmgaaGreatJPieces
namespace Go.Proofs.YtjfkmgicbakmgaaGreat.Pc
open Go.ChangeShapes Go.WideShapes Go.ChangeAt Go.RowKit Go.Shelf Go.Lib Go.Sort

def encP (x : R) : List Value := [.int .i64 x.1, .int .i64 x.2]
theorem map_size (w : World) (g : Nat) (f : Array Value → Array Value) : (mapBlock w g f).heap.size = w.heap.size := by unfold mapBlock; simp
theorem map_other (w : World) (g k : Nat) (f : Array Value → Array Value) (h : ¬ k = g) : (mapBlock w g f).heap[k]? = w.heap[k]? := by
  unfold mapBlock
  simp only [Array.getElem?_modify]
  rw [if_neg (fun e => h e.symm)]
theorem kept_sort (w : World) (g off m : Nat) (d : Array R) (os : Array Obj) : Kept (Only g) w (sortWorldK encP 2 w g off m d os) := by
  unfold sortWorldK putRowK putRow
  have s := map_size (Go.Sort.ahead w m) g (putCells id off (flatK encP 2 d))
  refine ⟨rfl, rfl, rfl, ?_, fun k hk hd => ?_⟩
  · rw [size_grow, s]
    exact Nat.le_add_right _ _
  · have e := map_other (Go.Sort.ahead w m) g k (putCells id off (flatK encP 2 d)) hd
    show ((mapBlock (Go.Sort.ahead w m) g (putCells id off (flatK encP 2 d))).heap ++ os)[k]? = _
    rw [Array.getElem?_append_left (by rw [s]; exact hk), e]
    rfl
theorem flat_at (d : Array R) (i : Nat) (hi : i < d.size) : (flatK encP 2 d)[i * 2]! = .int .i64 (d[i]!).1 ∧ (flatK encP 2 d)[i * 2 + 1]! = .int .i64 (d[i]!).2 := by
  rw [get_flatK _ _ _ _ (by omega), get_flatK _ _ _ _ (by omega), show i * 2 / 2 = i by omega, show i * 2 % 2 = 0 by omega, show (i * 2 + 1) / 2 = i by omega, show (i * 2 + 1) % 2 = 1 by omega]
  exact ⟨rfl, rfl⟩
theorem get_list {l : List R} {i : Nat} {x : R} (h : l[i]? = some x) : l.toArray[i]! = x := by
  rw [getElem!_def]
  simp [h]
theorem Ow.ways {w : World} {B : Nat} {v : Value} {n : Nat} {l : List R} (h : Ow w B v n l) : (v = .slice none 0 0 ∧ n = 0) ∨ ∃ g cap, v = .slice (some ⟨g, 0, none⟩) n cap ∧ n ≤ cap ∧ B ≤ g ∧ g < w.heap.size ∧ ∀ i, w.frozen? ⟨g, i, none⟩ = false := by
  rcases h.row.2 with ⟨e, hn⟩ | ⟨g, cap, cur, e, hb, hg, hn, _⟩
  · exact .inl ⟨e, by first | exact hn | (have := h.len; simp_all)⟩
  · have b : Blk w g 54 cur.toList := by first | exact hg | (show w.heap[g]? = _; rw [hg])
    exact .inr ⟨g, cap, e, hn, hb, (Array.getElem?_eq_some_iff.1 hg).1, fun i => Blk.frozen b i⟩
theorem Rs.holds {w : World} {g n : Nat} {l : List R} (h : Rs w (some ⟨g, 0, none⟩) n l) (f : ∀ i, w.frozen? ⟨g, i, none⟩ = false) : HoldsK encP 2 w g 0 l.toArray := by
  intro j hj
  have hj : j < l.toArray.size * 2 := by rw [size_flatK] at hj; exact hj
  have hl : l.toArray.size = l.length := rfl
  have hi : j / 2 < l.length := by omega
  have e : l[j / 2]? = some l[j / 2] := List.getElem?_eq_getElem hi
  obtain ⟨g', o', e', _, c⟩ := h.lies (by have := h.len; omega)
  injection e' with e'
  injection e' with e1 e2
  subst e1
  subst e2
  obtain ⟨f0, f1⟩ := flat_at l.toArray (j / 2) (by omega)
  rw [get_list e] at f0 f1
  refine ⟨?_, f _⟩
  rcases Nat.mod_two_eq_zero_or_one j with m | m
  · rw [show j / 2 * 2 = j by omega] at f0
    rw [f0]
    have := (c _ _ e).1
    rw [show 0 + j / 2 * 2 = 0 + j by omega] at this
    exact this
  · rw [show j / 2 * 2 + 1 = j by omega] at f1
    rw [f1]
    have := (c _ _ e).2
    rw [show 0 + j / 2 * 2 + 1 = 0 + j by omega] at this
    exact this
theorem rs_holds {w : World} {g n : Nat} {M : List R} (h : HoldsK encP 2 w g 0 M.toArray) (hg : g < w.heap.size) (hn : M.length = n) (fit : ∀ x ∈ M, in64 x.1 ∧ in64 x.2) : Rs w (some ⟨g, 0, none⟩) n M := by
  refine ⟨hn, fit, fun _ => ⟨g, 0, rfl, hg, fun i x hx => ?_⟩⟩
  have hi := (List.getElem?_eq_some_iff.1 hx).1
  have hs : M.toArray.size = M.length := rfl
  obtain ⟨f0, f1⟩ := flat_at M.toArray i (by omega)
  rw [get_list hx] at f0 f1
  have a := (h (i * 2) (by rw [size_flatK]; omega)).1
  have b := (h (i * 2 + 1) (by rw [size_flatK]; omega)).1
  rw [f0] at a
  rw [f1] at b
  exact ⟨a, b⟩
theorem ltP (x y : R) (cf : R → R → Int) (h : ∀ x y : R, cf x y < 0 ↔ x.1 < y.1) : ltOf cf x y = decide (x.1 < y.1) := by
  unfold ltOf
  by_cases c : x.1 < y.1
  · rw [decide_eq_true c, decide_eq_true ((h x y).2 c)]
  · rw [decide_eq_false c, decide_eq_false (fun q => c ((h x y).1 q))]
theorem swoP (cf : R → R → Int) (h : ∀ x y : R, cf x y < 0 ↔ x.1 < y.1) : SWO (ltOf cf) where
  irrefl x := by rw [ltP x x cf h]; simp
  trans x y z h1 h2 := by rw [ltP _ _ cf h] at *; simp at *; omega
  ntrans x y z h1 h2 := by rw [ltP _ _ cf h] at *; simp at *; omega
/-- What the sort leaves is the list in ascending order, where no address stands twice. -/
theorem sorted_of {l : List R} {d : Array R} {cf : R → R → Int} (h : ∀ x y : R, cf x y < 0 ↔ x.1 < y.1) (p : PermIn 0 l.toArray.size l.toArray d) (s : SortedIn (ltOf cf) 0 l.toArray.size d) (nd : l.Pairwise (fun x y => x.1 ≠ y.1)) : Sto.SortOf l d.toList := by
  obtain ⟨hsz, _, hp⟩ := p
  have e1 : d.extract 0 l.toArray.size = d := by rw [← hsz]; exact Array.extract_size
  have e2 : l.toArray.extract 0 l.toArray.size = l.toArray := Array.extract_size
  rw [e1, e2] at hp
  have hp : d.toList.Perm l := hp
  refine ⟨hp, ?_⟩
  have nd' := (hp.pairwise_iff (R := fun x y : R => x.1 ≠ y.1) (fun h => h.symm)).2 nd
  rw [List.pairwise_iff_getElem] at nd' ⊢
  intro i j hi hj hij
  have ne := nd' i j hi hj hij
  have hi' : i < d.size := by simpa using hi
  have hj' : j < d.size := by simpa using hj
  have so := s i j (Nat.zero_le _) hij (by omega)
  rw [ltP _ _ cf h] at so
  have so := of_decide_eq_false so
  rw [getElem!_pos d i hi', getElem!_pos d j hj'] at so
  have a : d.toList[i] = d[i] := Array.getElem_toList ..
  have b : d.toList[j] = d[j] := Array.getElem_toList ..
  rw [a, b] at ne ⊢
  omega
end Go.Proofs.YtjfkmgicbakmgaaGreat.Pc
