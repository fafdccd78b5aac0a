/-
  What Laid answers: a new arena and a list of the same words, those in front those that were handed in. Own work. Conditions: as stated.
-/
import Derived.Test.YtnhgimglefpbaaaRows
import Derived.Test.YtnhgimglefpbaaaArenaRef
namespace Go.Proofs.Ytnhgimglefpbaaa
open Go.ChangeShapes Go.WideShapes Go.ChangeAt Go.RowKit
set_option maxRecDepth 100000
/-- N words, the first k of xs in front. -/
def laidL (N k : Nat) (xs : List Nat) : List Nat := copyL (List.replicate N 0) 0 (xs.take k)
theorem laid_zero (N : Nat) (xs : List Nat) : laidL N 0 xs = List.replicate N 0 := by unfold laidL; rw [List.take_zero, copyL_nil]
theorem laid_length (N k : Nat) (xs : List Nat) (h : k ≤ N) : (laidL N k xs).length = N := by
  unfold laidL; rw [copyL_length _ _ _ (by simp; omega)]; simp
theorem laid_step (N k : Nat) (xs : List Nat) (x : Nat) (h : k < N) (hx : xs[k]? = some x) : (laidL N k xs).set k x = laidL N (k + 1) xs := by
  have hk := get_lt hx
  apply List.ext_getElem?
  intro i
  rw [List.getElem?_set, laid_length N k xs (by omega)]
  unfold laidL
  rw [copyL_get _ _ _ (by simp; omega), copyL_get _ _ _ (by simp; omega)]
  simp only [List.length_take, Nat.sub_zero, Nat.zero_add, Nat.not_lt_zero, if_false]
  rw [Nat.min_eq_left (by omega), Nat.min_eq_left (by omega)]
  by_cases c : k = i
  · subst c
    rw [if_pos rfl, if_pos h, if_pos (by omega), List.getElem?_take, if_pos (by omega), hx]
  · rw [if_neg c]
    by_cases d : i < k
    · rw [if_pos d, if_pos (by omega), List.getElem?_take, List.getElem?_take, if_pos d, if_pos (by omega)]
    · rw [if_neg d, if_neg (by omega)]
/-- Behind k rounds of Laid's loop. -/
structure LaidUp (B N p g h k : Nat) (xs : List Nat) (w W : World) : Prop where
  ar : Ar W p g (laidL N k xs)
  row : Row W h (laidL N k xs)
  kept : Kept Old w W
  pB : B ≤ p
  gB : B ≤ g
  hB : B ≤ h
  ne : g ≠ h
  ph : p ≠ h
theorem LaidUp.step1 {B N p g h k x : Nat} {xs : List Nat} {w W : World} (L : LaidUp B N p g h k xs w W) (hB : B = w.heap.size) (hk : k < N) (hx : xs[k]? = some x) (hf : x < 18446744073709551616) :
    Row (W.setCell ⟨h, k, none⟩ (.int .u64 (x : Int))) h (laidL N (k + 1) xs) ∧ Ar (W.setCell ⟨h, k, none⟩ (.int .u64 (x : Int))) p g (laidL N k xs) ∧ Kept Old w (W.setCell ⟨h, k, none⟩ (.int .u64 (x : Int))) := by
  refine ⟨?_, L.ar.kept (only_setCell W h k _) L.ph L.ne, L.kept.join (only_setCell W h k _) (fun i hi e => ?_)⟩
  · have := L.row.put k hf
    rwa [laid_step N k xs x hk hx] at this
  · have := L.hB; subst e; omega
theorem LaidUp.step2 {B N p g h k x : Nat} {xs : List Nat} {w W W1 W2 : World} (L : LaidUp B N p g h k xs w W) (hB : B = w.heap.size) (hk : k < N) (hx : xs[k]? = some x)
    (r : Row W1 h (laidL N (k + 1) xs)) (kp : Kept Old w W1) (a : Ar W2 p g ((laidL N k xs).set k x)) (k2 : Kept (Only g) W1 W2) : LaidUp B N p g h (k + 1) xs w W2 := by
  refine ⟨by rwa [laid_step N k xs x hk hx] at a, r.kept k2 (fun e => L.ne e.symm), kp.join k2 (fun i hi e => ?_), L.pB, L.gB, L.hB, L.ne, L.ph⟩
  have := L.gB; subst e; omega
/-- What Laid tells. -/
def LaidPost (N : Nat) (xs : List Nat) (w : World) (e : Ending) (w' : World) : Prop := ∃ p g h, e = .returned (.tuple #[ptr p, .slice (some ⟨h, 0, none⟩) N N]) ∧ LaidUp w.heap.size N p g h (min N xs.length) xs w w'
theorem laid_any (pages : Nat) (A : Option Addr) (n c : Nat) (xs : List Nat) (w : World) (h0 : 1 ≤ pages) (h1 : pages ≤ 256) (ha : Rd w A n xs) :
    Calls Try.prog 9 #[.int .i64 (pages : Int), .slice A n c] w (LaidPost (pages * 64) xs w) := by
  have hn := Lib.hid (new_yes pages w h0 h1)
  have hlen := Lib.hid ha.len
  have hm := make_words (pages * 64) (by omega)
  have e : ((pages * 64 : Nat) : Int) = (pages : Int) * 64 := by omega
  rw [e] at hm
  have E := Lib.hid e
  clear e
  go_enter Try.func9, Try.ntmps9
  go_wp2_with fail
  refine hn.out.mono ?_
  rintro e w1 ⟨p, g, rfl, a1, k1, hp, hg⟩
  go_wp2_with fail
  refine (len_any _ a1).mono ?_
  rintro e w' ⟨rfl, rfl⟩
  rw [List.length_replicate, E.out]
  go_wp2_with fail
  have hbox := a1.box.lt
  have hrow := a1.row.lt
  have S : LaidUp w.heap.size (pages * 64) p g w1.heap.size 0 xs w (w1.alloc (.cells (madeCells #[.int .u64 0] (pages * 64)) 47)) :=
    ⟨by rw [laid_zero]; exact a1.alloc _, by rw [laid_zero]; exact Row.zeros _ _, k1.alloc _, hp, hg, k1.size, by omega, by omega⟩
  have S' := Lib.hid S
  generalize hh : w1.heap.size = h at S'
  have HH := Lib.hid hh
  clear S hh hbox hrow a1 k1 hm
  go_loopw [8] (fun i wr => ∃ k : Nat, k ≤ n ∧ k ≤ pages * 64 ∧ i = .int .i64 (k : Int) ∧ Hid (LaidUp w.heap.size (pages * 64) p g h k xs w wr)) (fun i _ => n - (intOf i).toNat)
  case atStart => exact ⟨0, by omega, by omega, rfl, S'⟩
  case round =>
    obtain ⟨k, hk, hk2, rfl, L⟩ := hrel
    rename World => W
    by_cases c : k < n
    · by_cases d : k < pages * 64
      · have ra : Rd W A n xs := ha.old L.out.kept
        obtain ⟨b, o, x, rfl, hx1, hx, c1⟩ := ra.get c
        have HX := Lib.hid hx
        obtain ⟨s1, s2, s3⟩ := L.out.step1 rfl d hx hx1
        have c1' : (W.setCell ⟨h, k, none⟩ (.int .u64 (x : Int))).cell? ⟨b, o + k, none⟩ = some (.int .u64 (x : Int)) := by
          obtain ⟨g2, o2, e2, hb2, _⟩ := ha.lies (by omega)
          injection e2 with e2
          injection e2 with e2 _
          rw [World.cell?_setCell_other _ _ _ _ (by intro e3; injection e3 with e3; have := L.out.hB; omega)]
          exact c1
        obtain ⟨y, _, c2⟩ := L.out.row.has (i := k) (by rw [laid_length _ _ _ hk2]; exact d)
        have f2 := L.out.row.frozen k
        have s1' := Lib.hid s1
        have s2' := Lib.hid s2
        have s3' := Lib.hid s3
        have hl := Lib.hid (laid_length (pages * 64) k xs hk2)
        have hd : (k : Int) < (pages : Int) * 64 := by omega
        clear hx s1 s2 s3 ra ha
        go_wp2_with fail
        refine (store_ok k x _ s2'.out (by rw [hl.out]; exact d) hx1).mono ?_
        rintro e w2 ⟨rfl, a2, k2⟩
        have L2 := Lib.hid (L.out.step2 rfl d HX.out s1'.out s3'.out a2 k2)
        clear a2 k2 L
        go_wp2_with fail
        refine ⟨⟨k + 1, by omega, by omega, by go_num, L2⟩, ?_⟩
        simp [intOf]; omega
      · have P : LaidPost (pages * 64) xs w (.returned (.tuple #[ptr p, .slice (some ⟨h, 0, none⟩) (pages * 64) (pages * 64)])) W := by
          refine ⟨p, g, h, rfl, ?_⟩
          rw [hlen.out, show min (pages * 64) n = k by omega]
          exact L.out
        have hd : ¬ (k : Int) < (pages : Int) * 64 := by omega
        go_wp2_with fail
        go_ret2
        exact P
    · have P : LaidPost (pages * 64) xs w (.returned (.tuple #[ptr p, .slice (some ⟨h, 0, none⟩) (pages * 64) (pages * 64)])) W := by
        refine ⟨p, g, h, rfl, ?_⟩
        rw [hlen.out, show min (pages * 64) n = k by omega]
        exact L.out
      go_wp2_with fail
      go_ret2
      exact P
end Go.Proofs.Ytnhgimglefpbaaa
