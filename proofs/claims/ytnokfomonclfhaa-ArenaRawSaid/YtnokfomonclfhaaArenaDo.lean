/-
  What the law's own step (do) answers: the arena and the list of words stay alike. Own work; a walk for each kind of call. Conditions: as stated.
-/
import Derived.Test.YtnokfomonclfhaaRows
import Derived.Test.YtnokfomonclfhaaArenaSteps
namespace Go.Proofs.Ytnokfomonclfhaa
open Go.ChangeShapes Go.WideShapes Go.ChangeAt Go.RowKit
set_option maxRecDepth 100000
abbrev Two (g h : Nat) (i : Nat) : Prop := i = g ∨ i = h
def DoPost (p g h l : Nat) (w : World) (e : Ending) (w' : World) : Prop := ∃ ws, e = .returned (.bool true) ∧ Ar w' p g ws ∧ Row w' h ws ∧ ws.length = l ∧ Kept (Two g h) w w'
theorem DoPost.same {p g h : Nat} {ws : List Nat} {w w' : World} (ha : Ar w p g ws) (hr : Row w h ws) (k : Kept Old w w') : DoPost p g h ws.length w (.returned (.bool true)) w' :=
  ⟨ws, rfl, ha.kept k (fun x => x) (fun x => x), hr.kept k (fun x => x), rfl, k.any⟩
theorem DoPost.mk {p g h : Nat} {ws vs : List Nat} {w w1 w2 : World} (ne : g ≠ h) (np : p ≠ h) (a1 : Ar w1 p g vs) (k1 : Kept (Only g) w w1) (r2 : Row w2 h vs) (k2 : Kept (Only h) w1 w2) (l : vs.length = ws.length) : DoPost p g h ws.length w (.returned (.bool true)) w2 :=
  ⟨vs, rfl, a1.kept k2 np ne, r2, l, (k1.mono fun _ e => Or.inl e).trans (k2.mono fun _ e => Or.inr e)⟩
theorem there_cases (l : Nat) (a n : Int) (h : thereB l a n = true) : ∃ i k : Nat, a = i ∧ n = k ∧ i + k ≤ l := by
  obtain ⟨h0, h1, h2⟩ := of_decide_eq_true h
  exact ⟨a.toNat, n.toNat, by omega, by omega, by omega⟩
theorem ne_beq (a b : Int) (h : a ≠ b) : (a == b) = false := by simpa using h

theorem do_load {p g h : Nat} {ws : List Nat} (a n to x : Int) (w : World) (ha : Ar w p g ws) (hr : Row w h ws) (b0 : -9223372036854775808 ≤ a) (b1 : a ≤ 9223372036854775807) :
    Calls Try.prog 10 #[ptr p, .slice (some ⟨h, 0, none⟩) ws.length ws.length, .int .i64 0, .int .i64 a, .int .i64 n, .int .i64 to, .int .u64 x] w (DoPost p g h ws.length w) := by
  have hb := ha.big
  have P := Lib.hid (DoPost.same ha hr (Kept.refl Old w))
  cases c : thereB ws.length a 1
  · have T := Lib.hid c
    clear c
    go_enter Try.func10, Try.ntmps10
    go_wp2_with fail
    refine (load_bad _ _ ha T.out b0 b1).mono ?_
    rintro e w' ⟨rfl, rfl⟩
    go_wp2_with fail
    refine (there_no _ _ _ _ _ _ T.out hb).mono ?_
    rintro e w' ⟨rfl, rfl⟩
    go_wp2_with fail
    go_ret
    exact P.out
  · obtain ⟨i, k, rfl, hk, hi⟩ := there_cases _ _ _ c
    have hi' : i < ws.length := by omega
    obtain ⟨y, hy⟩ : ∃ y, ws[i]? = some y := ⟨_, List.getElem?_eq_getElem hi'⟩
    have HY := Lib.hid hy
    have c1 := hr.at hy
    have T := Lib.hid c
    clear c hk hy hi
    go_enter Try.func10, Try.ntmps10
    go_wp2_with fail
    refine (load_ok _ _ _ ha HY.out).mono ?_
    rintro e w' ⟨rfl, rfl⟩
    go_wp2_with fail
    refine (there_yes _ _ _ _ _ _ T.out hb).mono ?_
    rintro e w' ⟨rfl, rfl⟩
    go_wp2_with fail
    go_ret
    exact P.out
theorem do_store {p g h : Nat} {ws : List Nat} (a n to : Int) (x : Nat) (w : World) (ha : Ar w p g ws) (hr : Row w h ws) (ne : g ≠ h) (np : p ≠ h) (b0 : -9223372036854775808 ≤ a) (b1 : a ≤ 9223372036854775807) (hx : x < 18446744073709551616) :
    Calls Try.prog 10 #[ptr p, .slice (some ⟨h, 0, none⟩) ws.length ws.length, .int .i64 1, .int .i64 a, .int .i64 n, .int .i64 to, .int .u64 (x : Int)] w (DoPost p g h ws.length w) := by
  have hb := ha.big
  cases c : thereB ws.length a 1
  · have P := Lib.hid (DoPost.same ha hr (Kept.refl Old w))
    have T := Lib.hid c
    clear c
    go_enter Try.func10, Try.ntmps10
    go_wp2_with fail
    refine (store_bad _ _ _ ha T.out b0 b1).mono ?_
    rintro e w' ⟨rfl, rfl⟩
    go_wp2_with fail
    refine (there_no _ _ _ _ _ _ T.out hb).mono ?_
    rintro e w' ⟨rfl, rfl⟩
    go_wp2_with fail
    go_ret
    exact P.out
  · obtain ⟨i, k, rfl, hk, hi⟩ := there_cases _ _ _ c
    have hi' : i < ws.length := by omega
    have T := Lib.hid c
    clear c hk hi
    go_enter Try.func10, Try.ntmps10
    go_wp2_with fail
    refine (store_ok _ _ _ ha hi' hx).mono ?_
    rintro e w1 ⟨rfl, a1, k1⟩
    have r1 := hr.kept k1 (fun e => ne e.symm)
    obtain ⟨y, _, c1⟩ := r1.has hi'
    have f1 := r1.frozen i
    have P := Lib.hid (DoPost.mk ne np a1 k1 (r1.put i hx) (only_setCell w1 h i _) (ws := ws) (by simp))
    clear a1 k1 r1
    go_wp2_with fail
    refine (there_yes _ _ _ _ _ _ T.out hb).mono ?_
    rintro e w' ⟨rfl, rfl⟩
    go_wp2_with fail
    go_ret
    exact P.out
theorem do_copy {p g h : Nat} {ws : List Nat} (a n to x : Int) (w : World) (ha : Ar w p g ws) (hr : Row w h ws) (ne : g ≠ h) (np : p ≠ h) (b0 : -9223372036854775808 ≤ a) (b1 : a ≤ 9223372036854775807) (b2 : -9223372036854775808 ≤ to) (b3 : to ≤ 9223372036854775807) :
    Calls Try.prog 10 #[ptr p, .slice (some ⟨h, 0, none⟩) ws.length ws.length, .int .i64 2, .int .i64 a, .int .i64 n, .int .i64 to, .int .u64 x] w (DoPost p g h ws.length w) := by
  have hb := ha.big
  cases c : thereB ws.length a n
  · have P := Lib.hid (DoPost.same ha hr (Kept.refl Old w))
    have T := Lib.hid c
    have T2 := Lib.hid (show (thereB ws.length to n && thereB ws.length a n) = false by rw [c, Bool.and_false])
    clear c
    go_enter Try.func10, Try.ntmps10
    go_wp2_with fail
    refine (copy_bad _ _ _ _ ha T2.out b0 b1 b2 b3).mono ?_
    rintro e w' ⟨rfl, rfl⟩
    go_wp2_with fail
    refine (there_no _ _ _ _ _ _ T.out hb).mono ?_
    rintro e w' ⟨rfl, rfl⟩
    go_wp2_with fail
    go_ret
    exact P.out
  · cases d : thereB ws.length to n
    · have P := Lib.hid (DoPost.same ha hr (Kept.refl Old w))
      have T := Lib.hid c
      have S := Lib.hid d
      have T2 := Lib.hid (show (thereB ws.length to n && thereB ws.length a n) = false by rw [d, Bool.false_and])
      clear c d
      go_enter Try.func10, Try.ntmps10
      go_wp2_with fail
      refine (copy_bad _ _ _ _ ha T2.out b0 b1 b2 b3).mono ?_
      rintro e w' ⟨rfl, rfl⟩
      go_wp2_with fail
      refine (there_yes _ _ _ _ _ _ T.out hb).mono ?_
      rintro e w' ⟨rfl, rfl⟩
      go_wp2_with fail
      refine (there_no _ _ _ _ _ _ S.out hb).mono ?_
      rintro e w' ⟨rfl, rfl⟩
      go_wp2_with fail
      go_ret
      exact P.out
    · obtain ⟨i, k, rfl, rfl, hi⟩ := there_cases _ _ _ c
      obtain ⟨j, k', rfl, hk', hj⟩ := there_cases _ _ _ d
      obtain rfl : k = k' := by omega
      have T := Lib.hid c
      have S := Lib.hid d
      clear c d hk'
      obtain ⟨ad, hA, hpos⟩ := cut_at h ws.length i k hi
      obtain ⟨B, hB, hposB⟩ := cut_run h ws.length j k hj
      have e1 : IntKind.i64.wrap ((i : Int) + (k : Int)) = (i : Int) + (k : Int) := IntWalk.i64_in _ (by omega)
      have e2 : IntKind.i64.wrap ((j : Int) + (k : Int)) = (j : Int) + (k : Int) := IntWalk.i64_in _ (by omega)
      have HP := Lib.hid hpos
      have HQ := Lib.hid hposB
      clear hpos hposB
      go_enter Try.func10, Try.ntmps10
      go_wp2_with fail
      refine (copy_ok _ _ _ _ ha hj hi).mono ?_
      rintro e w1 ⟨rfl, a1, k1⟩
      have r1 := hr.kept k1 (fun e => ne e.symm)
      have hk : k ≤ 16384 := by omega
      have hR : Hid (Row w1 h ws) := r1
      have hcut := Lib.hid (fun (W : World) (q : Row W h ws) => q.cut i k hi (some ad) (fun hn => congrArg some (HP.out hn)))
      clear r1
      go_wp2_with fail
      refine (there_yes _ _ _ _ _ _ T.out hb).mono ?_
      rintro e w' ⟨rfl, rfl⟩
      go_wp2_with fail
      refine (there_yes _ _ _ _ _ _ S.out hb).mono ?_
      rintro e w' ⟨rfl, rfl⟩
      go_wp2_with fail
      have hlt := hR.out.lt
      go_region_law (first
        | (refine step_app rfl (.tmp 97) (.tmp 103) rfl rfl w1.heap.size ad k (ws.length - i) (cutL ws i k) rfl rfl (by exact Blk.new w1.drew 29 []) (hcut.out _ (by exact (hR.out.drew).alloc (.cells #[] 29))) hk ?_; intro sp cap w2 r2 k2)
        | (refine step_cp rfl (.tmp 96) (.tmp 104) rfl rfl B sp k (ws.length - j) cap h j ws (cutL ws i k) rfl rfl (by exact ((hR.out.drew).alloc (.cells #[] 29)).kept k2.out (Nat.ne_of_lt hlt)) r2.out hj HQ.out ?_; intro w3 r3 k3))
      have k13 : Kept (Only h) w1 w3 := ((((Kept.refl (Only h) w1).drew).alloc (.cells #[] 29)).join k2.out (fun i hi e => by omega)).trans k3.out
      have P := Lib.hid (DoPost.mk ne np a1 k1 r3.out k13 (ws := ws) (moved_length ws j i k hj hi))
      clear a1 k1 k13 r2 r3 k2 k3
      go_wp2_with fail
      go_ret
      exact P.out
/-- Behind k rounds of the law's own fill. -/
structure RowFilled (h : Nat) (ws : List Nat) (a x : Nat) (w : World) (k : Nat) (W : World) : Prop where
  row : Row W h (filledL ws a k x)
  kept : Kept (Only h) w W
theorem RowFilled.step {h : Nat} {ws : List Nat} {a x : Nat} {w W : World} {k : Nat} (f : RowFilled h ws a x w k W) (hk : a + k < ws.length) (hx : x < 18446744073709551616) :
    RowFilled h ws a x w (k + 1) (W.setCell ⟨h, a + k, none⟩ (.int .u64 (x : Int))) := by
  refine ⟨?_, f.kept.trans (only_setCell _ _ _ _)⟩
  have r := f.row.put (a + k) hx
  rwa [filled_step ws a k x hk] at r
theorem do_fill {p g h : Nat} {ws : List Nat} (a n to : Int) (x : Nat) (w : World) (ha : Ar w p g ws) (hr : Row w h ws) (ne : g ≠ h) (np : p ≠ h) (b0 : -9223372036854775808 ≤ a) (b1 : a ≤ 9223372036854775807) (hx : x < 18446744073709551616) :
    Calls Try.prog 10 #[ptr p, .slice (some ⟨h, 0, none⟩) ws.length ws.length, .int .i64 3, .int .i64 a, .int .i64 n, .int .i64 to, .int .u64 (x : Int)] w (DoPost p g h ws.length w) := by
  have hb := ha.big
  cases c : thereB ws.length a n
  · have P := Lib.hid (DoPost.same ha hr (Kept.refl Old w))
    have T := Lib.hid c
    clear c
    go_enter Try.func10, Try.ntmps10
    go_wp2_with fail
    refine (fill_bad _ _ _ _ ha T.out b0 b1).mono ?_
    rintro e w' ⟨rfl, rfl⟩
    go_wp2_with fail
    refine (there_no _ _ _ _ _ _ T.out hb).mono ?_
    rintro e w' ⟨rfl, rfl⟩
    go_wp2_with fail
    go_ret
    exact P.out
  · obtain ⟨i, k, rfl, rfl, hi⟩ := there_cases _ _ _ c
    have T := Lib.hid c
    clear c
    go_enter Try.func10, Try.ntmps10
    go_wp2_with fail
    refine (fill_ok _ _ _ _ ha hi hx).mono ?_
    rintro e w1 ⟨rfl, a1, k1⟩
    have r1 := hr.kept k1 (fun e => ne e.symm)
    have S := Lib.hid (show RowFilled h ws i x w1 0 w1 from ⟨by rw [filled_zero]; exact r1, Kept.refl _ _⟩)
    have A1 := Lib.hid a1
    have K1 := Lib.hid k1
    clear a1 k1 r1
    go_wp2_with fail
    refine (there_yes _ _ _ _ _ _ T.out hb).mono ?_
    rintro e w' ⟨rfl, rfl⟩
    go_wp2_with fail
    go_loopw [20] (fun v wr => ∃ q : Nat, q ≤ k ∧ v = .int .i64 (q : Int) ∧ Hid (RowFilled h ws i x w1 q wr)) (fun v _ => k - (intOf v).toNat)
    case atStart => exact ⟨0, by omega, rfl, S⟩
    case round =>
      obtain ⟨q, hq, rfl, F⟩ := hrel
      rename World => W
      by_cases d : q < k
      · have hlen := filled_length ws i q x (by omega)
        obtain ⟨y, _, c1⟩ := F.out.row.has (i := i + q) (by omega)
        have f1 := F.out.row.frozen (i + q)
        have FS := Lib.hid (F.out.step (by omega) hx)
        clear hlen F S
        go_wp2
        refine ⟨⟨q + 1, by omega, by go_num, FS⟩, ?_⟩
        simp [intOf]; omega
      · obtain rfl : q = k := by omega
        have P := Lib.hid (DoPost.mk ne np A1.out K1.out F.out.row F.out.kept (ws := ws) (filled_length ws i q x hi))
        clear F S A1 K1
        go_wp2
        go_ret
        exact P.out
theorem do_slice {p g h : Nat} {ws : List Nat} (kind a n to x : Int) (w : World) (ha : Ar w p g ws) (hr : Row w h ws) (b0 : -9223372036854775808 ≤ a) (b1 : a ≤ 9223372036854775807) (n0 : kind ≠ 0) (n1 : kind ≠ 1) (n2 : kind ≠ 2) (n3 : kind ≠ 3) :
    Calls Try.prog 10 #[ptr p, .slice (some ⟨h, 0, none⟩) ws.length ws.length, .int .i64 kind, .int .i64 a, .int .i64 n, .int .i64 to, .int .u64 x] w (DoPost p g h ws.length w) := by
  have hb := ha.big
  have m0 := ne_beq _ _ n0
  have m1 := ne_beq _ _ n1
  have m2 := ne_beq _ _ n2
  have m3 := ne_beq _ _ n3
  clear n0 n1 n2 n3
  cases c : thereB ws.length a n
  · have P := Lib.hid (DoPost.same ha hr (Kept.refl Old w))
    have T := Lib.hid c
    clear c
    go_enter Try.func10, Try.ntmps10
    go_wp2_with fail
    refine (slice_bad _ _ _ ha T.out b0 b1).mono ?_
    rintro e w' ⟨rfl, rfl⟩
    go_wp2_with fail
    refine (there_no _ _ _ _ _ _ T.out hb).mono ?_
    rintro e w' ⟨rfl, rfl⟩
    go_wp2_with fail
    go_ret
    exact P.out
  · obtain ⟨i, k, rfl, rfl, hi⟩ := there_cases _ _ _ c
    have T := Lib.hid c
    obtain ⟨A, hA, hpos⟩ := cut_run h ws.length i k hi
    have HP := Lib.hid hpos
    clear c hpos
    have hs := Lib.hid (slice_ok i k w ha hi)
    go_enter Try.func10, Try.ntmps10
    go_wp2_with fail
    refine hs.out.mono ?_
    rintro e w1 ⟨g1, rfl, r1, k1, _⟩
    have hl := Lib.hid (cutL_length ws i k hi)
    have rd1 := Lib.hid r1.rd
    rw [hl.out] at rd1
    have rd2 := Lib.hid ((hr.kept k1 (fun x => x)).cut i k hi A HP.out)
    have K1 := Lib.hid k1
    clear r1 k1
    go_wp2_with fail
    refine (there_yes _ _ _ _ _ _ T.out hb).mono ?_
    rintro e w' ⟨rfl, rfl⟩
    go_wp2_with fail
    refine (same_any _ _ _ _ _ _ _ rd1.out rd2.out (by omega)).mono ?_
    intro e w2 d
    obtain ⟨rfl, k2⟩ := d.old
    have P := Lib.hid (DoPost.same ha hr (K1.out.trans k2))
    clear d k2
    go_wp2_with fail
    go_ret
    exact P.out
theorem do_any {p g h : Nat} {ws : List Nat} (kind a n to : Int) (x : Nat) (w : World) (ha : Ar w p g ws) (hr : Row w h ws) (ne : g ≠ h) (np : p ≠ h) (b0 : -9223372036854775808 ≤ a) (b1 : a ≤ 9223372036854775807) (b2 : -9223372036854775808 ≤ to) (b3 : to ≤ 9223372036854775807) (hx : x < 18446744073709551616) :
    Calls Try.prog 10 #[ptr p, .slice (some ⟨h, 0, none⟩) ws.length ws.length, .int .i64 kind, .int .i64 a, .int .i64 n, .int .i64 to, .int .u64 (x : Int)] w (DoPost p g h ws.length w) := by
  by_cases c0 : kind = 0
  · subst c0; exact do_load a n to x w ha hr b0 b1
  · by_cases c1 : kind = 1
    · subst c1; exact do_store a n to x w ha hr ne np b0 b1 hx
    · by_cases c2 : kind = 2
      · subst c2; exact do_copy a n to x w ha hr ne np b0 b1 b2 b3
      · by_cases c3 : kind = 3
        · subst c3; exact do_fill a n to x w ha hr ne np b0 b1 hx
        · exact do_slice kind a n to x w ha hr b0 b1 c0 c1 c2 c3
theorem do_int {p g h : Nat} {ws : List Nat} (kind a n to x : Int) (w : World) (ha : Ar w p g ws) (hr : Row w h ws) (ne : g ≠ h) (np : p ≠ h) (b0 : -9223372036854775808 ≤ a) (b1 : a ≤ 9223372036854775807) (b2 : -9223372036854775808 ≤ to) (b3 : to ≤ 9223372036854775807) (hx : 0 ≤ x) (hx1 : x ≤ 18446744073709551615) :
    Calls Try.prog 10 #[ptr p, .slice (some ⟨h, 0, none⟩) ws.length ws.length, .int .i64 kind, .int .i64 a, .int .i64 n, .int .i64 to, .int .u64 x] w (DoPost p g h ws.length w) := by
  obtain ⟨y, rfl⟩ : ∃ y : Nat, x = y := ⟨x.toNat, by omega⟩
  exact do_any kind a n to y w ha hr ne np b0 b1 b2 b3 (by omega)
/-- An arena and a list of the same words, both made since w. -/
structure Pair (N p g h : Nat) (w W : World) : Prop where
  both : ∃ ws : List Nat, Ar W p g ws ∧ Row W h ws ∧ ws.length = N
  kept : Kept Old w W
  pB : w.heap.size ≤ p
  gB : w.heap.size ≤ g
  hB : w.heap.size ≤ h
  ne : g ≠ h
  ph : p ≠ h
theorem Pair.next {N p g h : Nat} {w W W2 : World} (P : Pair N p g h w W) {e : Ending} (d : DoPost p g h N W e W2) : Pair N p g h w W2 := by
  obtain ⟨vs, _, a2, r2, l2, k2⟩ := d
  refine ⟨⟨vs, a2, r2, l2⟩, P.kept.join k2 (fun i hi e => ?_), P.pB, P.gB, P.hB, P.ne, P.ph⟩
  have := P.gB
  have := P.hB
  omega
theorem Pair.drew {N p g h : Nat} {w W : World} (P : Pair N p g h w W) : Pair N p g h w W.drew := by
  obtain ⟨ws, a, r, l⟩ := P.both
  exact ⟨⟨ws, a.drew, r.drew, l⟩, P.kept.drew, P.pB, P.gB, P.hB, P.ne, P.ph⟩
theorem DoPost.out {p g h N : Nat} {w : World} {e : Ending} {w' : World} (d : DoPost p g h N w e w') : e = .returned (.bool true) := by
  obtain ⟨_, h, _⟩ := d; exact h
theorem Pair.do {N p g h : Nat} {w W : World} (P : Pair N p g h w W) (kind a n to x : Int) (b0 : -9223372036854775808 ≤ a) (b1 : a ≤ 9223372036854775807) (b2 : -9223372036854775808 ≤ to) (b3 : to ≤ 9223372036854775807) (hx : 0 ≤ x) (hx1 : x ≤ 18446744073709551615) :
    Calls Try.prog 10 #[ptr p, .slice (some ⟨h, 0, none⟩) N N, .int .i64 kind, .int .i64 a, .int .i64 n, .int .i64 to, .int .u64 x] W fun e w' => e = .returned (.bool true) ∧ Pair N p g h w w' := by
  obtain ⟨ws, A, r, rfl⟩ := P.both
  exact (do_int kind a n to x W A r P.ne P.ph b0 b1 b2 b3 hx hx1).mono fun e w' d => ⟨d.out, P.next d⟩
theorem Pair.words {N p g h : Nat} {w W : World} (P : Pair N p g h w W) (c : Nat) :
    Calls Try.prog 11 #[ptr p, .slice (some ⟨h, 0, none⟩) N c] W fun e w' => e = .returned (.bool true) ∧ Kept Old w w' := by
  obtain ⟨ws, A, r, rfl⟩ := P.both
  exact (words_any c W A r).mono fun e w' d => ⟨d.1, P.kept.trans d.2⟩
theorem old_below {w w' : World} (h : Kept Old w w') : Below w.heap.size w w' := h.toBelow (Nat.le_refl _) (fun _ x => x.elim)
end Go.Proofs.Ytnokfomonclfhaa
