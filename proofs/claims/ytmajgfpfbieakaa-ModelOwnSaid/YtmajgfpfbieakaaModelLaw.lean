/-
  A new model; two models that are alike; the document's example (awake). Own work; each is proved by a walk through the landed text.
-/
import Derived.Test.YtmajgfpfbieakaaRows
import Derived.Test.YtmajgfpfbieakaaModelAlloc
import Derived.Test.YtmajgfpfbieakaaModelFree
import Derived.WalkKit
import Derived.ProofKit
import Derived.OpenShut
import Derived.Outline
import Derived.Deep.Light
import Derived.Deep.QuietTactic
import Derived.BigQuiet
import Derived.IntWalk
import Derived.StillTailTactics
import Derived.RegionTactic
import Derived.Deep.RegionLaw
namespace Go.Proofs.Ytmajgfpfbieakaa.Lm
open Go.ChangeShapes Go.WideShapes Go.ChangeAt Go.RowKit
set_option maxRecDepth 100000
theorem new_any (W : Int) (w : World) : Calls Try.prog 15 #[.int .i64 W] w fun e w' => e = .returned (md W none 0 0) ∧ Kept Old w w' := by
  have B := Lib.hid (Bm.new w W (.slice none 0 0))
  go_enter Try.func15, Try.ntmps15
  go_wp2
  have r0 := B.out.c0
  have r1 := B.out.c1
  exact bodyPost_ret (v := .agg #[.int .i64 W, .slice none 0 0]) (by simp [results, Try.results15, go_sem, r0, r1]) rfl ⟨rfl, (Kept.refl Old w).alloc _⟩
theorem samel_yes (A B : Option Addr) (n c d : Nat) (l : List S) (w : World) (ha : RsS w A n l) (hb : RsS w B n l) (hn : n ≤ 1000) :
    Calls Try.prog 31 #[.slice A n c, .slice B n d] w fun e w' => e = .returned (.bool true) ∧ Kept Old w w' := by
  have HA := Lib.hid ha
  have HB := Lib.hid hb
  clear ha hb
  go_enter Try.func31, Try.ntmps31
  go_wp2
  go_loopw [5] (fun i wr => ∃ k : Nat, k ≤ n ∧ i = .int .i64 (k : Int) ∧ Hid (Kept Old w wr)) (fun i _ => n - (intOf i).toNat)
  case atStart => exact ⟨0, by omega, rfl, Lib.hid (Kept.refl _ _)⟩
  case round =>
    obtain ⟨k, hk, rfl, K⟩ := hrel
    rename World => W
    by_cases c : k < n
    · obtain ⟨g, o, x, rfl, _, hx, _, c0, c1, c2⟩ := (HA.out.old K.out).get c
      obtain ⟨g', o', y, rfl, _, hy, _, e0, e1, e2⟩ := (HB.out.old K.out).get c
      obtain rfl : x = y := by rw [hx] at hy; injection hy
      clear hx hy
      go_wp2_with fail
      go_quiet (fail)
      go_wp2
      refine ⟨⟨k + 1, by omega, by go_num, Lib.hid (K.out.drewN _)⟩, ?_⟩
      simp [intOf]; omega
    · go_wp2
      go_ret
      exact ⟨rfl, K.out⟩
theorem samem_yes (W : Int) (A B : Option Addr) (n m c d : Nat) (l : List S) (w : World) (ha : RsS w A n l) (hb : RsS w B m l) (hn : n ≤ 1000) :
    Calls Try.prog 17 #[md W A n c, md W B m d] w fun e w' => e = .returned (.bool true) ∧ Kept Old w w' := by
  obtain rfl : n = m := ha.len.symm.trans hb.len
  have K := Lib.hid (kept2 w (.cells #[.int .i64 W, .slice A n c] 24) (.cells #[.int .i64 W, .slice B n d] 24))
  have C := Lib.hid (samel_yes A B n c d l _ (ha.old K.out) (hb.old K.out) hn)
  clear ha hb
  go_enter Try.func17, Try.ntmps17
  go_wp2_with (go_at_call 31; refine C.out.mono ?_; rintro e w' ⟨rfl, k2⟩)
  go_ret
  exact ⟨rfl, K.out.trans k2⟩
theorem aw1 : roomB 64 [] 32 0 = true ∧ allocL 64 [] 32 0 = [⟨0, 0, -1⟩] ∧ allocW 64 [] 32 0 = 64 := by decide
theorem aw2 : roomB 64 [⟨0, 0, -1⟩] 32 32 = true ∧ allocL 64 [⟨0, 0, -1⟩] 32 32 = [⟨0, 0, -1⟩, ⟨32, 0, -1⟩] ∧ allocW 64 [⟨0, 0, -1⟩] 32 32 = 64 := by decide
theorem aw3 : roomB 64 [⟨0, 0, -1⟩, ⟨32, 0, -1⟩] 1 0 = false := by decide
theorem av1 : Valid 64 [⟨0, 0, -1⟩] := valid_may.1 (by decide)
theorem av2 : Valid 64 [⟨0, 0, -1⟩, ⟨32, 0, -1⟩] := valid_may.1 (by decide)
theorem in0 : in64S 0 := by constructor <;> decide
theorem in32 : in64S 32 := by constructor <;> decide
set_option maxHeartbeats 2000000 in
/-- The document's example. -/
theorem awake_any (w : World) : Calls Try.prog 9 #[] w fun e w' => e = .returned (.bool true) ∧ Kept Old w w' := by
  have C1 := Lib.hid (fun X => alloc_any 64 none 0 0 [] 32 0 X (RsS.nil _ _) (Valid.nil (by omega) (by omega)) (Nat.le_refl _) (fun _ => rfl) in0)
  rw [aw1.1, aw1.2.1, aw1.2.2] at C1
  go_enter Try.func9, Try.ntmps9
  go_wp2_with fail
  refine (new_any 64 _).mono ?_
  rintro e w1 ⟨rfl, k1⟩
  have K := Lib.hid k1
  clear k1
  go_wp2_with fail
  refine (C1.out _).mono ?_
  rintro e w2 ⟨v2, rfl, A2, n2, c2, rfl, T2, h2, q2, k2⟩
  have K := Lib.hid (K.out.trans (k2.alloc (.cells #[.int .i64 64, .slice A2 n2 c2] 24)))
  have T2 := Lib.hid (T2.alloc (.cells #[.int .i64 64, .slice A2 n2 c2] 24))
  have C2 := Lib.hid (fun X h => alloc_any 64 A2 n2 c2 [⟨0, 0, -1⟩] 32 32 X h av1 h2 q2.1 in32)
  rw [aw2.1, aw2.2.1, aw2.2.2] at C2
  have B2 := Bm.new w2 64 (.slice A2 n2 c2)
  have b0 := B2.c0
  have b1 := B2.c1
  clear k2 q2 B2
  go_wp2_with fail
  refine (C2.out _ T2.out).mono ?_
  rintro e w3 ⟨v3, rfl, A3, n3, c3, rfl, T3, h3, q3, k3⟩
  have K := Lib.hid (K.out.trans (k3.alloc (.cells #[.int .i64 64, .slice A3 n3 c3] 24)))
  have hn3 : n3 = 2 := T3.len.symm
  subst hn3
  have T3 := Lib.hid (T3.alloc (.cells #[.int .i64 64, .slice A3 2 c3] 24))
  have C3 := Lib.hid (fun X h => alloc_any 64 A3 2 c3 [⟨0, 0, -1⟩, ⟨32, 0, -1⟩] 1 0 X h av2 h3 q3.1 in0)
  rw [aw3] at C3
  generalize allocL 64 [⟨0, 0, -1⟩, ⟨32, 0, -1⟩] 1 0 = L4 at *
  generalize allocW 64 [⟨0, 0, -1⟩, ⟨32, 0, -1⟩] 1 0 = W4 at *
  have B3 := Lib.hid (Bm.new w3 64 (.slice A3 2 c3))
  have b0 := B3.out.c0
  have b1 := B3.out.c1
  clear k3 q3
  go_wp2_with fail
  refine (C3.out _ T3.out).mono ?_
  rintro e w4 ⟨v4, rfl, A4, n4, c4, rfl, T4, h4, q4, k4⟩
  have B4 := Lib.hid ((B3.out.old k4).alloc (.cells #[.int .i64 W4, .slice A4 n4 c4] 24))
  have b0 := B4.out.c0
  have b1 := B4.out.c1
  have l4 := Blk.lt (B3.out.old k4)
  have b1' := (B3.out.old k4).c1
  have K := Lib.hid (K.out.trans (k4.alloc (.cells #[.int .i64 W4, .slice A4 n4 c4] 24)))
  clear k4 q4
  go_wp2
  go_ret
  exact ⟨rfl, K.out⟩
end Go.Proofs.Ytmajgfpfbieakaa.Lm
