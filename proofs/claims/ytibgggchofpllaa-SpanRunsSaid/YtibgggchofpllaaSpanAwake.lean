/-
  The document's example. Own work; proved by a walk through the landed text.
-/
import Derived.Test.YtibgggchofpllaaRows
import Derived.Test.YtibgggchofpllaaSpanSt
namespace Go.Proofs.Ytibgggchofpllaa
open Go.ChangeShapes Go.WideShapes Go.ChangeAt Go.RowKit
set_option maxRecDepth 100000

abbrev exS : S := ⟨8, 8, 1⟩
theorem in_lit {z : Int} (h : -1000 ≤ z) (h' : z ≤ 1000) : in64 z := ⟨by omega, by omega⟩
theorem fit_lit {x : S} {P : Int} (hP : P ≤ 256) (h : Ok P x) : Fit x := by
  obtain ⟨h1, h2, h3, h4, h5⟩ := h
  exact ⟨in_lit (by omega) (by omega), in_lit (by omega) (by omega), in_lit (by omega) (by omega)⟩
set_option maxHeartbeats 1000000 in
theorem awake_any (w : World) : Calls Try.prog 8 #[] w fun e w' => e = .returned (.bool true) ∧ Kept Old w w' := by
  have hc : addC 32 [] exS = 0 := by decide
  have hl : addL 32 [] exS = [exS] := by decide
  have h15 : ofX [exS] 15 = exS := by decide
  have b15 : ofB [exS] 15 = true := by decide
  have b16 : ofB [exS] 16 = false := by decide
  have x16 : ofX [exS] 16 = noS := by decide
  have fx : Fit exS := fit_lit (P := 32) (by omega) (by constructor <;> decide)
  have hc := Lib.hid hc
  have hl := Lib.hid hl
  have h15 := Lib.hid h15
  have b15 := Lib.hid b15
  have b16 := Lib.hid b16
  have x16 := Lib.hid x16
  go_enter Try.func8, Try.ntmps8
  go_wp2_with fail
  refine (st_new w 32 (fun _ => False) w (by omega) (by omega) (Kept.refl _ _) (fun _ h => h.elim)).mono ?_
  rintro e W ⟨p, rfl, T, -⟩
  have T := Lib.hid T
  go_wp2_with fail
  refine (st_add exS T.out fx).mono ?_
  rintro e W1 ⟨rfl, T1, -⟩
  rw [hl.out] at T1
  rw [hc.out]
  have T1 := Lib.hid T1
  clear T
  go_wp2_with fail
  refine (st_of 15 T1.out).mono ?_
  rintro e W2 ⟨rfl, k2⟩
  rw [h15.out, b15.out]
  have T2 := Lib.hid (T1.out.old (k2.alloc (.cells #[.int .i64 8, .int .i64 8, .int .i64 1] 30)))
  have B2 := Lib.hid (Bx.new W2 exS)
  clear T1 k2
  go_wp2_with fail
  refine (st_of 16 T2.out).mono ?_
  rintro e W3 ⟨rfl, k3⟩
  rw [x16.out, b16.out]
  have T3 := Lib.hid (T2.out.old (k3.alloc (.cells #[.int .i64 0, .int .i64 0, .int .i64 0] 30)))
  have B3 := B2.out.old k3
  have c0 := B3.c0
  have c1 := B3.c1
  have c2 := B3.c2
  have hlt := Blk.lt B3
  clear T2 k3 B2
  go_wp2_with fail
  refine (st_len T3.out).mono ?_
  rintro e W4 ⟨rfl, rfl⟩
  have K := Lib.hid T3.out.kept
  go_wp2_with fail
  go_ret
  exact ⟨rfl, K.out⟩
end Go.Proofs.Ytibgggchofpllaa
