/-
  What a deed does to a model that is held in a block: executeFree and execute. Own work; each is proved by a walk through the landed text.
-/
import Derived.Test.YtcndilpaijapkaaGreatRows
import Derived.WalkKit
import Derived.ProofKit
import Derived.OpenShut
import Derived.Outline
import Derived.Deep.Light
import Derived.Deep.QuietTactic
import Derived.BigQuiet
import Derived.IntWalk
import Derived.StillTailTactics
import Derived.RegionTactic
import Derived.Deep.RegionLaw
import Derived.Deep.RegionHeld3
import Derived.Test.YtcndilpaijapkaaGreatJModelExec
import Derived.Test.YtcndilpaijapkaaGreatJModelSearch
namespace Go.Proofs.YtcndilpaijapkaaGreat.Lm
open Go.ChangeShapes Go.WideShapes Go.ChangeAt Go.RowKit
set_option maxRecDepth 100000

theorem del_mo {B b n c : Nat} {V : World} {W : Int} {l : List S} {A : Option Addr} (M : Mo B V b W l A n c) (i : Nat) (hi : i < n) (hn : n ≤ 1000) (X : World) (k : Kept Old V X) :
    Calls Tryz.prog 66 #[.slice A n c, .int .i64 (i : Int), .int .i64 ((i : Int) + 1)] X fun e X' => ∃ A' n' c', e = .returned (.slice A' n' c') ∧ Hid (OwS X' B (.slice A' n' c') n' (l.take i ++ l.drop (i + 1))) ∧ Hid (Bm X' b W (.slice A n c)) ∧ Hid (Kept (Its b A) V X') := by
  have M' := M.old k
  have ne := own_ne M.own M.box
  refine (del_any B _ n i l X M'.own hi hn).mono ?_
  rintro e X' ⟨v', rfl, o, kk, _⟩
  obtain ⟨A', c', rfl, _⟩ := o.rs
  have kk2 : Kept (Its b A) X X' := kk.mono fun i e => by
    cases A with
    | none => cases e
    | some ad => exact .inr ⟨ad, rfl, by simpa [Value.ownBlock] using e.symm⟩
  refine ⟨A', _, c', rfl, Lib.hid o, Lib.hid (Blk.kept M'.box kk fun e => ?_), Lib.hid (k.any.trans kk2)⟩
  cases A with
  | none => cases e
  | some ad => exact ne ad rfl (by simpa [Value.ownBlock] using e.symm)
def accZ (l : List S) (d : D) : Bool := if d.c = 0 then hasB l d.a else if d.c = 2 then !hasB l d.a else false
def accZL (l : List S) (d : D) : List S := if d.c = 0 ∧ hasB l d.a = true then delL l d.a else l
theorem accZ_ways (l : List S) (d : D) : (d.c = 0 ∧ hasB l d.a = true ∧ accZ l d = true ∧ accZL l d = delL l d.a) ∨ (d.c = 0 ∧ hasB l d.a = false ∧ accZ l d = false ∧ accZL l d = l) ∨ (d.c = 2 ∧ accZ l d = !hasB l d.a ∧ accZL l d = l) ∨ (d.c ≠ 0 ∧ d.c ≠ 2 ∧ accZ l d = false ∧ accZL l d = l) := by
  unfold accZ accZL
  by_cases h : d.c = 0
  · cases r : hasB l d.a with
    | true => exact .inl ⟨h, rfl, by simp [h], by simp [h]⟩
    | false => exact .inr (.inl ⟨h, rfl, by simp [h], by simp⟩)
  · by_cases h1 : d.c = 2
    · exact .inr (.inr (.inl ⟨h1, by simp [h1], by simp [h]⟩))
    · exact .inr (.inr (.inr ⟨h, h1, by simp [h, h1], by simp [h]⟩))
set_option maxHeartbeats 1500000 in
theorem exfree_any (B b : Nat) (W : Int) (l : List S) (A : Option Addr) (n c : Nat) (d : D) (V : World) (M : Mo B V b W l A n c) (v : Valid W l) :
    Calls Tryz.prog 124 #[ptr b, ded d] V (ExecPost B b A W (accZL l d) (accZ l d) V) := by
  have K1 := Lib.hid ((Kept.refl Old V).alloc (.cells #[.int .i64 d.k, .int .i64 d.n, .int .i64 d.a, .int .i64 d.c] 29))
  have BD := Lib.hid (BxD.new V d)
  have M1 := Lib.hid (M.old K1.out)
  have d2 := BD.out.c2
  have d3 := BD.out.c3
  have m0 := M1.out.box.c0
  have m1 := M1.out.box.c1
  have hb := Blk.lt M1.out.box
  have hl := Blk.lt BD.out
  have n5 : n ≤ 512 := by have := v.len; have := M.rs.1.len; omega
  have hlen := M.rs.1.len
  have SE := Lib.hid (fun X (k : Kept Old (V.alloc (.cells #[.int .i64 d.k, .int .i64 d.n, .int .i64 d.a, .int .i64 d.c] 29)) X) => search_any W A n c l d.a X ((M1.out.old k).rs.1) v)
  have pl : hasB l d.a = true → placeL l d.a < n := fun r => by obtain ⟨_, _, _, q⟩ := has_at r; omega
  have DN := Lib.hid (show ∀ Bo, accZ l d = Bo → accZL l d = l → ∀ V9, Kept Old (V.alloc (.cells #[.int .i64 d.k, .int .i64 d.n, .int .i64 d.a, .int .i64 d.c] 29)) V9 → ExecPost B b A W (accZL l d) (accZ l d) V (.returned (.bool Bo)) V9 from fun Bo e1 e2 V9 k => by
    rw [e1, e2]
    exact ⟨A, n, c, rfl, M1.out.old k, (K1.out.trans k).any⟩)
  have DY := Lib.hid (show accZ l d = true → accZL l d = delL l d.a → ∀ X A' n' c', Bm X b W (.slice A n c) → OwS X B (.slice A' n' c') n' (l.take (placeL l d.a) ++ l.drop (placeL l d.a + 1)) → Kept (Its b A) V X → ExecPost B b A W (accZL l d) (accZ l d) V (.returned (.bool true)) (X.setCell ⟨b, 1, none⟩ (.slice A' n' c')) from fun e1 e2 X A' n' c' h1 h2 h3 => by
    rw [e1, e2]
    obtain ⟨p1, p2⟩ := Mo.put h1 h2
    exact ⟨A', n', c', rfl, p1, h3.trans (p2.mono fun i e => .inl e)⟩)
  clear M v hlen
  generalize hW : V.alloc (.cells #[.int .i64 d.k, .int .i64 d.n, .int .i64 d.a, .int .i64 d.c] 29) = U at *
  generalize hpp : placeL l d.a = p at *
  rcases accZ_ways l d with ⟨h, r, e1, e2⟩ | ⟨h, r, e1, e2⟩ | ⟨h, e1, e2⟩ | ⟨h, h1, e1, e2⟩
  · have t0 : (d.c == 0) = true := beq_iff_eq.2 h
    have pl := pl r
    have DY := Lib.hid (DY.out e1 e2)
    rw [r] at SE
    have p1 : (p : Int) + 1 ≤ (n : Int) := by omega
    have p5 : IntKind.i64.wrap ((p : Int) + 1) = (p : Int) + 1 := IntWalk.i64_in _ (by omega)
    clear h r e1 e2 DN hpp
    go_enter Tryz.func124, Tryz.ntmps124
    go_wp2_with fail
    go_region_held3 (fun w' => w'.cell? ⟨b, 0, none⟩ = some (.int .i64 W) ∧ w'.cell? ⟨b, 1, none⟩ = some (.slice A n c) ∧ w'.cell? ⟨V.heap.size, 2, none⟩ = some (.int .i64 d.a))
      (first
        | (exact ⟨‹_›, ‹_›, ‹_›⟩)
        | (exact ⟨cell_on k3 m0, cell_on k3 m1, cell_on k3 d2⟩)
        | go_keep)
      (first
        | (go_at_call 151; refine (SE.out _ (by first | exact Kept.refl Old U | exact (Kept.refl Old U).drew)).mono ?_; rintro e V2 ⟨rfl, k2⟩; have k3 : Kept Old U V2 := (Kept.trans (by first | exact Kept.refl Old U | exact (Kept.refl Old U).drew) k2); clear k2))
    have M2 := Lib.hid (M1.out.old k3)
    have D2 := Lib.hid (BD.out.old k3)
    have d3 := D2.out.c3
    have m1 := M2.out.box.c1
    go_wp2_with (go_at_call 66; go_loud (refine (del_mo M2.out p pl (by omega) _ (Kept.refl Old _)).mono ?_; rintro e X ⟨A', n', c', rfl, o, bm, kk⟩; have c1 := bm.out.c1; have f1 := bm.out.f1; have KK := Lib.hid ((K1.out.trans k3).any.trans kk.out)))
    go_ret
    exact DY.out _ A' n' c' bm.out o.out KK.out
  · have t0 : (d.c == 0) = true := beq_iff_eq.2 h
    have DN := Lib.hid (DN.out _ e1 e2)
    rw [r] at SE
    clear h r e1 e2 DY hpp pl
    go_enter Tryz.func124, Tryz.ntmps124
    go_wp2_with fail
    go_region_held3 (fun w' => w'.cell? ⟨b, 0, none⟩ = some (.int .i64 W) ∧ w'.cell? ⟨b, 1, none⟩ = some (.slice A n c) ∧ w'.cell? ⟨V.heap.size, 2, none⟩ = some (.int .i64 d.a))
      (first
        | (exact ⟨‹_›, ‹_›, ‹_›⟩)
        | (exact ⟨cell_on k3 m0, cell_on k3 m1, cell_on k3 d2⟩)
        | go_keep)
      (first
        | (go_at_call 151; refine (SE.out _ (by first | exact Kept.refl Old U | exact (Kept.refl Old U).drew)).mono ?_; rintro e V2 ⟨rfl, k2⟩; have k3 : Kept Old U V2 := (Kept.trans (by first | exact Kept.refl Old U | exact (Kept.refl Old U).drew) k2); clear k2))
    have D2 := Lib.hid (BD.out.old k3)
    have d3 := D2.out.c3
    go_wp2
    go_ret
    exact DN.out _ k3
  · have t0 : (d.c == 0) = false := beq_eq_false_iff_ne.2 (by omega)
    have t1 : (d.c == 2) = true := beq_iff_eq.2 h
    have DN := Lib.hid (DN.out _ e1 e2)
    generalize hasB l d.a = r at *
    clear h e1 e2 DY hpp pl
    go_enter Tryz.func124, Tryz.ntmps124
    go_wp2_with fail
    go_region_held3 (fun w' => w'.cell? ⟨b, 0, none⟩ = some (.int .i64 W) ∧ w'.cell? ⟨b, 1, none⟩ = some (.slice A n c) ∧ w'.cell? ⟨V.heap.size, 2, none⟩ = some (.int .i64 d.a))
      (first
        | (exact ⟨‹_›, ‹_›, ‹_›⟩)
        | (exact ⟨cell_on k3 m0, cell_on k3 m1, cell_on k3 d2⟩)
        | go_keep)
      (first
        | (go_at_call 151; refine (SE.out _ (by first | exact Kept.refl Old U | exact (Kept.refl Old U).drew)).mono ?_; rintro e V2 ⟨rfl, k2⟩; have k3 : Kept Old U V2 := (Kept.trans (by first | exact Kept.refl Old U | exact (Kept.refl Old U).drew) k2); clear k2))
    have D2 := Lib.hid (BD.out.old k3)
    have d3 := D2.out.c3
    go_wp2
    go_ret
    exact DN.out _ k3
  · have t0 : (d.c == 0) = false := beq_eq_false_iff_ne.2 h
    have t1 : (d.c == 2) = false := beq_eq_false_iff_ne.2 h1
    have DN := Lib.hid (DN.out _ e1 e2)
    generalize hasB l d.a = r at *
    clear h h1 e1 e2 DY hpp pl
    go_enter Tryz.func124, Tryz.ntmps124
    go_wp2_with fail
    go_region_held3 (fun w' => w'.cell? ⟨b, 0, none⟩ = some (.int .i64 W) ∧ w'.cell? ⟨b, 1, none⟩ = some (.slice A n c) ∧ w'.cell? ⟨V.heap.size, 2, none⟩ = some (.int .i64 d.a))
      (first
        | (exact ⟨‹_›, ‹_›, ‹_›⟩)
        | (exact ⟨cell_on k3 m0, cell_on k3 m1, cell_on k3 d2⟩)
        | go_keep)
      (first
        | (go_at_call 151; refine (SE.out _ (by first | exact Kept.refl Old U | exact (Kept.refl Old U).drew)).mono ?_; rintro e V2 ⟨rfl, k2⟩; have k3 : Kept Old U V2 := (Kept.trans (by first | exact Kept.refl Old U | exact (Kept.refl Old U).drew) k2); clear k2))
    have D2 := Lib.hid (BD.out.old k3)
    have d3 := D2.out.c3
    go_wp2
    go_ret
    exact DN.out _ k3
theorem acc_kind (W : Int) (l : List S) (d : D) : (d.k = 1 ∧ accB W l d = accA W l d ∧ accL W l d = accAL W l d) ∨ (d.k = 2 ∧ accB W l d = accZ l d ∧ accL W l d = accZL l d) ∨ (d.k ≠ 1 ∧ d.k ≠ 2 ∧ accB W l d = false ∧ accL W l d = l) := by
  unfold accB accL accA accAL accZ accZL
  by_cases k1 : d.k = 1
  · exact .inl ⟨k1, by simp [k1], by simp [k1]⟩
  · by_cases k2 : d.k = 2
    · exact .inr (.inl ⟨k2, by simp [k2], by simp [k2]⟩)
    · exact .inr (.inr ⟨k1, k2, by simp [k1, k2], by simp [k1, k2]⟩)
set_option maxHeartbeats 1500000 in
/-- A deed is executed in the model that is held in a block. -/
theorem exec_any (B b : Nat) (W : Int) (l : List S) (A : Option Addr) (n c : Nat) (d : D) (V : World) (M : Mo B V b W l A n c) (v : Valid W l) (hB : B ≤ V.heap.size) (fd : FitD d) :
    Calls Tryz.prog 82 #[ptr b, ded d] V (ExecPost B b A W (accL W l d) (accB W l d) V) := by
  have K1 := Lib.hid ((Kept.refl Old V).alloc (.cells #[.int .i64 d.k, .int .i64 d.n, .int .i64 d.a, .int .i64 d.c] 29))
  have BD := Lib.hid (BxD.new V d)
  have M1 := Lib.hid (M.old K1.out)
  have d0 := BD.out.c0
  have d1 := BD.out.c1
  have d2 := BD.out.c2
  have d3 := BD.out.c3
  have hB1 : B ≤ (V.alloc (.cells #[.int .i64 d.k, .int .i64 d.n, .int .i64 d.a, .int .i64 d.c] 29)).heap.size := by simp; omega
  have CA := Lib.hid (exalloc_any B b W l A n c d _ M1.out v hB1 fd)
  have CF := Lib.hid (exfree_any B b W l A n c d _ M1.out v)
  clear M v fd
  generalize hW : V.alloc (.cells #[.int .i64 d.k, .int .i64 d.n, .int .i64 d.a, .int .i64 d.c] 29) = U at *
  rcases acc_kind W l d with ⟨k, e1, e2⟩ | ⟨k, e1, e2⟩ | ⟨k, k1, e1, e2⟩
  · have t0 : (d.k == 1) = true := beq_iff_eq.2 k
    rw [e1, e2]
    clear k e1 e2
    go_enter Tryz.func82, Tryz.ntmps82
    go_wp2_with (go_at_call 123; refine CA.out.mono ?_; rintro e X ⟨A', n', c', rfl, M2, k2⟩)
    go_ret
    exact ⟨A', n', c', rfl, M2, K1.out.any.trans k2⟩
  · have t0 : (d.k == 1) = false := beq_eq_false_iff_ne.2 (by omega)
    have t1 : (d.k == 2) = true := beq_iff_eq.2 k
    rw [e1, e2]
    clear k e1 e2
    go_enter Tryz.func82, Tryz.ntmps82
    go_wp2_with (go_at_call 124; refine CF.out.mono ?_; rintro e X ⟨A', n', c', rfl, M2, k2⟩)
    go_ret
    exact ⟨A', n', c', rfl, M2, K1.out.any.trans k2⟩
  · have t0 : (d.k == 1) = false := beq_eq_false_iff_ne.2 k
    have t1 : (d.k == 2) = false := beq_eq_false_iff_ne.2 k1
    rw [e1, e2]
    clear k k1 e1 e2
    go_enter Tryz.func82, Tryz.ntmps82
    go_wp2_with fail
    go_ret
    exact ⟨A, n, c, rfl, M1.out, K1.out.any⟩
end Go.Proofs.YtcndilpaijapkaaGreat.Lm
