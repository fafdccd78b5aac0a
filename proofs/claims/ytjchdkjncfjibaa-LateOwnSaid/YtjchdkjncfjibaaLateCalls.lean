/-
  What each function of package late answers, of queues whose pages are spans' first ones. Own work; each is proved by a walk through the landed text.
-/
import Derived.Test.YtjchdkjncfjibaaRows
import Derived.Test.YtjchdkjncfjibaaIntMem
import Derived.Test.YtjchdkjncfjibaaIntFind
import Derived.Test.YtjchdkjncfjibaaLateMath
import Derived.Test.YtjchdkjncfjibaaLateMem
import Derived.WalkKit
import Derived.ProofKit
import Derived.OpenShut
import Derived.Outline
import Derived.Deep.Light
import Derived.Deep.QuietTactic
import Derived.BigQuiet
import Derived.IntWalk
import Derived.StillTailTactics
import Derived.RegionTactic
import Derived.Deep.RegionLaw
import Derived.Deep.RegionHeld3
namespace Go.Proofs.Ytjchdkjncfjibaa.Lq
open Go.ChangeShapes Go.WideShapes Go.ChangeAt Go.RowKit
set_option maxRecDepth 100000

def JoinPost (L : List Int) (w : World) (e : Ending) (w' : World) : Prop := ∃ v, e = .returned v ∧ MadeI L w v w'
theorem joined_any (A : Option Addr) (n c : Nat) (l : List Int) (B : Option Addr) (m d : Nat) (q : List Int) (w : World) (ha : RsI w A n l) (hb : RsI w B m q) (hn : n ≤ 10000) (hm : m ≤ 10000) (hA : A = none → n = 0 ∧ c = 0) (hB : B = none → m = 0 ∧ d = 0) :
    Calls Try.prog 21 #[.slice A n c, .slice B m d] w (JoinPost (l ++ q) w) := by
  have HA := Lib.hid ha
  have HB := Lib.hid hb
  have hA := Lib.hid hA
  have hB := Lib.hid hB
  clear ha hb
  go_enter Try.func21, Try.ntmps21
  go_wp2_with (first
    | (at_make; refine Fi.make_wpI rfl _ _ rfl w.heap.size (n + m) _ rfl rfl (by omega) (by omega) (Nat.le_refl _) ?_; intro w5 O5 k5; have K5 := k5)
    | (at_builtin; refine app_wpI rfl (.tmp 12) (.tmp 13) rfl rfl w.heap.size _ 0 [] rfl O5.out A n c l rfl (HA.out.old K5.out) hA.out (by omega) (by omega) K5.out.size n (by omega) l (by simp) ?_; intro v6 w6 O6 k6 a6; have K6 := Lib.hid (O5.out.step K5.out k6.out); clear k6 a6)
    | (at_builtin; refine app_wpI rfl (.tmp 15) (.tmp 16) rfl rfl w.heap.size v6 n l rfl O6.out B m d q rfl (HB.out.old K6.out) hB.out (by omega) (by omega) K6.out.size (n + m) rfl (l ++ q) rfl ?_; intro v7 w7 O7 k7 a7; have K7 := Lib.hid (O6.out.step K6.out k7.out); clear k7 a7))
  go_ret
  exact ⟨_, rfl, made_endI O7.out K7.out⟩

theorem over_any (A : Option Addr) (n c : Nat) (l : List Int) (p : Int) (w : World) (h : RsI w A n l) (hm : MayL l) (hp : mayI p = true) (hn : n ≤ 10000) :
    Calls Try.prog 22 #[.slice A n c, .int .i64 p] w fun e w' => e = .returned (.bool (overI l p)) ∧ w = w' := by
  have HR := Lib.hid h
  have HM := Lib.hid hm
  obtain ⟨p0, p1⟩ := may_yes hp
  have hlen := Lib.hid h.len
  obtain ⟨r, hr⟩ : ∃ r, overI l p = r := ⟨_, rfl⟩
  rw [hr]
  have hr := Lib.hid hr
  clear h hm hp
  go_enter Try.func22, Try.ntmps22
  go_wp2_with fail
  go_loopw [9] (fun i wr => ∃ k : Nat, k ≤ n ∧ i = .int .i64 (k : Int) ∧ Hid (overI (l.take k) p = false) ∧ w = wr) (fun i _ => n - (intOf i).toNat)
  case atStart => exact ⟨0, by omega, rfl, Lib.hid (by simp [overI]), rfl⟩
  case round =>
    obtain ⟨k, hk, rfl, HO, rfl⟩ := hrel
    by_cases d : k < n
    · obtain ⟨g, o, x, rfl, _, hx, _, cx⟩ := HR.out.get d
      obtain ⟨x0, x1⟩ := HM.out x (List.mem_of_getElem? hx)
      have e := over_take (p := p) hx
      rw [HO.out, Bool.false_or] at e
      by_cases f1 : p < x + 8
      · by_cases f2 : x < p + 8
        · have P := Lib.hid (show r = true from hr.out.symm.trans (over_mem (List.mem_of_getElem? hx) (decide_eq_true ⟨f1, f2⟩)))
          clear hx e
          go_wp2_with fail
          go_ret
          exact ⟨by rw [P.out]; rfl, rfl⟩
        · have E := Lib.hid (show overI (l.take (k + 1)) p = false from e.trans (decide_eq_false (by omega)))
          clear hx e
          go_wp2_with fail
          refine ⟨⟨k + 1, by omega, by go_num, E, by first | trivial | rfl⟩, ?_⟩
          simp [intOf]; omega
      · have E := Lib.hid (show overI (l.take (k + 1)) p = false from e.trans (decide_eq_false (by omega)))
        clear hx e
        go_wp2_with fail
        refine ⟨⟨k + 1, by omega, by go_num, E, by first | trivial | rfl⟩, ?_⟩
        simp [intOf]; omega
    · obtain rfl : k = n := by omega
      have P := Lib.hid (show r = false from by have := HO.out; rw [← hlen.out, List.take_length] at this; exact hr.out.symm.trans this)
      go_wp2_with fail
      go_ret
      exact ⟨by rw [P.out]; rfl, rfl⟩

theorem lset_any (on : Bool) (A : Option Addr) (n c : Nat) (l : List Int) (x : Bool) (w : World) (h : RsI w A n l) (hn : n ≤ 10000) (hA : A = none → n = 0 ∧ c = 0) :
    Calls Try.prog 10 #[lt on A n c, .bool x] w (SetPost x l w) := by
  have HR := Lib.hid h
  have hA := Lib.hid hA
  clear h
  go_enter Try.func10, Try.ntmps10
  go_wp2_with fail
  have K1 := Lib.hid (((Kept.refl Old w).alloc (.cells #[.bool on, .slice A n c] 24)).alloc (.cells #[.bool false, .slice none 0 0] 24))
  refine (joined_any A n c l none 0 0 [] _ (HR.out.old K1.out) (RsI.nil _ _) (by omega) (by omega) hA.out (fun _ => ⟨rfl, rfl⟩)).mono ?_
  rintro e w1 ⟨v, rfl, M⟩
  rw [List.append_nil] at M
  obtain ⟨A2, n2, c2, rfl⟩ := M.form
  have b1 := (Bq.new2 w (.cells #[.bool on, .slice A n c] 24) _ false (.slice none 0 0) rfl).old M.kept
  have h0 := b1.c0
  have h1 := b1.c1
  have f0 := b1.f0
  have f1 := b1.f1
  have M := Lib.hid M
  have B1 := Lib.hid b1
  clear b1
  go_wp2_with fail
  obtain ⟨W, hW, r0, r1, K'⟩ := Bq.end2 B1.out M.out K1.out (by omega) (by simp) x
  rw [hW]
  exact bodyPost_ret (v := .agg #[.bool x, .slice A2 n2 c2]) (by simp [results, Try.results10, go_sem, r0, r1]) rfl ⟨_, rfl, K'⟩
end Go.Proofs.Ytjchdkjncfjibaa.Lq
