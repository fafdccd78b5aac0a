/-
  Joined texts of Late; own work.
-/
import Derived.Test.YtcndilpaijapkaaGreatRows
import Derived.WalkKit
import Derived.ProofKit
import Derived.OpenShut
import Derived.Outline
import Derived.Deep.Light
import Derived.Deep.QuietTactic
import Derived.BigQuiet
import Derived.IntWalk
import Derived.StillTailTactics
import Derived.RegionTactic
import Derived.Deep.RegionLaw
import Derived.Deep.RegionHeld3
import Derived.Test.YtcndilpaijapkaaGreatJBase
import Derived.Test.YtcndilpaijapkaaGreatJInts
import Derived.Test.YtcndilpaijapkaaGreatJMath
/- A queue (a struct of a bool and a slice of integers) in a block, as an argument, as a result. Own work; no program is walked here. -/
namespace Go.Proofs.YtcndilpaijapkaaGreat.Lq
open Go.ChangeShapes Go.WideShapes Go.ChangeAt Go.RowKit Go.Deep

abbrev lt (on : Bool) (A : Option Addr) (n c : Nat) : Value := .agg #[.bool on, .slice A n c]
/-- Block b is a queue's struct. -/
def Bq (w : World) (b : Nat) (on : Bool) (v : Value) : Prop := Blk w b 86 [.bool on, v]
theorem Bq.c0 {w : World} {b : Nat} {on : Bool} {v : Value} (h : Bq w b on v) : w.cell? ⟨b, 0, none⟩ = some (.bool on) := Blk.cell h 0
theorem Bq.c1 {w : World} {b : Nat} {on : Bool} {v : Value} (h : Bq w b on v) : w.cell? ⟨b, 1, none⟩ = some v := Blk.cell h 1
theorem Bq.f0 {w : World} {b : Nat} {on : Bool} {v : Value} (h : Bq w b on v) : w.frozen? ⟨b, 0, none⟩ = false := Blk.frozen h 0
theorem Bq.f1 {w : World} {b : Nat} {on : Bool} {v : Value} (h : Bq w b on v) : w.frozen? ⟨b, 1, none⟩ = false := Blk.frozen h 1
theorem Bq.new (w : World) (on : Bool) (v : Value) : Bq (w.alloc (.cells #[.bool on, v] 86)) w.heap.size on v := Blk.new w _ _
theorem Bq.new2 (w : World) (x y : Obj) (on : Bool) (v : Value) (e : y = .cells #[.bool on, v] 86) : Bq ((w.alloc x).alloc y) (w.heap.size + 1) on v := by
  subst e
  have := Blk.new (w.alloc x) 86 [.bool on, v]
  rwa [show (w.alloc x).heap.size = w.heap.size + 1 by simp] at this
theorem Bq.old {w w' : World} {b : Nat} {on : Bool} {v : Value} (h : Bq w b on v) (k : Kept Old w w') : Bq w' b on v := Blk.kept h k (fun x => x)
theorem Bq.alloc {w : World} {b : Nat} {on : Bool} {v : Value} (h : Bq w b on v) (o : Obj) : Bq (w.alloc o) b on v := Blk.alloc h o
theorem Bq.drew {w : World} {b : Nat} {on : Bool} {v : Value} (h : Bq w b on v) : Bq w.drew b on v := h
theorem Bq.put2 {w : World} {b : Nat} {on : Bool} {v : Value} (h : Bq w b on v) (x y : Value) : Blk ((w.setCell ⟨b, 0, none⟩ x).setCell ⟨b, 1, none⟩ y) b 86 [x, y] := (Blk.put h 0 x).put 1 y
theorem put2_kept (w : World) (b : Nat) (x y : Value) : Kept (Only b) w ((w.setCell ⟨b, 0, none⟩ x).setCell ⟨b, 1, none⟩ y) := (only_setCell w b 0 x).trans (only_setCell _ b 1 y)

/-- A list that was made outlives stores into a block of the caller's own. -/
theorem _root_.Go.Proofs.YtcndilpaijapkaaGreat.MadeI.put {L : List Int} {w W1 w2 V : World} {v : Value} {b : Nat} (h : MadeI L W1 v w2) (k : Kept Old w W1) (hb : w.heap.size ≤ b) (hb1 : b < W1.heap.size) (kv : Kept (Only b) w2 V) : MadeI L w v V := by
  obtain ⟨A, n, c, h1, r, h2, h3, K⟩ := h
  refine ⟨A, n, c, h1, r.kept kv (fun ad e q => ?_), h2, ⟨h3.1, fun ad e => Nat.le_trans k.size (h3.2 ad e)⟩, (k.trans K).join kv (fun i hi e => ?_)⟩
  · have q : ad.block = b := q
    have := h3.2 ad e
    omega
  · have e : i = b := e
    omega
theorem _root_.Go.Proofs.YtcndilpaijapkaaGreat.MadeI.kept {L : List Int} {w w' : World} {v : Value} (h : MadeI L w v w') : Kept Old w w' := by
  obtain ⟨_, _, _, _, _, _, _, K⟩ := h
  exact K
theorem _root_.Go.Proofs.YtcndilpaijapkaaGreat.MadeI.form {L : List Int} {w w' : World} {v : Value} (h : MadeI L w v w') : ∃ A n c, v = .slice A n c := by
  obtain ⟨A, n, c, h1, _⟩ := h
  exact ⟨A, n, c, h1⟩
theorem _root_.Go.Proofs.YtcndilpaijapkaaGreat.MadeI.from {L : List Int} {w w1 w2 : World} {v : Value} (h : MadeI L w1 v w2) (k : Kept Old w w1) : MadeI L w v w2 := by
  obtain ⟨A, n, c, h1, r, h2, h3, K⟩ := h
  exact ⟨A, n, c, h1, r, h2, ⟨h3.1, fun ad e => Nat.le_trans k.size (h3.2 ad e)⟩, k.trans K⟩
theorem _root_.Go.Proofs.YtcndilpaijapkaaGreat.MadeI.old {L : List Int} {w w1 w2 : World} {v : Value} (h : MadeI L w v w1) (k : Kept Old w1 w2) : MadeI L w v w2 := by
  obtain ⟨A, n, c, h1, r, h2, h3, K⟩ := h
  exact ⟨A, n, c, h1, r.old k, h2, h3, K.trans k⟩
theorem _root_.Go.Proofs.YtcndilpaijapkaaGreat.MadeI.of_nil {w w' : World} (k : Kept Old w w') : MadeI [] w (.slice none 0 0) w' := ⟨none, 0, 0, rfl, RsI.nil _ _, Nat.le_refl _, ⟨fun _ => rfl, fun _ h => by cases h⟩, k⟩
/-- The end of a function whose first result is a queue. -/
theorem Bq.end2 {w w1 w' : World} {b : Nat} {on : Bool} {u : Value} {L : List Int} {v : Value} (z : Bq w' b on u) (M : MadeI L w1 v w') (k : Kept Old w w1) (hb : w.heap.size ≤ b) (hb1 : b < w1.heap.size) (x : Bool) :
    ∃ W, (w'.setCell ⟨b, 0, none⟩ (.bool x)).setCell ⟨b, 1, none⟩ v = W ∧ W.cell? ⟨b, 0, none⟩ = some (.bool x) ∧ W.cell? ⟨b, 1, none⟩ = some v ∧ MadeI L w v W :=
  ⟨_, rfl, (z.put2 _ _).cell 0, (z.put2 _ _).cell 1, M.put k hb hb1 (put2_kept _ _ _ _)⟩
/-- The same where the queue is the zero one. -/
theorem Bq.end0 {w w' : World} {b : Nat} {on : Bool} {u : Value} (z : Bq w' b on u) (k : Kept Old w w') (hb : w.heap.size ≤ b) :
    ∃ W, (w'.setCell ⟨b, 0, none⟩ (.bool false)).setCell ⟨b, 1, none⟩ (.slice none 0 0) = W ∧ W.cell? ⟨b, 0, none⟩ = some (.bool false) ∧ W.cell? ⟨b, 1, none⟩ = some (.slice none 0 0) ∧ MadeI [] w (.slice none 0 0) W :=
  ⟨_, rfl, (z.put2 _ _).cell 0, (z.put2 _ _).cell 1, MadeI.of_nil (k.join (put2_kept _ _ _ _) (fun i hi e => by have e : i = b := e; omega))⟩

def SetPost (on : Bool) (L : List Int) (w : World) (e : Ending) (w' : World) : Prop := ∃ v, e = .returned (.agg #[.bool on, v]) ∧ MadeI L w v w'
def PutPost (on : Bool) (L : List Int) (C : Int) (w : World) (e : Ending) (w' : World) : Prop := ∃ v, e = .returned (.tuple #[.agg #[.bool on, v], .int .i64 C]) ∧ MadeI L w v w'
def NextPost (on : Bool) (L : List Int) (x : Int) (K : Bool) (w : World) (e : Ending) (w' : World) : Prop := ∃ v, e = .returned (.tuple #[.agg #[.bool on, v], .int .i64 x, .bool K]) ∧ MadeI L w v w'

end Go.Proofs.YtcndilpaijapkaaGreat.Lq
/- What each function of package late answers, of queues whose pages are spans' first ones. Own work; each is proved by a walk through the landed text. -/
namespace Go.Proofs.YtcndilpaijapkaaGreat.Lq
open Go.ChangeShapes Go.WideShapes Go.ChangeAt Go.RowKit
set_option maxRecDepth 100000

def JoinPost (L : List Int) (w : World) (e : Ending) (w' : World) : Prop := ∃ v, e = .returned v ∧ MadeI L w v w'
theorem joined_any (A : Option Addr) (n c : Nat) (l : List Int) (B : Option Addr) (m d : Nat) (q : List Int) (w : World) (ha : RsI w A n l) (hb : RsI w B m q) (hn : n ≤ 10000) (hm : m ≤ 10000) (hA : A = none → n = 0 ∧ c = 0) (hB : B = none → m = 0 ∧ d = 0) :
    Calls Tryz.prog 118 #[.slice A n c, .slice B m d] w (JoinPost (l ++ q) w) := by
  have HA := Lib.hid ha
  have HB := Lib.hid hb
  have hA := Lib.hid hA
  have hB := Lib.hid hB
  clear ha hb
  go_enter Tryz.func118, Tryz.ntmps118
  go_wp2_with (first
    | (at_make; refine Fi.make_wpI rfl _ _ rfl w.heap.size (n + m) _ rfl rfl (by omega) (by omega) (Nat.le_refl _) ?_; intro w5 O5 k5; have K5 := k5)
    | (at_builtin; refine app_wpI rfl (.tmp 12) (.tmp 13) rfl rfl w.heap.size _ 0 [] rfl O5.out A n c l rfl (HA.out.old K5.out) hA.out (by omega) (by omega) K5.out.size n (by omega) l (by simp) ?_; intro v6 w6 O6 k6 a6; have K6 := Lib.hid (O5.out.step K5.out k6.out); clear k6 a6)
    | (at_builtin; refine app_wpI rfl (.tmp 15) (.tmp 16) rfl rfl w.heap.size v6 n l rfl O6.out B m d q rfl (HB.out.old K6.out) hB.out (by omega) (by omega) K6.out.size (n + m) rfl (l ++ q) rfl ?_; intro v7 w7 O7 k7 a7; have K7 := Lib.hid (O6.out.step K6.out k7.out); clear k7 a7))
  go_ret
  exact ⟨_, rfl, made_endI O7.out K7.out⟩

theorem over_any (A : Option Addr) (n c : Nat) (l : List Int) (p : Int) (w : World) (h : RsI w A n l) (hm : MayL l) (hp : mayI p = true) (hn : n ≤ 10000) :
    Calls Tryz.prog 165 #[.slice A n c, .int .i64 p] w fun e w' => e = .returned (.bool (overI l p)) ∧ w = w' := by
  have HR := Lib.hid h
  have HM := Lib.hid hm
  obtain ⟨p0, p1⟩ := may_yes hp
  have hlen := Lib.hid h.len
  obtain ⟨r, hr⟩ : ∃ r, overI l p = r := ⟨_, rfl⟩
  rw [hr]
  have hr := Lib.hid hr
  clear h hm hp
  go_enter Tryz.func165, Tryz.ntmps165
  go_wp2_with fail
  go_loopw [9] (fun i wr => ∃ k : Nat, k ≤ n ∧ i = .int .i64 (k : Int) ∧ Hid (overI (l.take k) p = false) ∧ w = wr) (fun i _ => n - (intOf i).toNat)
  case atStart => exact ⟨0, by omega, rfl, Lib.hid (by simp [overI]), rfl⟩
  case round =>
    obtain ⟨k, hk, rfl, HO, rfl⟩ := hrel
    by_cases d : k < n
    · obtain ⟨g, o, x, rfl, _, hx, _, cx⟩ := HR.out.get d
      obtain ⟨x0, x1⟩ := HM.out x (List.mem_of_getElem? hx)
      have e := over_take (p := p) hx
      rw [HO.out, Bool.false_or] at e
      by_cases f1 : p < x + 8
      · by_cases f2 : x < p + 8
        · have P := Lib.hid (show r = true from hr.out.symm.trans (over_mem (List.mem_of_getElem? hx) (decide_eq_true ⟨f1, f2⟩)))
          clear hx e
          go_wp2_with fail
          go_ret
          exact ⟨by rw [P.out]; rfl, rfl⟩
        · have E := Lib.hid (show overI (l.take (k + 1)) p = false from e.trans (decide_eq_false (by omega)))
          clear hx e
          go_wp2_with fail
          refine ⟨⟨k + 1, by omega, by go_num, E, by first | trivial | rfl⟩, ?_⟩
          simp [intOf]; omega
      · have E := Lib.hid (show overI (l.take (k + 1)) p = false from e.trans (decide_eq_false (by omega)))
        clear hx e
        go_wp2_with fail
        refine ⟨⟨k + 1, by omega, by go_num, E, by first | trivial | rfl⟩, ?_⟩
        simp [intOf]; omega
    · obtain rfl : k = n := by omega
      have P := Lib.hid (show r = false from by have := HO.out; rw [← hlen.out, List.take_length] at this; exact hr.out.symm.trans this)
      go_wp2_with fail
      go_ret
      exact ⟨by rw [P.out]; rfl, rfl⟩

theorem lset_any (on : Bool) (A : Option Addr) (n c : Nat) (l : List Int) (x : Bool) (w : World) (h : RsI w A n l) (hn : n ≤ 10000) (hA : A = none → n = 0 ∧ c = 0) :
    Calls Tryz.prog 76 #[lt on A n c, .bool x] w (SetPost x l w) := by
  have HR := Lib.hid h
  have hA := Lib.hid hA
  clear h
  go_enter Tryz.func76, Tryz.ntmps76
  go_wp2_with fail
  have K1 := Lib.hid (((Kept.refl Old w).alloc (.cells #[.bool on, .slice A n c] 86)).alloc (.cells #[.bool false, .slice none 0 0] 86))
  refine (joined_any A n c l none 0 0 [] _ (HR.out.old K1.out) (RsI.nil _ _) (by omega) (by omega) hA.out (fun _ => ⟨rfl, rfl⟩)).mono ?_
  rintro e w1 ⟨v, rfl, M⟩
  rw [List.append_nil] at M
  obtain ⟨A2, n2, c2, rfl⟩ := M.form
  have b1 := (Bq.new2 w (.cells #[.bool on, .slice A n c] 86) _ false (.slice none 0 0) rfl).old M.kept
  have h0 := b1.c0
  have h1 := b1.c1
  have f0 := b1.f0
  have f1 := b1.f1
  have M := Lib.hid M
  have B1 := Lib.hid b1
  clear b1
  go_wp2_with fail
  obtain ⟨W, hW, r0, r1, K'⟩ := Bq.end2 B1.out M.out K1.out (by omega) (by simp) x
  rw [hW]
  exact bodyPost_ret (v := .agg #[.bool x, .slice A2 n2 c2]) (by simp [results, Tryz.results76, go_sem, r0, r1]) rfl ⟨_, rfl, K'⟩
end Go.Proofs.YtcndilpaijapkaaGreat.Lq
/- What Put, Next and Has of package late answer. Own work; each is proved by a walk through the landed text. -/
namespace Go.Proofs.YtcndilpaijapkaaGreat.Lq
open Go.ChangeShapes Go.WideShapes Go.ChangeAt Go.RowKit
set_option maxRecDepth 100000

theorem kept2 (w : World) (x y : Obj) : Kept Old w ((w.alloc x).alloc y) := ((Kept.refl Old w).alloc x).alloc y
theorem lput_any (on : Bool) (A : Option Addr) (n c : Nat) (l : List Int) (p : Int) (w : World) (h : RsI w A n l) (hm : MayL l) (hp : inI p) (hn : n ≤ 9000) (hA : A = none → n = 0 ∧ c = 0) :
    Calls Tryz.prog 138 #[lt on A n c, .int .i64 p] w (PutPost (putB on l p) (putL on l p) (putC on l p) w) := by
  have HR := Lib.hid h
  have hA := Lib.hid hA
  have HM := Lib.hid hm
  have HP := Lib.hid hp
  have K1 := Lib.hid (kept2 w (.cells #[.bool on, .slice A n c] 86) (.cells #[.bool false, .slice none 0 0] 86))
  clear h hm hp
  rcases put_ways on l p with ⟨rfl, e1, e2, e3⟩ | ⟨rfl, m, e1, e2, e3⟩ | ⟨rfl, m, o, e1, e2, e3⟩ | ⟨rfl, m, o, e1, e2, e3⟩
  · rw [e1, e2, e3]
    clear e1 e2 e3
    have B1 := Lib.hid (Bq.new2 w (.cells #[.bool false, .slice A n c] 86) _ false (.slice none 0 0) rfl)
    go_enter Tryz.func138, Tryz.ntmps138
    go_wp2_with fail
    have r0 := B1.out.c0
    have r1 := B1.out.c1
    exact bodyPost_ret (v := .tuple #[.agg #[.bool false, .slice none 0 0], .int .i64 9]) (by simp [results, Tryz.results138, go_sem, r0, r1]) rfl ⟨_, rfl, MadeI.of_nil K1.out⟩
  · rw [e1, e2, e3]
    have q := may_no m
    clear e1 e2 e3 m
    have B1 := Lib.hid (Bq.new2 w (.cells #[.bool true, .slice A n c] 86) _ false (.slice none 0 0) rfl)
    rcases q with q | q
    · go_enter Tryz.func138, Tryz.ntmps138
      go_wp2_with fail
      have r0 := B1.out.c0
      have r1 := B1.out.c1
      exact bodyPost_ret (v := .tuple #[.agg #[.bool false, .slice none 0 0], .int .i64 1]) (by simp [results, Tryz.results138, go_sem, r0, r1]) rfl ⟨_, rfl, MadeI.of_nil K1.out⟩
    · have q' : ¬ p < 0 := by omega
      go_enter Tryz.func138, Tryz.ntmps138
      go_wp2_with fail
      have r0 := B1.out.c0
      have r1 := B1.out.c1
      exact bodyPost_ret (v := .tuple #[.agg #[.bool false, .slice none 0 0], .int .i64 1]) (by simp [results, Tryz.results138, go_sem, r0, r1]) rfl ⟨_, rfl, MadeI.of_nil K1.out⟩
  · rw [e1, e2, e3]
    obtain ⟨p0, p1⟩ := may_yes m
    have M := Lib.hid m
    have O := Lib.hid o
    clear e1 e2 e3 m o
    have B1 := Lib.hid (Bq.new2 w (.cells #[.bool true, .slice A n c] 86) _ false (.slice none 0 0) rfl)
    go_enter Tryz.func138, Tryz.ntmps138
    go_wp2_with fail
    refine (over_any A n c l p _ (HR.out.old K1.out) HM.out M.out (by omega)).mono ?_
    rw [O.out]
    rintro e w1 ⟨rfl, rfl⟩
    go_wp2_with fail
    have r0 := B1.out.c0
    have r1 := B1.out.c1
    exact bodyPost_ret (v := .tuple #[.agg #[.bool false, .slice none 0 0], .int .i64 4]) (by simp [results, Tryz.results138, go_sem, r0, r1]) rfl ⟨_, rfl, MadeI.of_nil K1.out⟩
  · rw [e1, e2, e3]
    obtain ⟨p0, p1⟩ := may_yes m
    have M := Lib.hid m
    have O := Lib.hid o
    clear e1 e2 e3 m o
    have B1 := Lib.hid (Bq.new2 w (.cells #[.bool true, .slice A n c] 86) _ false (.slice none 0 0) rfl)
    go_enter Tryz.func138, Tryz.ntmps138
    go_wp2_with fail
    refine (over_any A n c l p _ (HR.out.old K1.out) HM.out M.out (by omega)).mono ?_
    rw [O.out]
    rintro e w1 ⟨rfl, rfl⟩
    go_wp2_with fail
    have K2 := Lib.hid (K1.out.alloc (.cells #[.int .i64 p] 3))
    refine (joined_any A n c l _ 1 1 [p] _ (HR.out.old K2.out) (RsI.one _ p HP.out _ (by simp)) (by omega) (by omega) hA.out (fun h => by cases h)).mono ?_
    rintro e w1 ⟨v, rfl, M⟩
    obtain ⟨A2, n2, c2, rfl⟩ := M.form
    have b1 := (B1.out.alloc (.cells #[.int .i64 p] 3)).old M.kept
    have h0 := b1.c0
    have h1 := b1.c1
    have f0 := b1.f0
    have f1 := b1.f1
    have M := Lib.hid M
    have B1 := Lib.hid b1
    clear b1
    go_wp2_with fail
    obtain ⟨W, hW, r0, r1, K'⟩ := Bq.end2 B1.out M.out K2.out (by omega) (by simp) true
    rw [hW]
    exact bodyPost_ret (v := .tuple #[.agg #[.bool true, .slice A2 n2 c2], .int .i64 0]) (by simp [results, Tryz.results138, go_sem, r0, r1]) rfl ⟨_, rfl, K'⟩


theorem lnext_none (on : Bool) (A : Option Addr) (c : Nat) (w : World) :
    Calls Tryz.prog 77 #[lt on A 0 c] w (NextPost false [] 0 false w) := by
  have K1 := Lib.hid (kept2 w (.cells #[.bool on, .slice A 0 c] 86) (.cells #[.bool false, .slice none 0 0] 86))
  have B1 := Lib.hid (Bq.new2 w (.cells #[.bool on, .slice A 0 c] 86) _ false (.slice none 0 0) rfl)
  go_enter Tryz.func77, Tryz.ntmps77
  go_wp2_with fail
  have r0 := B1.out.c0
  have r1 := B1.out.c1
  exact bodyPost_ret (v := .tuple #[.agg #[.bool false, .slice none 0 0], .int .i64 0, .bool false]) (by simp [results, Tryz.results77, go_sem, r0, r1]) rfl ⟨_, rfl, MadeI.of_nil K1.out⟩
end Go.Proofs.YtcndilpaijapkaaGreat.Lq
/- What Next of package late answers of a queue that is not empty. Own work; proved by a walk through the landed text. -/
namespace Go.Proofs.YtcndilpaijapkaaGreat.Lq
open Go.ChangeShapes Go.WideShapes Go.ChangeAt Go.RowKit
set_option maxRecDepth 100000

theorem cell_on {w w' : World} (k : Kept Old w w') {p : Addr} {v : Value} (h : w.cell? p = some v) : w'.cell? p = some v := (k.cell (block_lt_of_cell h) (fun x => x)).trans h
theorem put_far {w : World} {b : Nat} {x y : Value} {p : Addr} {v : Value} (h : w.cell? p = some v) (hp : p.block ≠ b) : ((w.setCell ⟨b, 0, none⟩ x).setCell ⟨b, 1, none⟩ y).cell? p = some v := ((put2_kept w b x y).cell (block_lt_of_cell h) hp).trans h
theorem rs_tail {w : World} {g o n : Nat} {x : Int} {t : List Int} (h : RsI w (some ⟨g, o, none⟩) (n + 1) (x :: t)) (A' : Option Addr) (hA : 0 < n → A' = some ⟨g, o + 1, none⟩) : RsI w A' n t :=
  ⟨by have := h.len; simp at this; omega, fun y hy => h.fit y (List.mem_cons_of_mem _ hy), fun h0 => by
    obtain ⟨g', o', e, hg, c⟩ := h.lies (by omega)
    injection e with e
    injection e with e1 e2
    subst e1 e2
    refine ⟨g, o + 1, hA h0, hg, fun j y hy => ?_⟩
    have := c (j + 1) y (by simpa using hy)
    rw [show o + 1 + j = o + (j + 1) by omega]
    exact this⟩
set_option maxHeartbeats 2000000 in
theorem lnext_some (on : Bool) (A : Option Addr) (n c : Nat) (x : Int) (t : List Int) (w : World) (h : RsI w A (n + 1) (x :: t)) (hn : n ≤ 9000) (hc : n + 1 ≤ c) :
    Calls Tryz.prog 77 #[lt on A (n + 1) c] w (NextPost on t x true w) := by
  have K1 := Lib.hid (kept2 w (.cells #[.bool on, .slice A (n + 1) c] 86) (.cells #[.bool false, .slice none 0 0] 86))
  have B1 := Lib.hid (Bq.new2 w (.cells #[.bool on, .slice A (n + 1) c] 86) _ false (.slice none 0 0) rfl)
  have B0 := Lib.hid ((Bq.new w on (.slice A (n + 1) c)).alloc (.cells #[.bool false, .slice none 0 0] 86))
  have R1 := Lib.hid (h.old K1.out)
  obtain ⟨g, o, y, rfl, hg, hx, _, cx⟩ := h.get (k := 0) (by omega)
  have cx := cell_on K1.out cx
  obtain rfl : y = x := by simpa using hx.symm
  have a0 := B0.out.c0
  have a1 := B0.out.c1
  have b0 := B1.out.c0
  have b1 := B1.out.c1
  have f0 := B1.out.f0
  have f1 := B1.out.f1
  rw [Nat.add_zero] at cx
  clear h hx
  generalize hW : ((w.alloc (.cells #[.bool on, .slice (some ⟨g, o, none⟩) (n + 1) c] 86)).alloc (.cells #[.bool false, .slice none 0 0] 86)) = V at *
  have J := Lib.hid (fun (A' : Option Addr) (hA : 0 < n → A' = some ⟨g, o + 1, none⟩) (hA2 : A' = none → n = 0 ∧ c - 1 = 0) W (k : Kept Old V W) => joined_any A' n (c - 1) t none 0 0 [] W ((rs_tail R1.out A' hA).old k) (RsI.nil _ _) (by omega) (by omega) hA2 (fun _ => ⟨rfl, rfl⟩))
  have hW := Lib.hid hW
  have cs : (1 < c ∧ ((1 : Nat) == c) = false ∧ (c - 1 == 0) = false) ∨ (c = 1 ∧ n = 0) := by
    by_cases d : c = 1
    · exact .inr ⟨d, by omega⟩
    · exact .inl ⟨by omega, beq_eq_false_iff_ne.2 (by omega), beq_eq_false_iff_ne.2 (by omega)⟩
  go_enter Tryz.func77, Tryz.ntmps77
  go_wp2_with fail
  have nz : ((n : Int) + 1 == 0) = false := beq_eq_false_iff_ne.2 (by omega)
  have n1 : (1 : Int) ≤ (n : Int) + 1 := by omega
  have n2 : 1 ≤ n + 1 := by omega
  have g1 : g ≠ w.heap.size + 1 := by omega
  have g2 : w.heap.size ≠ w.heap.size + 1 := by omega
  rcases cs with ⟨cs, ce, cf⟩ | ⟨rfl, rfl⟩
  · go_region_held3 (fun w' => w'.cell? ⟨w.heap.size, 0, none⟩ = some (.bool on) ∧ w'.cell? ⟨w.heap.size, 1, none⟩ = some (.slice (some ⟨g, o, none⟩) (n + 1) c) ∧ w'.cell? ⟨g, o, none⟩ = some (.int .i64 y))
      (first
        | (exact ⟨‹_›, ‹_›, ‹_›⟩)
        | (exact ⟨put_far ‹_› g2, put_far ‹_› g2, put_far ‹_› g1⟩)
        | go_keep)
      (first
        | (go_at_call 118; refine (J.out _ (by intro h; first | rfl | exact if_neg (by omega)) (by intro h; first | cases h | (split at h <;> first | cases h | exact ⟨by omega, by omega⟩)) _ (by first | exact Kept.refl Old V | exact (Kept.refl Old V).drew)).mono ?_; rintro e V2 ⟨v, rfl, M⟩; rw [List.append_nil] at M; obtain ⟨A2, n2, c2, rfl⟩ := M.form; have k2 := M.kept; have a0 := cell_on k2 a0; have a1 := cell_on k2 a1; have cx := cell_on k2 cx; have B2 := B1.out.old (w' := V2) ⟨k2.os, k2.tape, k2.output, k2.size, k2.block⟩; have f0 := B2.f0; have f1 := B2.f1; have b0 := B2.c0; have b1 := B2.c1; have M := Lib.hid M; have B2 := Lib.hid B2; clear k2))
    go_wp2
    obtain ⟨W, hW, r0, r1, K'⟩ := Bq.end2 B2.out (M.out.from (by first | exact Kept.refl Old V | exact (Kept.refl Old V).drew)) (by first | exact K1.out | exact K1.out.drew) (by omega) (by rw [← hW.out]; simp) on
    rw [hW]
    exact bodyPost_ret (v := .tuple #[.agg #[.bool on, .slice A2 n2 c2], .int .i64 y, .bool true]) (by simp [results, Tryz.results77, go_sem, r0, r1]) rfl ⟨_, rfl, K'⟩
  · go_region_held3 (fun w' => w'.cell? ⟨w.heap.size, 0, none⟩ = some (.bool on) ∧ w'.cell? ⟨w.heap.size, 1, none⟩ = some (.slice (some ⟨g, o, none⟩) (0 + 1) 1) ∧ w'.cell? ⟨g, o, none⟩ = some (.int .i64 y))
      (first
        | (exact ⟨‹_›, ‹_›, ‹_›⟩)
        | (exact ⟨put_far ‹_› g2, put_far ‹_› g2, put_far ‹_› g1⟩)
        | go_keep)
      (first
        | (go_at_call 118; refine (J.out _ (by intro h; omega) (by intro h; first | cases h | (split at h <;> first | cases h | exact ⟨by omega, by omega⟩)) _ (by first | exact Kept.refl Old V | exact (Kept.refl Old V).drew)).mono ?_; rintro e V2 ⟨v, rfl, M⟩; rw [List.append_nil] at M; obtain ⟨A2, n2, c2, rfl⟩ := M.form; have k2 := M.kept; have a0 := cell_on k2 a0; have a1 := cell_on k2 a1; have cx := cell_on k2 cx; have B2 := B1.out.old (w' := V2) ⟨k2.os, k2.tape, k2.output, k2.size, k2.block⟩; have f0 := B2.f0; have f1 := B2.f1; have b0 := B2.c0; have b1 := B2.c1; have M := Lib.hid M; have B2 := Lib.hid B2; clear k2))
    go_wp2
    obtain ⟨W, hW, r0, r1, K'⟩ := Bq.end2 B2.out (M.out.from (by first | exact Kept.refl Old V | exact (Kept.refl Old V).drew)) (by first | exact K1.out | exact K1.out.drew) (by omega) (by rw [← hW.out]; simp) on
    rw [hW]
    exact bodyPost_ret (v := .tuple #[.agg #[.bool on, .slice A2 n2 c2], .int .i64 y, .bool true]) (by simp [results, Tryz.results77, go_sem, r0, r1]) rfl ⟨_, rfl, K'⟩
theorem lnext_any (on : Bool) (A : Option Addr) (n c : Nat) (l : List Int) (w : World) (h : RsI w A n l) (hn : n ≤ 9000) (hc : n ≤ c) :
    Calls Tryz.prog 77 #[lt on A n c] w (NextPost (nextB on l) (l.drop 1) (nextX l) (nextK l) w) := by
  have hl := h.len
  cases l with
  | nil =>
    obtain rfl : n = 0 := hl.symm
    exact lnext_none on A c w
  | cons x t =>
    obtain ⟨m, rfl⟩ : ∃ m, n = m + 1 := ⟨t.length, by simpa using hl.symm⟩
    exact lnext_some on A m c x t w h (by omega) hc
end Go.Proofs.YtcndilpaijapkaaGreat.Lq
