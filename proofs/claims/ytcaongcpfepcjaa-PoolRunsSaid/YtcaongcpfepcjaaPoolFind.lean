/-
  What find, Len, Spans and Free of package pool answer, and slices.Contains of integers. Own work; each is proved by a walk through the landed text.
-/
import Derived.Test.YtcaongcpfepcjaaRows
import Derived.Test.YtcaongcpfepcjaaPoolCalls
import Derived.Test.YtcaongcpfepcjaaPrMem
import Derived.Test.YtcaongcpfepcjaaIntMem
import Derived.WalkKit
import Derived.ProofKit
import Derived.OpenShut
import Derived.Outline
import Derived.Deep.Light
import Derived.Deep.LoopGhost
import Derived.IntWalk
import Derived.WalkMore
namespace Go.Proofs.Ytcaongcpfepcjaa.Prt
open Go.ChangeShapes Go.WideShapes Go.ChangeAt Go.RowKit
set_option maxRecDepth 100000

/-! ### find -/
/-- What find answers. -/
def FindPost (c : Nat) (L : List Q) (a : Int) (w : World) (e : Ending) (w' : World) : Prop := ((∃ (i : Nat) (x : Q), e = .returned (.tuple #[.int .i64 (i : Int), .bool true]) ∧ (∀ y ∈ L.take i, atB c y.page a = false) ∧ L[i]? = some x ∧ atB c x.page a = true) ∨ (e = .returned (.tuple #[.int .i64 0, .bool false]) ∧ ∀ y ∈ L, atB c y.page a = false)) ∧ Kept Old w w'
set_option maxHeartbeats 1000000 in
theorem find_any {P B p c : Nat} {v : Value} {L : List Q} (a : Int) (w : World) (h : Pt w B p v c L) (g : GoodP P c L) (hP : P ≤ 256) :
    Calls Try.prog 33 #[ptr p, .int .i64 a] w (FindPost c L a w) := by
  have hn : L.length ≤ 256 := by have := g.len; omega
  have hc := g.cls
  have HT := Lib.hid h
  have HG := Lib.hid g
  obtain ⟨A, cc, rfl, r, _, _⟩ := h.own.rs
  have HR := Lib.hid r
  have c1 := h.c1
  have c0 := h.c0
  obtain ⟨n, hln⟩ : ∃ n, L.length = n := ⟨_, rfl⟩
  rw [hln] at c1 HR hn HT
  have HL := Lib.hid hln
  have e2 := wordsI_c hc
  have e2' := Lib.hid e2
  have pp := per_pos hc
  have wp := w_pos hc
  have wl := w_le hc
  clear h g r hln e2
  go_enter Try.func33, Try.ntmps33
  go_wp2_with fail
  go_step3
  go_wp2_with fail
  go_step3
  go_wp2_with fail
  go_loopg [16] n (fun gg i wr => ∃ k : Nat, k + gg = n ∧ i = .int .i64 (k : Int) ∧ Hid (∀ y ∈ L.take k, atB c y.page a = false) ∧ Hid (Kept Old w wr))
  case atStart => exact ⟨0, by omega, rfl, Lib.hid (fun y hy => by simp at hy), Lib.hid (Kept.refl _ _)⟩
  case round =>
    obtain ⟨k, hk, rfl, HB, K⟩ := hrel
    rename World => W
    have d1 := (HT.out.old K.out).c1
    have d0 := (HT.out.old K.out).c0
    have lp := (HT.out.old K.out).box.lt
    clear c1 c0
    cases gk with
    | zero =>
      obtain rfl : k = n := by omega
      have P1 : FindPost c L a w (.returned (.tuple #[.int .i64 0, .bool false])) W := ⟨.inr ⟨rfl, fun y hy => HB.out y (by rw [← HL.out, List.take_length]; exact hy)⟩, K.out⟩
      have P1 := Lib.hid P1
      go_wp2_with fail
      try rw [Exit.noGoto_ret]
      go_ret2
      exact P1.out
    | succ gg =>
      have ck : k < n := by omega
      obtain ⟨g, o, x, rfl, _, hx, a0, a1, a2⟩ := (HR.out.old K.out).getQ ck
      have xp := HG.out.inP x (List.mem_of_getElem? hx)
      have hx := Lib.hid hx
      have w1 : IntKind.i64.wrap ((x.page : Int) * 64) = (x.page : Int) * 64 := IntWalk.i64_in _ (by omega)
      have w2 : IntKind.i64.wrap ((x.page : Int) * 64 + 512) = (x.page : Int) * 64 + 512 := IntWalk.i64_in _ (by omega)
      have P1 : ∀ w', Kept Old W w' → atB c x.page a = true → FindPost c L a w (.returned (.tuple #[.int .i64 (k : Int), .bool true])) w' := fun w' k' ha => ⟨.inl ⟨k, x, rfl, HB.out, hx.out, ha⟩, K.out.trans k'⟩
      have P1 := Lib.hid P1
      go_wp2_with fail
      go_loopg [10] (perN c) (fun g2 s10 wy => ∃ j : Nat, j + g2 = perN c ∧ 0 < g2 ∧ s10 = .int .i64 ((stk c x.page j : Nat) : Int) ∧ Hid (∀ j', j' < j → a ≠ ((stk c x.page j' : Nat) : Int)) ∧ W.alloc (.cells #[.int .i64 (x.page : Int), .int .i64 (headQ x.free : Int), .int .i64 (x.free.length : Int)] 67) = wy)
      case atStart => exact ⟨0, by omega, by omega, by unfold stk; congr 1; omega, Lib.hid (fun j' h => by omega), rfl⟩
      case round =>
        obtain ⟨j, hj, hg2, rfl, HJ, rfl⟩ := hrel
        have js := stk_lt (page := x.page) hc (show j < perN c by omega)
        by_cases d : ((stk c x.page j : Nat) : Int) = a
        · have P2 := Lib.hid (P1.out _ ((Kept.refl Old W).alloc (.cells #[.int .i64 (x.page : Int), .int .i64 (headQ x.free : Int), .int .i64 (x.free.length : Int)] 67)) (by rw [← d]; exact at_stk hc (by omega)))
          have d' : (((stk c x.page j : Nat) : Int) != a) = false := by simp [d]
          clear d P1
          go_wp2_with fail
          try rw [Exit.noGoto_ret]
          go_ret2
          exact P2.out
        · have d' : (((stk c x.page j : Nat) : Int) != a) = true := bne_iff_ne.2 d
          have st : stk c x.page (j + 1) = stk c x.page j + wN c := by unfold stk; rw [Nat.add_mul, Nat.one_mul]; omega
          have HJ2 := Lib.hid (show ∀ j', j' < j + 1 → a ≠ ((stk c x.page j' : Nat) : Int) from fun j' h => by
            rcases Nat.lt_or_ge j' j with z | z
            · exact HJ.out j' z
            · obtain rfl : j' = j := by omega
              exact fun e => d e.symm)
          have w3 : IntKind.i64.wrap (((stk c x.page j : Nat) : Int) + ((wN c : Nat) : Int)) = ((stk c x.page (j + 1) : Nat) : Int) := by rw [IntWalk.i64_in _ (by omega), st]; omega
          have DD := Lib.hid d
          by_cases f : j + 1 = perN c
          · have e1 : (((stk c x.page (j + 1) : Nat) : Int) == (x.page : Int) * 64 + 512) = true := by
              have := w_per hc
              rw [f]
              unfold stk
              simp
              omega
            have hs := Lib.hid (show ∀ y ∈ L.take (k + 1), atB c y.page a = false from fun y hy => by
              rw [take_at hx.out] at hy
              rcases List.mem_append.1 hy with hy | hy
              · exact HB.out y hy
              · obtain rfl := List.mem_singleton.1 hy
                cases q : atB c y.page a with
                | false => rfl
                | true =>
                  obtain ⟨i, hi, e⟩ := of_at hc q
                  exact absurd e (HJ2.out i (by omega)))
            clear d f st
            go_wp2_with fail
            refine (words_any _ _).mono ?_
            rintro e w' ⟨rfl, rfl⟩
            rw [e2'.out]
            go_wp2_with fail
            go_roundg gg
            case measure => omega
            case rel => exact ⟨k + 1, by omega, by first | rfl | (congr 1), hs, Lib.hid (K.out.alloc _)⟩
          · have e1 : (((stk c x.page (j + 1) : Nat) : Int) == (x.page : Int) * 64 + 512) = false := by
              have := stk_lt (page := x.page) hc (show j + 1 < perN c by omega)
              simp only [beq_eq_false_iff_ne, ne_eq]
              omega
            have hj2 : j + 1 < perN c := by omega
            clear d f st
            go_wp2_with fail
            refine (words_any _ _).mono ?_
            rintro e w' ⟨rfl, rfl⟩
            rw [e2'.out]
            go_wp2_with fail
            go_roundg (perN c - (j + 1))
            case measure => omega
            case rel => exact ⟨j + 1, by omega, by omega, rfl, HJ2, rfl⟩

/-! ### slices.Contains -/
theorem index_any (A : Option Addr) (n cc : Nat) (l : List Int) (a : Int) (w : World) (h : RsI w A n l) (hn : n ≤ 100000) :
    Calls Try.prog 50 #[.slice A n cc, .int .i64 a] w fun e w' => ∃ z : Int, e = .returned (.int .i64 z) ∧ (0 ≤ z ↔ a ∈ l) ∧ w = w' := by
  have HR := Lib.hid h
  clear h
  go_enter Try.func50, Try.ntmps50
  go_wp2_with fail
  go_loopw [8] (fun i wr => ∃ k : Nat, k ≤ n ∧ i = .int .i64 (k : Int) ∧ Hid (a ∉ l.take k) ∧ w = wr) (fun i _ => n - (intOf i).toNat)
  case atStart => exact ⟨0, by omega, rfl, Lib.hid (by simp), rfl⟩
  case round =>
    obtain ⟨k, hk, rfl, HB, rfl⟩ := hrel
    by_cases c : k < n
    · obtain ⟨g, o, x, rfl, _, hx, _, cx⟩ := HR.out.get c
      have hx := Lib.hid hx
      by_cases d : a = x
      · subst d
        have P1 := Lib.hid (show (0 ≤ (k : Int) ↔ a ∈ l) from ⟨fun _ => List.mem_of_getElem? hx.out, fun _ => by omega⟩)
        clear hx
        go_wp2_with fail
        go_ret
        exact ⟨_, rfl, P1.out, rfl⟩
      · have d' : (a == x) = false := by simp [d]
        have hs := Lib.hid (show a ∉ l.take (k + 1) from fun hm => by
          rw [take_at hx.out] at hm
          rcases List.mem_append.1 hm with hm | hm
          · exact HB.out hm
          · exact d (List.mem_singleton.1 hm))
        have dd := Lib.hid d
        clear d hx
        go_wp2_with fail
        refine ⟨⟨k + 1, by omega, by go_num, hs, by first | trivial | rfl⟩, ?_⟩
        simp [intOf]; omega
    · obtain rfl : k = n := by omega
      have P1 := Lib.hid (show ((0 : Int) ≤ -1 ↔ a ∈ l) from ⟨fun h => by omega, fun h => absurd h (by have := HB.out; rw [← HR.out.len, List.take_length] at this; exact this)⟩)
      go_wp2_with fail
      go_ret
      exact ⟨_, rfl, P1.out, rfl⟩
theorem contains_any (A : Option Addr) (n cc : Nat) (l : List Int) (a : Int) (w : World) (h : RsI w A n l) (hn : n ≤ 100000) :
    Calls Try.prog 35 #[.slice A n cc, .int .i64 a] w fun e w' => e = .returned (.bool (decide (a ∈ l))) ∧ w = w' := by
  have HC := Lib.hid (index_any A n cc l a w h hn)
  clear h
  go_enter Try.func35, Try.ntmps35
  go_wp2_with fail
  refine HC.out.mono ?_
  rintro e w' ⟨z, rfl, hz, rfl⟩
  have e := Lib.hid (show decide ((0 : Int) ≤ z) = decide (a ∈ l) from decide_eq_decide.mpr hz)
  clear hz
  go_wp2_with fail
  go_ret
  exact ⟨by rw [← e.out]; rfl, rfl⟩

/-! ### Len -/
theorem plen_nil (w : World) : Calls Try.prog 19 #[.pointer none] w fun e w' => e = .returned (.int .i64 0) ∧ w = w' := by
  go_enter Try.func19, Try.ntmps19
  go_wp2
  go_ret
  exact ⟨rfl, rfl⟩
theorem plen_any {P B p c : Nat} {v : Value} {L : List Q} (w : World) (h : Pt w B p v c L) (g : GoodP P c L) (hP : P ≤ 256) :
    Calls Try.prog 19 #[ptr p] w fun e w' => e = .returned (.int .i64 (lenL L : Int)) ∧ Kept Old w w' := by
  have hn : L.length ≤ 32 := by have := g.len; omega
  have hf := freeL_len g
  have HT := Lib.hid h
  have HG := Lib.hid g
  obtain ⟨A, cc, rfl, r, _, _⟩ := h.own.rs
  have HR := Lib.hid r
  have c1 := h.c1
  obtain ⟨n, hln⟩ : ∃ n, L.length = n := ⟨_, rfl⟩
  rw [hln] at c1 HR hn HT hf
  have HL := Lib.hid hln
  clear h g r hln
  go_enter Try.func19, Try.ntmps19
  go_wp2_with fail
  go_loopw [3, 13] (fun s3 i wr => ∃ k : Nat, k ≤ n ∧ i = .int .i64 (k : Int) ∧ s3 = .int .i64 ((freeL (L.take k)).length : Int) ∧ Hid (Kept Old w wr)) (fun _ i _ => n - (intOf i).toNat)
  case atStart => exact ⟨0, by omega, rfl, by simp [freeL], Lib.hid (Kept.refl _ _)⟩
  case round =>
    obtain ⟨k, hk, rfl, rfl, K⟩ := hrel
    rename World => W
    have d1 := (HT.out.old K.out).c1
    clear c1
    by_cases c : k < n
    · obtain ⟨g, o, x, rfl, _, hx, a0, a1, a2⟩ := (HR.out.old K.out).getQ c
      have e := freeL_take hx
      have e' := Lib.hid (show ((freeL (L.take (k + 1))).length : Int) = ((freeL (L.take k)).length : Int) + (x.free.length : Int) by rw [e, List.length_append]; omega)
      have bnd := freeL_len (HG.out.sub (List.take_sublist (k + 1) L))
      have tl : (L.take (k + 1)).length = k + 1 := by rw [List.length_take, HL.out]; omega
      rw [tl, e, List.length_append] at bnd
      clear e tl hx
      go_wp2_with fail
      refine ⟨⟨k + 1, by omega, by go_num, by rw [e'.out], Lib.hid (K.out.alloc _)⟩, ?_⟩
      simp [intOf]; omega
    · obtain rfl : k = n := by omega
      have P1 := Lib.hid (show lenL L = (freeL (L.take k)).length by unfold lenL; rw [← HL.out, List.take_length])
      go_wp2_with fail
      go_ret
      exact ⟨by rw [P1.out]; rfl, K.out⟩

/-! ### Spans -/
/-- A page and how many are free. -/
def spansL (L : List Q) : List Pr.R := L.map fun x => (((x.page : Nat) : Int), ((x.free.length : Nat) : Int))
theorem spans_nil (w : World) : Calls Try.prog 20 #[.pointer none] w fun e w' => e = .returned (.slice none 0 0) ∧ w = w' := by
  go_enter Try.func20, Try.ntmps20
  go_wp2
  go_ret
  exact ⟨rfl, rfl⟩
theorem spansL_take {L : List Q} {k : Nat} {x : Q} (h : L[k]? = some x) : spansL (L.take (k + 1)) = spansL (L.take k) ++ [(((x.page : Nat) : Int), ((x.free.length : Nat) : Int))] := by
  unfold spansL; rw [take_at h, List.map_append]; rfl
set_option maxHeartbeats 1000000 in
theorem spans_any {P B p c : Nat} {v : Value} {L : List Q} (w : World) (h : Pt w B p v c L) (g : GoodP P c L) (hP : P ≤ 256) :
    Calls Try.prog 20 #[ptr p] w fun e w' => ∃ v', e = .returned v' ∧ Pr.Made1 (spansL L) w v' w' := by
  have hn : L.length ≤ 32 := by have := g.len; omega
  have HT := Lib.hid h
  have HG := Lib.hid g
  obtain ⟨A, cc, rfl, r, _, _⟩ := h.own.rs
  have HR := Lib.hid r
  have c1 := h.c1
  obtain ⟨n, hln⟩ : ∃ n, L.length = n := ⟨_, rfl⟩
  rw [hln] at c1 HR hn HT
  have HL := Lib.hid hln
  obtain ⟨w1, hm, O1, K1⟩ := Pr.make_runs w w.heap.size n (by omega) (Nat.le_refl _)
  have HT1 := Lib.hid (HT.out.old K1)
  have c11 := HT1.out.c1
  have O1 := Lib.hid O1
  have K1 := Lib.hid K1
  clear h g r hln
  go_enter Try.func20, Try.ntmps20
  go_wp2_with fail
  go_loopw [3, 19] (fun s3 i wr => ∃ (k cp : Nat) (B2 : Option Addr), k ≤ n ∧ i = .int .i64 (k : Int) ∧ s3 = .slice B2 k cp ∧ Hid (Pr.Ow wr w.heap.size (.slice B2 k cp) k (spansL (L.take k))) ∧ Hid (Kept Old w wr)) (fun _ i _ => n - (intOf i).toNat)
  case atStart => exact ⟨0, n, _, by omega, rfl, rfl, O1, K1⟩
  case round =>
    obtain ⟨k, cp, B2, hk, rfl, rfl, O, K⟩ := hrel
    rename World => W
    have d1 := (HT.out.old K.out).c1
    clear c1 c11 hm
    by_cases c : k < n
    · obtain ⟨g, o, x, rfl, _, hx, a0, a1, a2⟩ := (HR.out.old K.out).getQ c
      have e := Lib.hid (spansL_take hx)
      have xp := HG.out.inP x (List.mem_of_getElem? hx)
      have xf := HG.out.few (List.mem_of_getElem? hx)
      have pp := per_pos HG.out.cls
      have R1 := Lib.hid (Pr.Rs.one (W.alloc (.cells #[.int .i64 (x.page : Int), .int .i64 (headQ x.free : Int), .int .i64 (x.free.length : Int)] 67)) (((x.page : Nat) : Int), ((x.free.length : Nat) : Int)) ⟨by simp only []; omega, by simp only []; omega⟩ ⟨by simp only []; omega, by simp only []; omega⟩ (W.heap.size + 1) (by simp))
      have OO := Lib.hid ((O.out.alloc (.cells #[.int .i64 (x.page : Int), .int .i64 (headQ x.free : Int), .int .i64 (x.free.length : Int)] 67)).alloc (.cells #[.int .i64 (x.page : Int), .int .i64 (x.free.length : Int)] 52))
      have KK := Lib.hid ((K.out.alloc (.cells #[.int .i64 (x.page : Int), .int .i64 (headQ x.free : Int), .int .i64 (x.free.length : Int)] 67)).alloc (.cells #[.int .i64 (x.page : Int), .int .i64 (x.free.length : Int)] 52))
      clear hx
      go_wp2_with (at_builtin; refine Pr.app_wp rfl (.tmp 23) (.tmp 29) rfl rfl w.heap.size (.slice B2 k cp) k (spansL (L.take k)) rfl OO.out (some ⟨W.heap.size + 1, 0, none⟩) 1 1 [(((x.page : Nat) : Int), ((x.free.length : Nat) : Int))] rfl R1.out (by intro h; cases h) (by omega) (by omega) KK.out.size (k + 1) rfl _ rfl ?_; intro v3 w3 O3 k3 a3; obtain ⟨A3, c3, rfl, _⟩ := O3.out.rs; have K3 := Lib.hid (OO.out.step KK.out k3.out))
      refine ⟨⟨k + 1, c3, A3, by omega, by go_num, rfl, by rw [e.out]; exact O3, K3⟩, ?_⟩
      simp [intOf]; omega
    · obtain rfl : k = n := by omega
      have P1 : Pr.Made1 (spansL L) w (.slice B2 k cp) W := Pr.made_end (by have := O.out; rw [← HL.out, List.take_length, HL.out] at this; exact this) K.out
      have P1 := Lib.hid P1
      go_wp2_with fail
      go_ret
      exact ⟨_, rfl, P1.out⟩

/-! ### Free -/
theorem free_nil {a : Value} (w : World) : Calls Try.prog 21 #[.pointer none, a] w fun e w' => e = .returned (.slice none 0 0) ∧ w = w' := by
  go_enter Try.func21, Try.ntmps21
  go_wp2
  go_ret
  exact ⟨rfl, rfl⟩
theorem free_na {p : Nat} (w : World) : Calls Try.prog 21 #[ptr p, .pointer none] w fun e w' => e = .returned (.slice none 0 0) ∧ w = w' := by
  go_enter Try.func21, Try.ntmps21
  go_wp2
  go_ret
  exact ⟨rfl, rfl⟩
theorem walk_some {p g : Nat} {ws l : List Nat} {h : Nat} (m : Int) (w : World) (a : Ar w p g ws) (c : Ch ws h l) (hm : (l.length : Int) ≤ m) (b1 : m ≤ 9223372036854775807) :
    Calls Try.prog 34 #[ptr p, .int .i64 (h : Int), .int .i64 m] w fun e w' => ∃ v, e = .returned (.tuple #[v, .int .i64 0]) ∧ MadeI (NI l) w v w' := by
  refine (walk_any h m w a c.le (by omega) b1).mono ?_
  intro e w' P
  rw [c.walk, if_pos (by omega)] at P
  rcases P with ⟨l', v, e1, rfl, M⟩ | ⟨e1, _⟩
  · obtain rfl := Option.some.inj e1
    exact ⟨v, rfl, M⟩
  · cases e1
theorem make_ints (w : World) (B n : Nat) (hn : n ≤ 3000) (hb : B ≤ w.heap.size) :
    ∃ w', (Instr.makeSlice 31 (.int .i64 0) (.int .i64 (n : Int))).run Try.prog w = .ok (.slice (some ⟨w.heap.size, 0, none⟩) 0 n) w' ∧ OwI w' B (.slice (some ⟨w.heap.size, 0, none⟩) 0 n) 0 [] ∧ Kept Old w w' := by
  obtain ⟨i0, hi, hz0, hz1, hz2⟩ := info_parts Try.intInfo1
  obtain ⟨w', hrun, r1, r2⟩ := run_make_own (P := Try.prog) w B 31 3 i0 _ 1 Try.underlying31 hi hz0 hz1 .i64 .i64 n (by rw [hz2]; omega) (by simp only [maxLen]; omega) hb
  exact ⟨w', hrun, ⟨r1, fun _ h => by cases h⟩, Kept.grown (Kept.refl _ _) r2 (fun g e _ => by cases e)⟩
end Go.Proofs.Ytcaongcpfepcjaa.Prt
