/-
  Joined texts of Pool; own work.
-/
import Derived.Test.YtcndilpaijapkaaGreatRows
import Derived.WalkKit
import Derived.ProofKit
import Derived.OpenShut
import Derived.Outline
import Derived.Deep.Light
import Derived.Deep.LoopGhost
import Derived.IntWalk
import Derived.WalkMore
import Derived.Test.YtcndilpaijapkaaGreatJChainCalls
import Derived.Test.YtcndilpaijapkaaGreatJInts
import Derived.Test.YtcndilpaijapkaaGreatJMath
import Derived.Test.YtcndilpaijapkaaGreatJPartMem
import Derived.Test.YtcndilpaijapkaaGreatJSize
/- What New, place, lay and find of package pool answer, of a pool whose spans are known (Pt). Own work; each is proved by a walk through the landed text. -/
namespace Go.Proofs.YtcndilpaijapkaaGreat.Prt
open Go.ChangeShapes Go.WideShapes Go.ChangeAt Go.RowKit
set_option maxRecDepth 100000

/-- A span as the pool has it. -/
def toS (x : Q) : S := ⟨((x.page : Nat) : Int), ((headQ x.free : Nat) : Int), ((x.free.length : Nat) : Int)⟩
abbrev SQ (L : List Q) : List S := L.map toS
/-- At p lies a pool of class c whose spans are those of L; v is its slice; its blocks are from B on. -/
structure Pt (w : World) (B p : Nat) (v : Value) (c : Nat) (L : List Q) : Prop where
  box : Blk w p 150 [.int .i64 (c : Int), v]
  own : OwS w B v L.length (SQ L)
  low : B ≤ p
theorem Pt.c0 {w : World} {B p : Nat} {v : Value} {c : Nat} {L : List Q} (h : Pt w B p v c L) : w.cell? ⟨p, 0, none⟩ = some (.int .i64 (c : Int)) := h.box.cell 0
theorem Pt.c1 {w : World} {B p : Nat} {v : Value} {c : Nat} {L : List Q} (h : Pt w B p v c L) : w.cell? ⟨p, 1, none⟩ = some v := h.box.cell 1
theorem Pt.kept {D : Nat → Prop} {w w' : World} {B p : Nat} {v : Value} {c : Nat} {L : List Q} (h : Pt w B p v c L) (k : Kept D w w') (hp : ¬ D p) (hg : ∀ g, v.ownBlock = some g → ¬ D g) : Pt w' B p v c L := ⟨h.box.kept k hp, h.own.kept k hg, h.low⟩
theorem Pt.old {w w' : World} {B p : Nat} {v : Value} {c : Nat} {L : List Q} (h : Pt w B p v c L) (k : Kept Old w w') : Pt w' B p v c L := h.kept k (fun x => x) (fun _ _ x => x)
theorem Pt.own_ne {w : World} {B p : Nat} {v : Value} {c : Nat} {L : List Q} (h : Pt w B p v c L) {b : Nat} {t : TypeId} {cs : List Value} (k : Blk w b t cs) (ht : t ≠ 197) : v.ownBlock ≠ some b := by
  intro e
  rcases h.own.blk with ⟨rfl, _⟩ | ⟨g, c, r, rfl, _, bb, _⟩
  · cases e
  · have : g = b := by simpa [Value.ownBlock] using e
    subst this
    exact k.ne bb ht rfl
theorem Pt.ne {w : World} {B p : Nat} {v : Value} {c : Nat} {L : List Q} (h : Pt w B p v c L) : v.ownBlock ≠ some p := h.own_ne h.box (by decide)
/-- The k-th span's cells. -/
theorem RsS.getQ {w : World} {A : Option Addr} {n : Nat} {L : List Q} (h : RsS w A n (SQ L)) {k : Nat} (hk : k < n) : ∃ (g o : Nat) (x : Q), A = some ⟨g, o, none⟩ ∧ g < w.heap.size ∧ L[k]? = some x ∧ w.cell? ⟨g, o + k * 3, none⟩ = some (.int .i64 (x.page : Int)) ∧ w.cell? ⟨g, o + k * 3 + 1, none⟩ = some (.int .i64 (headQ x.free : Int)) ∧ w.cell? ⟨g, o + k * 3 + 2, none⟩ = some (.int .i64 (x.free.length : Int)) := by
  obtain ⟨g, o, x, h1, h2, h3, _, h4, h5, h6⟩ := h.get hk
  rw [List.getElem?_map] at h3
  obtain ⟨y, hy, rfl⟩ := Option.map_eq_some_iff.1 h3
  exact ⟨g, o, y, h1, h2, hy, h4, h5, h6⟩

/-! ### New -/
theorem pnew_no (c : Int) (w : World) (h : c < 0 ∨ 3 < c) : Calls Tryz.prog 45 #[.int .i64 c] w fun e w' => e = .returned (.pointer none) ∧ w = w' := by
  have e := smallB_out c h
  go_enter Tryz.func45, Tryz.ntmps45
  go_wp2_with fail
  refine (small_any _ _).mono ?_
  rintro e w' ⟨rfl, rfl⟩
  go_wp2_with fail
  go_ret
  exact ⟨rfl, rfl⟩
/-- A new pool. -/
def PNewPost (B c : Nat) (w : World) (e : Ending) (w' : World) : Prop := ∃ p, e = .returned (ptr p) ∧ Pt w' B p (.slice none 0 0) c [] ∧ Kept Old w w' ∧ w.heap.size ≤ p
theorem pnew_yes (B c : Nat) (w : World) (h : c < 4) (hB : B ≤ w.heap.size) : Calls Tryz.prog 45 #[.int .i64 (c : Int)] w (PNewPost B c w) := by
  have R : PNewPost B c w (.returned (ptr w.heap.size)) (w.alloc (.cells #[.int .i64 (c : Int), .slice none 0 0] 150)) :=
    ⟨w.heap.size, rfl, ⟨Blk.new w _ _, OwS.nil _ _, hB⟩, (Kept.refl _ _).alloc _, Nat.le_refl _⟩
  have R := Lib.hid R
  have e := smallB_in (c : Int) (by omega) (by omega)
  go_enter Tryz.func45, Tryz.ntmps45
  go_wp2_with fail
  refine (small_any _ _).mono ?_
  rintro e w' ⟨rfl, rfl⟩
  go_wp2_with fail
  go_ret
  exact R.out

/-! ### place -/
/-- What place answers. -/
def PlcPost (L : List Q) (q : Nat) (w : World) (e : Ending) (w' : World) : Prop := ((∃ i : Nat, e = .returned (.tuple #[.int .i64 (i : Int), .bool true]) ∧ placeQ q L = some i) ∨ (e = .returned (.tuple #[.int .i64 0, .bool false]) ∧ placeQ q L = none)) ∧ Kept Old w w'
theorem plc_any {P B p c : Nat} {v : Value} {L : List Q} (q : Nat) (w : World) (h : Pt w B p v c L) (g : GoodP P c L) (hP : P ≤ 256) (hq : q ≤ 256) :
    Calls Tryz.prog 184 #[ptr p, .int .i64 (q : Int)] w (PlcPost L q w) := by
  have hn : L.length ≤ 256 := by have := g.len; omega
  have HT := Lib.hid h
  have HG := Lib.hid g
  obtain ⟨A, cc, rfl, r, _, _⟩ := h.own.rs
  have HR := Lib.hid r
  have c1 := h.c1
  obtain ⟨n, hln⟩ : ∃ n, L.length = n := ⟨_, rfl⟩
  rw [hln] at c1 HR hn HT
  have HL := Lib.hid hln
  clear h g r hln
  go_enter Tryz.func184, Tryz.ntmps184
  go_wp2_with fail
  go_loopw [13] (fun i wr => ∃ k : Nat, k ≤ n ∧ i = .int .i64 (k : Int) ∧ Hid (∀ y ∈ L.take k, y.page + 8 ≤ q) ∧ Hid (Kept Old w wr)) (fun i _ => n - (intOf i).toNat)
  case atStart => exact ⟨0, by omega, rfl, Lib.hid (fun y hy => by simp at hy), Lib.hid (Kept.refl _ _)⟩
  case round =>
    obtain ⟨k, hk, rfl, HB, K⟩ := hrel
    rename World => W
    have d1 := (HT.out.old K.out).c1
    clear c1
    by_cases c : k < n
    · obtain ⟨g, o, x, rfl, _, hx, a0, a1, a2⟩ := (HR.out.old K.out).getQ c
      have xp := HG.out.inP x (List.mem_of_getElem? hx)
      have hx := Lib.hid hx
      by_cases d : q + 8 ≤ x.page
      · have P1 : ∀ w', Kept Old W w' → PlcPost L q w (.returned (.tuple #[.int .i64 (k : Int), .bool true])) w' := fun w' k' => ⟨.inl ⟨k, rfl, placeQ_here hx.out HB.out d⟩, K.out.trans k'⟩
        have P1 := Lib.hid P1
        go_wp2_with fail
        go_ret2
        exact P1.out _ ((Kept.refl _ _).alloc _)
      · by_cases d2 : q < x.page + 8
        · have P1 : ∀ w', Kept Old W w' → PlcPost L q w (.returned (.tuple #[.int .i64 0, .bool false])) w' := fun w' k' => ⟨.inr ⟨rfl, placeQ_hit hx.out HB.out d d2⟩, K.out.trans k'⟩
          have P1 := Lib.hid P1
          go_wp2_with fail
          go_ret2
          exact P1.out _ ((Kept.refl _ _).alloc _)
        · have hs := Lib.hid (show ∀ y ∈ L.take (k + 1), y.page + 8 ≤ q from fun y hy => by
            rw [take_at hx.out] at hy
            rcases List.mem_append.1 hy with hy | hy
            · exact HB.out y hy
            · obtain rfl := List.mem_singleton.1 hy; omega)
          go_wp2_with fail
          refine ⟨⟨k + 1, by omega, by go_num, hs, Lib.hid (K.out.alloc _)⟩, ?_⟩
          simp [intOf]; omega
    · obtain rfl : k = n := by omega
      have P1 : PlcPost L q w (.returned (.tuple #[.int .i64 (k : Int), .bool true])) W := ⟨.inl ⟨k, rfl, by rw [← HL.out]; exact placeQ_end (by rw [HL.out]; exact HB.out)⟩, K.out⟩
      have P1 := Lib.hid P1
      go_wp2_with fail
      go_ret2
      exact P1.out

/-! ### lay -/
set_option maxHeartbeats 1000000 in
theorem lay_any {B p c a g : Nat} {v : Value} {L : List Q} {ws : List Nat} (q : Nat) (w : World) (h : Pt w B p v c L) (ar : Ar w a g ws) (hc : c < 4) (hl : q * 64 + 512 ≤ ws.length) :
    Calls Tryz.prog 185 #[ptr p, ptr a, .int .i64 (q : Int)] w fun e w' => ∃ vs, e = .returned (.tuple #[.int .i64 (headQ (allQ c q) : Int), .int .i64 0]) ∧ Laid c q ws 0 vs ∧ Ar w' a g vs ∧ Kept (Only g) w w' := by
  have hb := ar.big
  have HT := Lib.hid h
  have HA := Lib.hid ar
  have c0 := h.c0
  have e1 := perI_c hc
  have e2 := wordsI_c hc
  have pp := per_pos hc
  have wp := w_pos hc
  have wl := w_le hc
  have np : p ≠ g := h.box.ne ar.row.blk (by decide)
  have ng := h.own_ne ar.row.blk (by decide)
  have HN := Lib.hid ng
  have e1' := Lib.hid e1
  have e2' := Lib.hid e2
  have c0' := Lib.hid c0
  clear h ar ng e1 e2 c0
  go_enter Tryz.func185, Tryz.ntmps185
  have c0 := c0'.out
  go_wp2_with fail
  refine (per_any _ _).mono ?_
  rintro e w' ⟨rfl, rfl⟩
  rw [e1'.out]
  go_wp2_with fail
  go_loopw [9, 10] (fun s9 s10 wr => ∃ (k : Nat) (vs : List Nat), k ≤ perN c ∧ s10 = .int .i64 ((k : Int) - 1) ∧ s9 = .int .i64 (headQ ((allQ c q).drop k) : Int) ∧ Hid (Laid c q ws k vs) ∧ Hid (Ar wr a g vs) ∧ Hid (Kept (Only g) w wr)) (fun _ s10 _ => (intOf s10 + 1).toNat)
  case atStart =>
    refine ⟨perN c, ws, Nat.le_refl _, rfl, ?_, Lib.hid (Laid.start _ _ _), HA, Lib.hid (Kept.refl _ _)⟩
    rw [List.drop_eq_nil_of_le (by rw [allQ_length]; exact Nat.le_refl _)]
    rfl
  case round =>
    obtain ⟨k, vs, hk, rfl, rfl, LL, A1, K⟩ := hrel
    rename World => W
    have c0 := (HT.out.kept K.out np (fun gg e f => HN.out (by rw [e, show gg = g from f]))).c0
    cases k with
    | zero =>
      have LL0 := Lib.hid (show ∃ us, Ending.returned (.tuple #[.int .i64 (headQ ((allQ c q).drop 0) : Int), .int .i64 0]) = .returned (.tuple #[.int .i64 (headQ (allQ c q) : Int), .int .i64 0]) ∧ Laid c q ws 0 us ∧ Ar W a g us ∧ Kept (Only g) w W from ⟨vs, by simp, LL.out, A1.out, K.out⟩)
      go_wp2_with fail
      go_ret2
      exact LL0.out
    | succ k =>
      obtain ⟨h1, h2, h3, h4⟩ := LL.out.step hc hk hl
      have PO := Lib.hid (push_ok _ _ W A1.out h2 h1)
      have h4 := Lib.hid h4
      have h3 := Lib.hid h3
      have kk : ((k + 1 : Nat) : Int) - 1 = (k : Int) := by omega
      rw [kk]
      have m1 := mul_lt_of (w := wN c) hk
      have m2 := w_per hc
      have m3 : (k : Int) * ((wN c : Nat) : Int) = ((k * wN c : Nat) : Int) := by simp
      have m4 : IntKind.i64.wrap ((k : Int) * ((wN c : Nat) : Int)) = ((k * wN c : Nat) : Int) := by rw [m3]; exact IntWalk.i64_in _ (by omega)
      have m5 : IntKind.i64.wrap ((q : Int) * 64) = (q : Int) * 64 := IntWalk.i64_in _ (by omega)
      have m6 : IntKind.i64.wrap ((q : Int) * 64 + ((k * wN c : Nat) : Int)) = ((stk c q k : Nat) : Int) := by
        unfold stk
        rw [IntWalk.i64_in _ (by omega)]
        omega
      clear m3 h1 h2
      go_wp2_with fail
      refine (words_any _ _).mono ?_
      rintro e w' ⟨rfl, rfl⟩
      rw [e2'.out]
      go_wp2_with fail
      refine PO.out.mono ?_
      rintro e w1 ⟨rfl, a1, k1⟩
      have a1 := Lib.hid a1
      have k1 := Lib.hid k1
      clear m1 m2 m4 m5 m6
      go_wp2_with fail
      refine ⟨⟨k, _, by omega, by first | rfl | (congr 1; omega), ?_, h3, a1, Lib.hid (K.out.trans k1.out)⟩, ?_⟩
      · rw [h4.out]; rfl
      · simp [intOf]
end Go.Proofs.YtcndilpaijapkaaGreat.Prt
/- What find, Len, Spans and Free of package pool answer, and slices.Contains of integers. Own work; each is proved by a walk through the landed text. -/
namespace Go.Proofs.YtcndilpaijapkaaGreat.Prt
open Go.ChangeShapes Go.WideShapes Go.ChangeAt Go.RowKit
set_option maxRecDepth 100000

/-! ### find -/
/-- What find answers. -/
def FindPost (c : Nat) (L : List Q) (a : Int) (w : World) (e : Ending) (w' : World) : Prop := ((∃ (i : Nat) (x : Q), e = .returned (.tuple #[.int .i64 (i : Int), .bool true]) ∧ (∀ y ∈ L.take i, atB c y.page a = false) ∧ L[i]? = some x ∧ atB c x.page a = true) ∨ (e = .returned (.tuple #[.int .i64 0, .bool false]) ∧ ∀ y ∈ L, atB c y.page a = false)) ∧ Kept Old w w'
set_option maxHeartbeats 1000000 in
theorem find_any {P B p c : Nat} {v : Value} {L : List Q} (a : Int) (w : World) (h : Pt w B p v c L) (g : GoodP P c L) (hP : P ≤ 256) :
    Calls Tryz.prog 161 #[ptr p, .int .i64 a] w (FindPost c L a w) := by
  have hn : L.length ≤ 256 := by have := g.len; omega
  have hc := g.cls
  have HT := Lib.hid h
  have HG := Lib.hid g
  obtain ⟨A, cc, rfl, r, _, _⟩ := h.own.rs
  have HR := Lib.hid r
  have c1 := h.c1
  have c0 := h.c0
  obtain ⟨n, hln⟩ : ∃ n, L.length = n := ⟨_, rfl⟩
  rw [hln] at c1 HR hn HT
  have HL := Lib.hid hln
  have e2 := wordsI_c hc
  have e2' := Lib.hid e2
  have pp := per_pos hc
  have wp := w_pos hc
  have wl := w_le hc
  clear h g r hln e2
  go_enter Tryz.func161, Tryz.ntmps161
  go_wp2_with fail
  go_step3
  go_wp2_with fail
  go_step3
  go_wp2_with fail
  go_loopg [16] n (fun gg i wr => ∃ k : Nat, k + gg = n ∧ i = .int .i64 (k : Int) ∧ Hid (∀ y ∈ L.take k, atB c y.page a = false) ∧ Hid (Kept Old w wr))
  case atStart => exact ⟨0, by omega, rfl, Lib.hid (fun y hy => by simp at hy), Lib.hid (Kept.refl _ _)⟩
  case round =>
    obtain ⟨k, hk, rfl, HB, K⟩ := hrel
    rename World => W
    have d1 := (HT.out.old K.out).c1
    have d0 := (HT.out.old K.out).c0
    have lp := (HT.out.old K.out).box.lt
    clear c1 c0
    cases gk with
    | zero =>
      obtain rfl : k = n := by omega
      have P1 : FindPost c L a w (.returned (.tuple #[.int .i64 0, .bool false])) W := ⟨.inr ⟨rfl, fun y hy => HB.out y (by rw [← HL.out, List.take_length]; exact hy)⟩, K.out⟩
      have P1 := Lib.hid P1
      go_wp2_with fail
      try rw [Exit.noGoto_ret]
      go_ret2
      exact P1.out
    | succ gg =>
      have ck : k < n := by omega
      obtain ⟨g, o, x, rfl, _, hx, a0, a1, a2⟩ := (HR.out.old K.out).getQ ck
      have xp := HG.out.inP x (List.mem_of_getElem? hx)
      have hx := Lib.hid hx
      have w1 : IntKind.i64.wrap ((x.page : Int) * 64) = (x.page : Int) * 64 := IntWalk.i64_in _ (by omega)
      have w2 : IntKind.i64.wrap ((x.page : Int) * 64 + 512) = (x.page : Int) * 64 + 512 := IntWalk.i64_in _ (by omega)
      have P1 : ∀ w', Kept Old W w' → atB c x.page a = true → FindPost c L a w (.returned (.tuple #[.int .i64 (k : Int), .bool true])) w' := fun w' k' ha => ⟨.inl ⟨k, x, rfl, HB.out, hx.out, ha⟩, K.out.trans k'⟩
      have P1 := Lib.hid P1
      go_wp2_with fail
      go_loopg [10] (perN c) (fun g2 s10 wy => ∃ j : Nat, j + g2 = perN c ∧ 0 < g2 ∧ s10 = .int .i64 ((stk c x.page j : Nat) : Int) ∧ Hid (∀ j', j' < j → a ≠ ((stk c x.page j' : Nat) : Int)) ∧ W.alloc (.cells #[.int .i64 (x.page : Int), .int .i64 (headQ x.free : Int), .int .i64 (x.free.length : Int)] 197) = wy)
      case atStart => exact ⟨0, by omega, by omega, by unfold stk; congr 1; omega, Lib.hid (fun j' h => by omega), rfl⟩
      case round =>
        obtain ⟨j, hj, hg2, rfl, HJ, rfl⟩ := hrel
        have js := stk_lt (page := x.page) hc (show j < perN c by omega)
        by_cases d : ((stk c x.page j : Nat) : Int) = a
        · have P2 := Lib.hid (P1.out _ ((Kept.refl Old W).alloc (.cells #[.int .i64 (x.page : Int), .int .i64 (headQ x.free : Int), .int .i64 (x.free.length : Int)] 197)) (by rw [← d]; exact at_stk hc (by omega)))
          have d' : (((stk c x.page j : Nat) : Int) != a) = false := by simp [d]
          clear d P1
          go_wp2_with fail
          try rw [Exit.noGoto_ret]
          go_ret2
          exact P2.out
        · have d' : (((stk c x.page j : Nat) : Int) != a) = true := bne_iff_ne.2 d
          have st : stk c x.page (j + 1) = stk c x.page j + wN c := by unfold stk; rw [Nat.add_mul, Nat.one_mul]; omega
          have HJ2 := Lib.hid (show ∀ j', j' < j + 1 → a ≠ ((stk c x.page j' : Nat) : Int) from fun j' h => by
            rcases Nat.lt_or_ge j' j with z | z
            · exact HJ.out j' z
            · obtain rfl : j' = j := by omega
              exact fun e => d e.symm)
          have w3 : IntKind.i64.wrap (((stk c x.page j : Nat) : Int) + ((wN c : Nat) : Int)) = ((stk c x.page (j + 1) : Nat) : Int) := by rw [IntWalk.i64_in _ (by omega), st]; omega
          have DD := Lib.hid d
          by_cases f : j + 1 = perN c
          · have e1 : (((stk c x.page (j + 1) : Nat) : Int) == (x.page : Int) * 64 + 512) = true := by
              have := w_per hc
              rw [f]
              unfold stk
              simp
              omega
            have hs := Lib.hid (show ∀ y ∈ L.take (k + 1), atB c y.page a = false from fun y hy => by
              rw [take_at hx.out] at hy
              rcases List.mem_append.1 hy with hy | hy
              · exact HB.out y hy
              · obtain rfl := List.mem_singleton.1 hy
                cases q : atB c y.page a with
                | false => rfl
                | true =>
                  obtain ⟨i, hi, e⟩ := of_at hc q
                  exact absurd e (HJ2.out i (by omega)))
            clear d f st
            go_wp2_with fail
            refine (words_any _ _).mono ?_
            rintro e w' ⟨rfl, rfl⟩
            rw [e2'.out]
            go_wp2_with fail
            go_roundg gg
            case measure => omega
            case rel => exact ⟨k + 1, by omega, by first | rfl | (congr 1), hs, Lib.hid (K.out.alloc _)⟩
          · have e1 : (((stk c x.page (j + 1) : Nat) : Int) == (x.page : Int) * 64 + 512) = false := by
              have := stk_lt (page := x.page) hc (show j + 1 < perN c by omega)
              simp only [beq_eq_false_iff_ne, ne_eq]
              omega
            have hj2 : j + 1 < perN c := by omega
            clear d f st
            go_wp2_with fail
            refine (words_any _ _).mono ?_
            rintro e w' ⟨rfl, rfl⟩
            rw [e2'.out]
            go_wp2_with fail
            go_roundg (perN c - (j + 1))
            case measure => omega
            case rel => exact ⟨j + 1, by omega, by omega, rfl, HJ2, rfl⟩

/-! ### slices.Contains -/
theorem index_any (A : Option Addr) (n cc : Nat) (l : List Int) (a : Int) (w : World) (h : RsI w A n l) (hn : n ≤ 100000) :
    Calls Tryz.prog 188 #[.slice A n cc, .int .i64 a] w fun e w' => ∃ z : Int, e = .returned (.int .i64 z) ∧ (0 ≤ z ↔ a ∈ l) ∧ w = w' := by
  have HR := Lib.hid h
  clear h
  go_enter Tryz.func188, Tryz.ntmps188
  go_wp2_with fail
  go_loopw [8] (fun i wr => ∃ k : Nat, k ≤ n ∧ i = .int .i64 (k : Int) ∧ Hid (a ∉ l.take k) ∧ w = wr) (fun i _ => n - (intOf i).toNat)
  case atStart => exact ⟨0, by omega, rfl, Lib.hid (by simp), rfl⟩
  case round =>
    obtain ⟨k, hk, rfl, HB, rfl⟩ := hrel
    by_cases c : k < n
    · obtain ⟨g, o, x, rfl, _, hx, _, cx⟩ := HR.out.get c
      have hx := Lib.hid hx
      by_cases d : a = x
      · subst d
        have P1 := Lib.hid (show (0 ≤ (k : Int) ↔ a ∈ l) from ⟨fun _ => List.mem_of_getElem? hx.out, fun _ => by omega⟩)
        clear hx
        go_wp2_with fail
        go_ret
        exact ⟨_, rfl, P1.out, rfl⟩
      · have d' : (a == x) = false := by simp [d]
        have hs := Lib.hid (show a ∉ l.take (k + 1) from fun hm => by
          rw [take_at hx.out] at hm
          rcases List.mem_append.1 hm with hm | hm
          · exact HB.out hm
          · exact d (List.mem_singleton.1 hm))
        have dd := Lib.hid d
        clear d hx
        go_wp2_with fail
        refine ⟨⟨k + 1, by omega, by go_num, hs, by first | trivial | rfl⟩, ?_⟩
        simp [intOf]; omega
    · obtain rfl : k = n := by omega
      have P1 := Lib.hid (show ((0 : Int) ≤ -1 ↔ a ∈ l) from ⟨fun h => by omega, fun h => absurd h (by have := HB.out; rw [← HR.out.len, List.take_length] at this; exact this)⟩)
      go_wp2_with fail
      go_ret
      exact ⟨_, rfl, P1.out, rfl⟩
theorem contains_any (A : Option Addr) (n cc : Nat) (l : List Int) (a : Int) (w : World) (h : RsI w A n l) (hn : n ≤ 100000) :
    Calls Tryz.prog 162 #[.slice A n cc, .int .i64 a] w fun e w' => e = .returned (.bool (decide (a ∈ l))) ∧ w = w' := by
  have HC := Lib.hid (index_any A n cc l a w h hn)
  clear h
  go_enter Tryz.func162, Tryz.ntmps162
  go_wp2_with fail
  refine HC.out.mono ?_
  rintro e w' ⟨z, rfl, hz, rfl⟩
  have e := Lib.hid (show decide ((0 : Int) ≤ z) = decide (a ∈ l) from decide_eq_decide.mpr hz)
  clear hz
  go_wp2_with fail
  go_ret
  exact ⟨by rw [← e.out]; rfl, rfl⟩

/-! ### Len -/
theorem plen_nil (w : World) : Calls Tryz.prog 140 #[.pointer none] w fun e w' => e = .returned (.int .i64 0) ∧ w = w' := by
  go_enter Tryz.func140, Tryz.ntmps140
  go_wp2
  go_ret
  exact ⟨rfl, rfl⟩
theorem plen_any {P B p c : Nat} {v : Value} {L : List Q} (w : World) (h : Pt w B p v c L) (g : GoodP P c L) (hP : P ≤ 256) :
    Calls Tryz.prog 140 #[ptr p] w fun e w' => e = .returned (.int .i64 (lenL L : Int)) ∧ Kept Old w w' := by
  have hn : L.length ≤ 32 := by have := g.len; omega
  have hf := freeL_len g
  have HT := Lib.hid h
  have HG := Lib.hid g
  obtain ⟨A, cc, rfl, r, _, _⟩ := h.own.rs
  have HR := Lib.hid r
  have c1 := h.c1
  obtain ⟨n, hln⟩ : ∃ n, L.length = n := ⟨_, rfl⟩
  rw [hln] at c1 HR hn HT hf
  have HL := Lib.hid hln
  clear h g r hln
  go_enter Tryz.func140, Tryz.ntmps140
  go_wp2_with fail
  go_loopw [3, 13] (fun s3 i wr => ∃ k : Nat, k ≤ n ∧ i = .int .i64 (k : Int) ∧ s3 = .int .i64 ((freeL (L.take k)).length : Int) ∧ Hid (Kept Old w wr)) (fun _ i _ => n - (intOf i).toNat)
  case atStart => exact ⟨0, by omega, rfl, by simp [freeL], Lib.hid (Kept.refl _ _)⟩
  case round =>
    obtain ⟨k, hk, rfl, rfl, K⟩ := hrel
    rename World => W
    have d1 := (HT.out.old K.out).c1
    clear c1
    by_cases c : k < n
    · obtain ⟨g, o, x, rfl, _, hx, a0, a1, a2⟩ := (HR.out.old K.out).getQ c
      have e := freeL_take hx
      have e' := Lib.hid (show ((freeL (L.take (k + 1))).length : Int) = ((freeL (L.take k)).length : Int) + (x.free.length : Int) by rw [e, List.length_append]; omega)
      have bnd := freeL_len (HG.out.sub (List.take_sublist (k + 1) L))
      have tl : (L.take (k + 1)).length = k + 1 := by rw [List.length_take, HL.out]; omega
      rw [tl, e, List.length_append] at bnd
      clear e tl hx
      go_wp2_with fail
      refine ⟨⟨k + 1, by omega, by go_num, by rw [e'.out], Lib.hid (K.out.alloc _)⟩, ?_⟩
      simp [intOf]; omega
    · obtain rfl : k = n := by omega
      have P1 := Lib.hid (show lenL L = (freeL (L.take k)).length by unfold lenL; rw [← HL.out, List.take_length])
      go_wp2_with fail
      go_ret
      exact ⟨by rw [P1.out]; rfl, K.out⟩

/-! ### Spans -/

/-! ### Free -/
theorem free_nil {a : Value} (w : World) : Calls Tryz.prog 115 #[.pointer none, a] w fun e w' => e = .returned (.slice none 0 0) ∧ w = w' := by
  go_enter Tryz.func115, Tryz.ntmps115
  go_wp2
  go_ret
  exact ⟨rfl, rfl⟩
theorem free_na {p : Nat} (w : World) : Calls Tryz.prog 115 #[ptr p, .pointer none] w fun e w' => e = .returned (.slice none 0 0) ∧ w = w' := by
  go_enter Tryz.func115, Tryz.ntmps115
  go_wp2
  go_ret
  exact ⟨rfl, rfl⟩
theorem walk_some {p g : Nat} {ws l : List Nat} {h : Nat} (m : Int) (w : World) (a : Ar w p g ws) (c : Ch ws h l) (hm : (l.length : Int) ≤ m) (b1 : m ≤ 9223372036854775807) :
    Calls Tryz.prog 69 #[ptr p, .int .i64 (h : Int), .int .i64 m] w fun e w' => ∃ v, e = .returned (.tuple #[v, .int .i64 0]) ∧ MadeI (NI l) w v w' := by
  refine (walk_any h m w a c.le (by omega) b1).mono ?_
  intro e w' P
  rw [c.walk, if_pos (by omega)] at P
  rcases P with ⟨l', v, e1, rfl, M⟩ | ⟨e1, _⟩
  · obtain rfl := Option.some.inj e1
    exact ⟨v, rfl, M⟩
  · cases e1
theorem make_ints (w : World) (B n : Nat) (hn : n ≤ 3000) (hb : B ≤ w.heap.size) :
    ∃ w', (Instr.makeSlice 35 (.int .i64 0) (.int .i64 (n : Int))).run Tryz.prog w = .ok (.slice (some ⟨w.heap.size, 0, none⟩) 0 n) w' ∧ OwI w' B (.slice (some ⟨w.heap.size, 0, none⟩) 0 n) 0 [] ∧ Kept Old w w' := by
  obtain ⟨i0, hi, hz0, hz1, hz2⟩ := info_parts Tryz.intInfo1
  obtain ⟨w', hrun, r1, r2⟩ := run_make_own (P := Tryz.prog) w B 35 3 i0 _ 1 Tryz.underlying35 hi hz0 hz1 .i64 .i64 n (by rw [hz2]; omega) (by simp only [maxLen]; omega) hb
  exact ⟨w', hrun, ⟨r1, fun _ h => by cases h⟩, Kept.grown (Kept.refl _ _) r2 (fun g e _ => by cases e)⟩
end Go.Proofs.YtcndilpaijapkaaGreat.Prt
/- What Free and Take of package pool answer. Own work; each is proved by a walk through the landed text. -/
namespace Go.Proofs.YtcndilpaijapkaaGreat.Prt
open Go.ChangeShapes Go.WideShapes Go.ChangeAt Go.RowKit
set_option maxRecDepth 100000

set_option maxHeartbeats 1000000 in
theorem free_any {P B p c a g : Nat} {v : Value} {L : List Q} {ws : List Nat} (w : World) (h : Pt w B p v c L) (ar : Ar w a g ws) (gd : GoodP P c L) (hP : P ≤ 256) (ch : Chs ws L) :
    Calls Tryz.prog 115 #[ptr p, ptr a] w fun e w' => ∃ v', e = .returned v' ∧ MadeI (NI (freeL L)) w v' w' := by
  have hn : L.length ≤ 32 := by have := gd.len; omega
  have hf := freeL_len gd
  have HT := Lib.hid h
  have HA := Lib.hid ar
  have HG := Lib.hid gd
  have HC := Lib.hid ch
  obtain ⟨A, cc, rfl, r, _, _⟩ := h.own.rs
  have HR := Lib.hid r
  have PL := Lib.hid (plen_any w h gd hP)
  obtain ⟨n, hln⟩ : ∃ n, L.length = n := ⟨_, rfl⟩
  rw [hln] at HR hn HT hf
  have HL := Lib.hid hln
  obtain ⟨m, hm⟩ : ∃ m, lenL L = m := ⟨_, rfl⟩
  rw [hm] at PL
  have hm' : m ≤ 512 := by unfold lenL at hm; omega
  clear h ar gd r hln ch hm hf
  go_enter Tryz.func115, Tryz.ntmps115
  go_wp2_with fail
  refine PL.out.mono ?_
  rintro e w1 ⟨rfl, k1⟩
  obtain ⟨w2, hmk, O2, K2⟩ := make_ints w1 w.heap.size m (by omega) k1.size
  have K2 := Lib.hid (k1.trans K2)
  have O2 := Lib.hid O2
  have c1 := (HT.out.old K2.out).c1
  clear k1 PL
  go_wp2_with fail
  clear hmk
  go_loopw [5, 24] (fun s5 i wr => ∃ (k cp : Nat) (B2 : Option Addr), k ≤ n ∧ i = .int .i64 (k : Int) ∧ s5 = .slice B2 (freeL (L.take k)).length cp ∧ Hid (OwI wr w.heap.size (.slice B2 (freeL (L.take k)).length cp) (freeL (L.take k)).length (NI (freeL (L.take k)))) ∧ Hid (Kept Old w wr)) (fun _ i _ => n - (intOf i).toNat)
  case atStart => exact ⟨0, m, some ⟨w1.heap.size, 0, none⟩, by omega, rfl, by simp [freeL], by simpa [freeL, NI] using O2, K2⟩
  case round =>
    obtain ⟨k, cp, B2, hk, rfl, rfl, O, K⟩ := hrel
    rename World => W
    have d1 := (HT.out.old K.out).c1
    clear c1
    by_cases c : k < n
    · obtain ⟨g, o, x, rfl, _, hx, a0, a1, a2⟩ := (HR.out.old K.out).getQ c
      have e := freeL_take hx
      have bnd := freeL_len (HG.out.sub (List.take_sublist (k + 1) L))
      have tl : (L.take (k + 1)).length = k + 1 := by rw [List.length_take, HL.out]; omega
      have xm := List.mem_of_getElem? hx
      have xf := HG.out.few xm
      have pp := per_pos HG.out.cls
      rw [tl, e, List.length_append] at bnd
      have e1 := Lib.hid e
      have e2 := Lib.hid (show (freeL (L.take (k + 1))).length = (freeL (L.take k)).length + x.free.length by rw [e, List.length_append])
      have KW := Lib.hid (K.out.alloc (.cells #[.int .i64 (x.page : Int), .int .i64 (headQ x.free : Int), .int .i64 (x.free.length : Int)] 197))
      have OW := Lib.hid (O.out.alloc (.cells #[.int .i64 (x.page : Int), .int .i64 (headQ x.free : Int), .int .i64 (x.free.length : Int)] 197))
      have WS := Lib.hid (walk_some (x.free.length : Int) _ (HA.out.kept KW.out (fun x => x) (fun x => x)) (HC.out x xm) (Int.le_refl _) (by omega))
      clear hx xm e tl
      go_wp2_with fail
      refine WS.out.mono ?_
      rintro e w3 ⟨v3, rfl, A3, n3, c3, rfl, r3, hc3, ⟨hA3, hnew⟩, k3⟩
      have n3e : n3 = x.free.length := by have := r3.lenN; omega
      subst n3e
      have K3 := Lib.hid (KW.out.trans k3)
      have O3 := Lib.hid (OW.out.old k3)
      have R3 := Lib.hid r3
      have hA3' := Lib.hid (show A3 = none → x.free.length = 0 ∧ c3 = 0 from fun e => ⟨by have := hA3 e; omega, hA3 e⟩)
      have k3' := Lib.hid k3
      clear k3 r3 hA3 hnew WS
      go_wp2_with (at_builtin; refine app_wpI rfl (.tmp 37) (.tmp 38) rfl rfl w.heap.size (.slice B2 (freeL (L.take k)).length cp) (freeL (L.take k)).length (NI (freeL (L.take k))) rfl O3.out A3 x.free.length c3 (NI x.free) rfl R3.out hA3'.out (by omega) (by omega) K3.out.size _ rfl _ rfl ?_; intro v4 w4 O4 k4 a4; obtain ⟨A4, c4, rfl, _⟩ := O4.out.rs; have K4 := Lib.hid (O3.out.step K3.out k4.out))
      refine ⟨⟨k + 1, c4, A4, by omega, by go_num, by rw [e2.out], by rw [e2.out, e1.out, NI_append]; exact O4, K4⟩, ?_⟩
      simp [intOf]; omega
    · obtain rfl : k = n := by omega
      have P1 : MadeI (NI (freeL L)) w (.slice B2 (freeL (L.take k)).length cp) W := made_endI (by have := O.out; rw [← HL.out, List.take_length] at this; rw [← HL.out, List.take_length]; exact this) K.out
      have P1 := Lib.hid P1
      go_wp2_with fail
      go_ret
      exact ⟨_, rfl, P1.out⟩

/-! ### Take -/
theorem take_nil {a : Value} (w : World) : Calls Tryz.prog 131 #[.pointer none, a] w fun e w' => e = .returned (.tuple #[.int .i64 0, .int .i64 2]) ∧ w = w' := by
  go_enter Tryz.func131, Tryz.ntmps131
  go_wp2
  go_ret2
  exact ⟨rfl, rfl⟩
theorem take_na {p : Nat} (w : World) : Calls Tryz.prog 131 #[ptr p, .pointer none] w fun e w' => e = .returned (.tuple #[.int .i64 0, .int .i64 2]) ∧ w = w' := by
  go_enter Tryz.func131, Tryz.ntmps131
  go_wp2
  go_ret2
  exact ⟨rfl, rfl⟩
theorem CS_set : ∀ (l : List S) (k : Nat) (x : S), CS (l.set k x) = (((CS l).set (k * 3) (.int .i64 x.a)).set (k * 3 + 1) (.int .i64 x.n)).set (k * 3 + 2) (.int .i64 x.c) := by
  intro l
  induction l with
  | nil => intro k x; simp [CS]
  | cons y t ih =>
    intro k x
    cases k with
    | zero => rfl
    | succ k =>
      rw [show (k + 1) * 3 = k * 3 + 3 by omega]
      simp only [List.set_cons_succ, CS, ih, show k * 3 + 3 + 1 = k * 3 + 1 + 3 by omega, show k * 3 + 3 + 2 = k * 3 + 2 + 3 by omega]
/-- Head and number of the k-th span are written. -/
theorem OwS.put2 {w : World} {B g n c : Nat} {l : List S} (h : OwS w B (.slice (some ⟨g, 0, none⟩) n c) n l) {k : Nat} {x : S} (hx : l[k]? = some x) (y z : Int) (hy : in64S y) (hz : in64S z) :
    OwS ((w.setCell ⟨g, k * 3 + 1, none⟩ (.int .i64 y)).setCell ⟨g, k * 3 + 2, none⟩ (.int .i64 z)) B (.slice (some ⟨g, 0, none⟩) n c) n (l.set k ⟨x.a, y, z⟩) := by
  rcases h.blk with ⟨e, _⟩ | ⟨g', c', r, e, hb, b, hr, hn, hm⟩
  · cases e
  · injection e with e1 e2 e3
    injection e1 with e1
    injection e1 with e1
    subst e1
    subst e3
    have hl := h.len
    have hk := (List.getElem?_eq_some_iff.1 hx).1
    have b2 := (b.put (k * 3 + 1) (.int .i64 y)).put (k * 3 + 2) (.int .i64 z)
    have e0 : (CS l).set (k * 3) (.int .i64 x.a) = CS l := by
      have h0 := (CS_get l k x hx).1
      obtain ⟨q1, q2⟩ := List.getElem?_eq_some_iff.1 h0
      rw [← q2]
      exact List.set_getElem_self q1
    have ll := CS_length l
    have e : ((CS l ++ r).set (k * 3 + 1) (.int .i64 y)).set (k * 3 + 2) (.int .i64 z) = CS (l.set k ⟨x.a, y, z⟩) ++ r := by
      rw [CS_set]
      simp only [e0]
      rw [List.set_append_left _ _ (by omega), List.set_append_left _ _ (by rw [List.length_set]; omega)]
    rw [e] at b2
    refine OwS.ofBlk hb b2 (by rw [List.length_set]; exact hl) hr hn hm (fun s hs => ?_)
    rcases mem_set hs with ⟨rfl, _⟩ | ⟨j, _, hj⟩
    · exact ⟨(h.fit x (List.mem_of_getElem? hx)).1, hy, hz⟩
    · exact h.fit s (List.mem_of_getElem? hj)
theorem SQ_set {L : List Q} {k : Nat} {x y : Q} (hp : y.page = x.page) : (SQ L).set k ⟨(toS x).a, ((headQ y.free : Nat) : Int), ((y.free.length : Nat) : Int)⟩ = SQ (L.set k y) := by
  unfold SQ
  rw [List.map_set]
  congr 1
  unfold toS
  rw [hp]
/-- The slice of a pool with spans, by its block. -/
theorem Pt.blk {w : World} {B p : Nat} {v : Value} {c : Nat} {L : List Q} (h : Pt w B p v c L) (hL : 0 < L.length) : ∃ g cc, v = .slice (some ⟨g, 0, none⟩) L.length cc ∧ g ≠ p ∧ g < w.heap.size ∧ ∀ i, w.frozen? ⟨g, i, none⟩ = false := by
  rcases h.own.blk with ⟨_, e⟩ | ⟨g, cc, r, rfl, hb, b, hr, hn, hm⟩
  · omega
  · exact ⟨g, cc, rfl, fun e => h.ne (by rw [e]; rfl), b.lt, fun i => b.frozen i⟩
/-- Behind such a write. -/
theorem Pt.put2 {w : World} {B p g c cc : Nat} {L : List Q} (h : Pt w B p (.slice (some ⟨g, 0, none⟩) L.length cc) c L) {k : Nat} {x y : Q} (hx : L[k]? = some x) (hp : y.page = x.page) (hy : headQ y.free ≤ 100000) (hz : y.free.length ≤ 100000) :
    Pt ((w.setCell ⟨g, k * 3 + 1, none⟩ (.int .i64 (headQ y.free : Int))).setCell ⟨g, k * 3 + 2, none⟩ (.int .i64 (y.free.length : Int))) B p (.slice (some ⟨g, 0, none⟩) L.length cc) c (L.set k y) ∧ Kept (Only g) w ((w.setCell ⟨g, k * 3 + 1, none⟩ (.int .i64 (headQ y.free : Int))).setCell ⟨g, k * 3 + 2, none⟩ (.int .i64 (y.free.length : Int))) := by
  have K : Kept (Only g) w ((w.setCell ⟨g, k * 3 + 1, none⟩ (.int .i64 (headQ y.free : Int))).setCell ⟨g, k * 3 + 2, none⟩ (.int .i64 (y.free.length : Int))) := (only_setCell _ _ _ _).trans (only_setCell _ _ _ _)
  have o := h.own.put2 (k := k) (x := toS x) (by rw [List.getElem?_map, hx]; rfl) ((headQ y.free : Nat) : Int) ((y.free.length : Nat) : Int) ⟨by omega, by omega⟩ ⟨by omega, by omega⟩
  rw [SQ_set hp] at o
  have ne : p ≠ g := fun e => h.ne (by rw [e]; rfl)
  exact ⟨⟨h.box.kept K ne, by rw [List.length_set]; exact o, h.low⟩, K⟩
/-- What Take leaves. -/
def TakePost (B p a g : Nat) (v : Value) (c : Nat) (L : List Q) (ws : List Nat) (w : World) (e : Ending) (w' : World) : Prop :=
  e = .returned (.tuple #[.int .i64 (takeA L), .int .i64 (takeC L)]) ∧ Pt w' B p v c (takeL L) ∧ Ar w' a g ws ∧ Chs ws (takeL L) ∧ Kept (fun k => some k = v.ownBlock) w w'
set_option maxHeartbeats 2000000 in
theorem take_any {P B p c a g : Nat} {v : Value} {L : List Q} {ws : List Nat} (w : World) (h : Pt w B p v c L) (ar : Ar w a g ws) (gd : GoodP P c L) (hP : P ≤ 256) (ch : Chs ws L) :
    Calls Tryz.prog 131 #[ptr p, ptr a] w (TakePost B p a g v c L ws w) := by
  have hn : L.length ≤ 32 := by have := gd.len; omega
  have hb := ar.big
  have HT := Lib.hid h
  have HA := Lib.hid ar
  have HG := Lib.hid gd
  have HC := Lib.hid ch
  by_cases hL : L.length = 0
  · obtain rfl : L = [] := List.eq_nil_of_length_eq_zero hL
    have c1 := h.c1
    obtain ⟨A, cc, rfl, r, _, _⟩ := h.own.rs
    have c1 : w.cell? ⟨p, 1, none⟩ = some (.slice A 0 cc) := c1
    have P1 : TakePost B p a g (.slice A 0 cc) c [] ws w (.returned (.tuple #[.int .i64 0, .int .i64 2])) w := ⟨rfl, h, ar, ch, Kept.refl _ _⟩
    have P1 := Lib.hid P1
    clear h ar gd r hL ch
    go_enter Tryz.func131, Tryz.ntmps131
    go_wp2_with fail
    go_loopw [22] (fun i wr => i = .int .i64 0 ∧ w = wr) (fun i _ => 0)
    case atStart => exact ⟨rfl, rfl⟩
    case round =>
      obtain ⟨rfl, rfl⟩ := hrel
      go_wp2_with fail
      go_ret2
      exact P1.out
  obtain ⟨gb, cc, rfl, nep, glt, gfz⟩ := h.blk (by omega)
  have c1 := h.c1
  obtain ⟨A, cc', e, r, _, _⟩ := h.own.rs
  injection e with e1 e2 e3
  subst e1
  subst e3
  have HR := Lib.hid r
  have ng : gb ≠ g := fun e => h.own_ne ar.row.blk (by decide) (by rw [← e]; rfl)
  have na : gb ≠ a := fun e => h.own_ne ar.box (by decide) (by rw [← e]; rfl)
  obtain ⟨n, hln⟩ : ∃ n, L.length = n := ⟨_, rfl⟩
  have FZ := Lib.hid gfz
  rw [hln] at HR hn HT c1 ⊢
  have HL := Lib.hid hln
  have P0 := Lib.hid (show ∀ w', takeQ L = none → w = w' → TakePost B p a g (.slice (some ⟨gb, 0, none⟩) n cc) c L ws w (.returned (.tuple #[.int .i64 0, .int .i64 2])) w' from fun w' e e' => by
    subst e'
    have q1 : takeA L = 0 := by unfold takeA; rw [e]
    have q2 : takeC L = 2 := by unfold takeC; rw [e]
    have q3 : takeL L = L := by unfold takeL; rw [e]
    unfold TakePost
    rw [q1, q2, q3]
    exact ⟨rfl, HT.out, HA.out, HC.out, Kept.refl _ _⟩)
  have h' : Pt w B p (.slice (some ⟨gb, 0, none⟩) L.length cc) c L := h
  have P1 := Lib.hid (show ∀ k pg b r, L[k]? = some ⟨pg, b :: r⟩ → takeQ L = some (b, L.set k ⟨pg, r⟩) → TakePost B p a g (.slice (some ⟨gb, 0, none⟩) n cc) c L ws w (.returned (.tuple #[.int .i64 (b : Int), .int .i64 0])) ((w.setCell ⟨gb, k * 3 + 1, none⟩ (.int .i64 (headQ r : Int))).setCell ⟨gb, k * 3 + 2, none⟩ (.int .i64 (r.length : Int))) from fun k pg b r hk e => by
    have q1 : takeA L = (b : Nat) := by unfold takeA; rw [e]
    have q2 : takeC L = 0 := by unfold takeC; rw [e]
    have q3 : takeL L = L.set k ⟨pg, r⟩ := by unfold takeL; rw [e]
    obtain ⟨t1, t2, t3⟩ := HC.out.take hk
    have fw := HG.out.few (List.mem_of_getElem? hk)
    have pp := per_pos HG.out.cls
    obtain ⟨u1, u2⟩ := h'.put2 (y := ⟨pg, r⟩) hk rfl (by simp only []; omega) (by simp only [List.length_cons] at fw; simp only []; omega)
    unfold TakePost
    rw [q1, q2, q3, ← hln]
    exact ⟨rfl, u1, HA.out.kept u2 (fun e => na e.symm) (fun e => ng e.symm), t3, u2.mono fun i e => by rw [show i = gb from e]; rfl⟩)
  clear h h' ar gd r hln ch gfz hL
  go_enter Tryz.func131, Tryz.ntmps131
  go_wp2_with fail
  go_loopw [22] (fun i wr => ∃ k : Nat, k ≤ n ∧ i = .int .i64 (k : Int) ∧ Hid (∀ y ∈ L.take k, y.free = []) ∧ w = wr) (fun i _ => n - (intOf i).toNat)
  case atStart => exact ⟨0, by omega, rfl, Lib.hid (fun y hy => by simp at hy), rfl⟩
  case round =>
    obtain ⟨k, hk, rfl, HB, rfl⟩ := hrel
    by_cases ck : k < n
    · obtain ⟨g', o', x, e, _, hx, a0, a1, a2⟩ := HR.out.getQ ck
      injection e with e
      injection e with e1 e2
      subst e1
      subst e2
      rw [Nat.zero_add] at a0 a1 a2
      obtain ⟨pg, fr⟩ := x
      have f1 := FZ.out (k * 3 + 1)
      have f2 := FZ.out (k * 3 + 2)
      cases fr with
      | nil =>
        have hs := Lib.hid (show ∀ y ∈ L.take (k + 1), y.free = [] from fun y hy => by
          rw [take_at hx] at hy
          rcases List.mem_append.1 hy with hy | hy
          · exact HB.out y hy
          · obtain rfl := List.mem_singleton.1 hy; rfl)
        have a2 : w.cell? ⟨gb, k * 3 + 2, none⟩ = some (.int .i64 0) := a2
        clear hx
        go_wp2_with fail
        refine ⟨⟨k + 1, by omega, by go_num, hs, by first | trivial | rfl⟩, ?_⟩
        simp [intOf]; omega
      | cons b r =>
        obtain ⟨t1, t2, t3⟩ := HC.out.take hx
        have fw := HG.out.few (List.mem_of_getElem? hx)
        have pp := per_pos HG.out.cls
        have PO := Lib.hid (pop_ok b (headQ r) w HA.out t1 t2)
        have P2 := Lib.hid (P1.out k pg b r hx (takeQ_at HB.out hx))
        have a1 : w.cell? ⟨gb, k * 3 + 1, none⟩ = some (.int .i64 ((b : Int) + 1)) := a1
        have a2 : w.cell? ⟨gb, k * 3 + 2, none⟩ = some (.int .i64 ((r.length : Int) + 1)) := a2
        have z0 : (((r.length : Int) + 1) == 0) = false := by simp; omega
        have fw' : r.length ≤ 100 := by simp only [List.length_cons] at fw; omega
        clear hx t1 t2 t3 fw P0 P1
        go_wp2_with fail
        refine PO.out.mono ?_
        rintro e w' ⟨rfl, rfl⟩
        go_wp2_with fail
        go_ret2
        exact P2.out
    · obtain rfl : k = n := by omega
      have P2 := Lib.hid (P0.out w (takeQ_none fun y hy => HB.out y (by rw [← HL.out, List.take_length]; exact hy)) rfl)
      clear P0 P1
      go_wp2_with fail
      go_ret2
      exact P2.out
end Go.Proofs.YtcndilpaijapkaaGreat.Prt
