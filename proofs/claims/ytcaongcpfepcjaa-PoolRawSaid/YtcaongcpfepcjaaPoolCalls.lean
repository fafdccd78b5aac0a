/-
  What New, place, lay and find of package pool answer, of a pool whose spans are known (Pt). Own work; each is proved by a walk through the landed text.
-/
import Derived.Test.YtcaongcpfepcjaaRows
import Derived.Test.YtcaongcpfepcjaaPartMem
import Derived.Test.YtcaongcpfepcjaaPartCopy
import Derived.Test.YtcaongcpfepcjaaPoolMath
import Derived.Test.YtcaongcpfepcjaaSizeCalls
import Derived.Test.YtcaongcpfepcjaaChainCalls
import Derived.WalkKit
import Derived.ProofKit
import Derived.OpenShut
import Derived.Outline
import Derived.Deep.Light
import Derived.Deep.LoopGhost
import Derived.IntWalk
import Derived.WalkMore
namespace Go.Proofs.Ytcaongcpfepcjaa.Prt
open Go.ChangeShapes Go.WideShapes Go.ChangeAt Go.RowKit
set_option maxRecDepth 100000

/-- A span as the pool has it. -/
def toS (x : Q) : S := ⟨((x.page : Nat) : Int), ((headQ x.free : Nat) : Int), ((x.free.length : Nat) : Int)⟩
abbrev SQ (L : List Q) : List S := L.map toS
/-- At p lies a pool of class c whose spans are those of L; v is its slice; its blocks are from B on. -/
structure Pt (w : World) (B p : Nat) (v : Value) (c : Nat) (L : List Q) : Prop where
  box : Blk w p 61 [.int .i64 (c : Int), v]
  own : OwS w B v L.length (SQ L)
  low : B ≤ p
theorem Pt.c0 {w : World} {B p : Nat} {v : Value} {c : Nat} {L : List Q} (h : Pt w B p v c L) : w.cell? ⟨p, 0, none⟩ = some (.int .i64 (c : Int)) := h.box.cell 0
theorem Pt.c1 {w : World} {B p : Nat} {v : Value} {c : Nat} {L : List Q} (h : Pt w B p v c L) : w.cell? ⟨p, 1, none⟩ = some v := h.box.cell 1
theorem Pt.kept {D : Nat → Prop} {w w' : World} {B p : Nat} {v : Value} {c : Nat} {L : List Q} (h : Pt w B p v c L) (k : Kept D w w') (hp : ¬ D p) (hg : ∀ g, v.ownBlock = some g → ¬ D g) : Pt w' B p v c L := ⟨h.box.kept k hp, h.own.kept k hg, h.low⟩
theorem Pt.old {w w' : World} {B p : Nat} {v : Value} {c : Nat} {L : List Q} (h : Pt w B p v c L) (k : Kept Old w w') : Pt w' B p v c L := h.kept k (fun x => x) (fun _ _ x => x)
theorem Pt.own_ne {w : World} {B p : Nat} {v : Value} {c : Nat} {L : List Q} (h : Pt w B p v c L) {b : Nat} {t : TypeId} {cs : List Value} (k : Blk w b t cs) (ht : t ≠ 67) : v.ownBlock ≠ some b := by
  intro e
  rcases h.own.blk with ⟨rfl, _⟩ | ⟨g, c, r, rfl, _, bb, _⟩
  · cases e
  · have : g = b := by simpa [Value.ownBlock] using e
    subst this
    exact k.ne bb ht rfl
theorem Pt.ne {w : World} {B p : Nat} {v : Value} {c : Nat} {L : List Q} (h : Pt w B p v c L) : v.ownBlock ≠ some p := h.own_ne h.box (by decide)
/-- The k-th span's cells. -/
theorem RsS.getQ {w : World} {A : Option Addr} {n : Nat} {L : List Q} (h : RsS w A n (SQ L)) {k : Nat} (hk : k < n) : ∃ (g o : Nat) (x : Q), A = some ⟨g, o, none⟩ ∧ g < w.heap.size ∧ L[k]? = some x ∧ w.cell? ⟨g, o + k * 3, none⟩ = some (.int .i64 (x.page : Int)) ∧ w.cell? ⟨g, o + k * 3 + 1, none⟩ = some (.int .i64 (headQ x.free : Int)) ∧ w.cell? ⟨g, o + k * 3 + 2, none⟩ = some (.int .i64 (x.free.length : Int)) := by
  obtain ⟨g, o, x, h1, h2, h3, _, h4, h5, h6⟩ := h.get hk
  rw [List.getElem?_map] at h3
  obtain ⟨y, hy, rfl⟩ := Option.map_eq_some_iff.1 h3
  exact ⟨g, o, y, h1, h2, hy, h4, h5, h6⟩

/-! ### New -/
theorem pnew_no (c : Int) (w : World) (h : c < 0 ∨ 3 < c) : Calls Try.prog 10 #[.int .i64 c] w fun e w' => e = .returned (.pointer none) ∧ w = w' := by
  have e := smallB_out c h
  go_enter Try.func10, Try.ntmps10
  go_wp2_with fail
  refine (small_any _ _).mono ?_
  rintro e w' ⟨rfl, rfl⟩
  go_wp2_with fail
  go_ret
  exact ⟨rfl, rfl⟩
/-- A new pool. -/
def PNewPost (B c : Nat) (w : World) (e : Ending) (w' : World) : Prop := ∃ p, e = .returned (ptr p) ∧ Pt w' B p (.slice none 0 0) c [] ∧ Kept Old w w' ∧ w.heap.size ≤ p
theorem pnew_yes (B c : Nat) (w : World) (h : c < 4) (hB : B ≤ w.heap.size) : Calls Try.prog 10 #[.int .i64 (c : Int)] w (PNewPost B c w) := by
  have R : PNewPost B c w (.returned (ptr w.heap.size)) (w.alloc (.cells #[.int .i64 (c : Int), .slice none 0 0] 61)) :=
    ⟨w.heap.size, rfl, ⟨Blk.new w _ _, OwS.nil _ _, hB⟩, (Kept.refl _ _).alloc _, Nat.le_refl _⟩
  have R := Lib.hid R
  have e := smallB_in (c : Int) (by omega) (by omega)
  go_enter Try.func10, Try.ntmps10
  go_wp2_with fail
  refine (small_any _ _).mono ?_
  rintro e w' ⟨rfl, rfl⟩
  go_wp2_with fail
  go_ret
  exact R.out

/-! ### place -/
/-- What place answers. -/
def PlcPost (L : List Q) (q : Nat) (w : World) (e : Ending) (w' : World) : Prop := ((∃ i : Nat, e = .returned (.tuple #[.int .i64 (i : Int), .bool true]) ∧ placeQ q L = some i) ∨ (e = .returned (.tuple #[.int .i64 0, .bool false]) ∧ placeQ q L = none)) ∧ Kept Old w w'
theorem plc_any {P B p c : Nat} {v : Value} {L : List Q} (q : Nat) (w : World) (h : Pt w B p v c L) (g : GoodP P c L) (hP : P ≤ 256) (hq : q ≤ 256) :
    Calls Try.prog 25 #[ptr p, .int .i64 (q : Int)] w (PlcPost L q w) := by
  have hn : L.length ≤ 256 := by have := g.len; omega
  have HT := Lib.hid h
  have HG := Lib.hid g
  obtain ⟨A, cc, rfl, r, _, _⟩ := h.own.rs
  have HR := Lib.hid r
  have c1 := h.c1
  obtain ⟨n, hln⟩ : ∃ n, L.length = n := ⟨_, rfl⟩
  rw [hln] at c1 HR hn HT
  have HL := Lib.hid hln
  clear h g r hln
  go_enter Try.func25, Try.ntmps25
  go_wp2_with fail
  go_loopw [13] (fun i wr => ∃ k : Nat, k ≤ n ∧ i = .int .i64 (k : Int) ∧ Hid (∀ y ∈ L.take k, y.page + 8 ≤ q) ∧ Hid (Kept Old w wr)) (fun i _ => n - (intOf i).toNat)
  case atStart => exact ⟨0, by omega, rfl, Lib.hid (fun y hy => by simp at hy), Lib.hid (Kept.refl _ _)⟩
  case round =>
    obtain ⟨k, hk, rfl, HB, K⟩ := hrel
    rename World => W
    have d1 := (HT.out.old K.out).c1
    clear c1
    by_cases c : k < n
    · obtain ⟨g, o, x, rfl, _, hx, a0, a1, a2⟩ := (HR.out.old K.out).getQ c
      have xp := HG.out.inP x (List.mem_of_getElem? hx)
      have hx := Lib.hid hx
      by_cases d : q + 8 ≤ x.page
      · have P1 : ∀ w', Kept Old W w' → PlcPost L q w (.returned (.tuple #[.int .i64 (k : Int), .bool true])) w' := fun w' k' => ⟨.inl ⟨k, rfl, placeQ_here hx.out HB.out d⟩, K.out.trans k'⟩
        have P1 := Lib.hid P1
        go_wp2_with fail
        go_ret2
        exact P1.out _ ((Kept.refl _ _).alloc _)
      · by_cases d2 : q < x.page + 8
        · have P1 : ∀ w', Kept Old W w' → PlcPost L q w (.returned (.tuple #[.int .i64 0, .bool false])) w' := fun w' k' => ⟨.inr ⟨rfl, placeQ_hit hx.out HB.out d d2⟩, K.out.trans k'⟩
          have P1 := Lib.hid P1
          go_wp2_with fail
          go_ret2
          exact P1.out _ ((Kept.refl _ _).alloc _)
        · have hs := Lib.hid (show ∀ y ∈ L.take (k + 1), y.page + 8 ≤ q from fun y hy => by
            rw [take_at hx.out] at hy
            rcases List.mem_append.1 hy with hy | hy
            · exact HB.out y hy
            · obtain rfl := List.mem_singleton.1 hy; omega)
          go_wp2_with fail
          refine ⟨⟨k + 1, by omega, by go_num, hs, Lib.hid (K.out.alloc _)⟩, ?_⟩
          simp [intOf]; omega
    · obtain rfl : k = n := by omega
      have P1 : PlcPost L q w (.returned (.tuple #[.int .i64 (k : Int), .bool true])) W := ⟨.inl ⟨k, rfl, by rw [← HL.out]; exact placeQ_end (by rw [HL.out]; exact HB.out)⟩, K.out⟩
      have P1 := Lib.hid P1
      go_wp2_with fail
      go_ret2
      exact P1.out

/-! ### lay -/
set_option maxHeartbeats 1000000 in
theorem lay_any {B p c a g : Nat} {v : Value} {L : List Q} {ws : List Nat} (q : Nat) (w : World) (h : Pt w B p v c L) (ar : Ar w a g ws) (hc : c < 4) (hl : q * 64 + 512 ≤ ws.length) :
    Calls Try.prog 26 #[ptr p, ptr a, .int .i64 (q : Int)] w fun e w' => ∃ vs, e = .returned (.tuple #[.int .i64 (headQ (allQ c q) : Int), .int .i64 0]) ∧ Laid c q ws 0 vs ∧ Ar w' a g vs ∧ Kept (Only g) w w' := by
  have hb := ar.big
  have HT := Lib.hid h
  have HA := Lib.hid ar
  have c0 := h.c0
  have e1 := perI_c hc
  have e2 := wordsI_c hc
  have pp := per_pos hc
  have wp := w_pos hc
  have wl := w_le hc
  have np : p ≠ g := h.box.ne ar.row.blk (by decide)
  have ng := h.own_ne ar.row.blk (by decide)
  have HN := Lib.hid ng
  have e1' := Lib.hid e1
  have e2' := Lib.hid e2
  have c0' := Lib.hid c0
  clear h ar ng e1 e2 c0
  go_enter Try.func26, Try.ntmps26
  have c0 := c0'.out
  go_wp2_with fail
  refine (per_any _ _).mono ?_
  rintro e w' ⟨rfl, rfl⟩
  rw [e1'.out]
  go_wp2_with fail
  go_loopw [9, 10] (fun s9 s10 wr => ∃ (k : Nat) (vs : List Nat), k ≤ perN c ∧ s10 = .int .i64 ((k : Int) - 1) ∧ s9 = .int .i64 (headQ ((allQ c q).drop k) : Int) ∧ Hid (Laid c q ws k vs) ∧ Hid (Ar wr a g vs) ∧ Hid (Kept (Only g) w wr)) (fun _ s10 _ => (intOf s10 + 1).toNat)
  case atStart =>
    refine ⟨perN c, ws, Nat.le_refl _, rfl, ?_, Lib.hid (Laid.start _ _ _), HA, Lib.hid (Kept.refl _ _)⟩
    rw [List.drop_eq_nil_of_le (by rw [allQ_length]; exact Nat.le_refl _)]
    rfl
  case round =>
    obtain ⟨k, vs, hk, rfl, rfl, LL, A1, K⟩ := hrel
    rename World => W
    have c0 := (HT.out.kept K.out np (fun gg e f => HN.out (by rw [e, show gg = g from f]))).c0
    cases k with
    | zero =>
      have LL0 := Lib.hid (show ∃ us, Ending.returned (.tuple #[.int .i64 (headQ ((allQ c q).drop 0) : Int), .int .i64 0]) = .returned (.tuple #[.int .i64 (headQ (allQ c q) : Int), .int .i64 0]) ∧ Laid c q ws 0 us ∧ Ar W a g us ∧ Kept (Only g) w W from ⟨vs, by simp, LL.out, A1.out, K.out⟩)
      go_wp2_with fail
      go_ret2
      exact LL0.out
    | succ k =>
      obtain ⟨h1, h2, h3, h4⟩ := LL.out.step hc hk hl
      have PO := Lib.hid (push_ok _ _ W A1.out h2 h1)
      have h4 := Lib.hid h4
      have h3 := Lib.hid h3
      have kk : ((k + 1 : Nat) : Int) - 1 = (k : Int) := by omega
      rw [kk]
      have m1 := mul_lt_of (w := wN c) hk
      have m2 := w_per hc
      have m3 : (k : Int) * ((wN c : Nat) : Int) = ((k * wN c : Nat) : Int) := by simp
      have m4 : IntKind.i64.wrap ((k : Int) * ((wN c : Nat) : Int)) = ((k * wN c : Nat) : Int) := by rw [m3]; exact IntWalk.i64_in _ (by omega)
      have m5 : IntKind.i64.wrap ((q : Int) * 64) = (q : Int) * 64 := IntWalk.i64_in _ (by omega)
      have m6 : IntKind.i64.wrap ((q : Int) * 64 + ((k * wN c : Nat) : Int)) = ((stk c q k : Nat) : Int) := by
        unfold stk
        rw [IntWalk.i64_in _ (by omega)]
        omega
      clear m3 h1 h2
      go_wp2_with fail
      refine (words_any _ _).mono ?_
      rintro e w' ⟨rfl, rfl⟩
      rw [e2'.out]
      go_wp2_with fail
      refine PO.out.mono ?_
      rintro e w1 ⟨rfl, a1, k1⟩
      have a1 := Lib.hid a1
      have k1 := Lib.hid k1
      clear m1 m2 m4 m5 m6
      go_wp2_with fail
      refine ⟨⟨k, _, by omega, by first | rfl | (congr 1; omega), ?_, h3, a1, Lib.hid (K.out.trans k1.out)⟩, ?_⟩
      · rw [h4.out]; rfl
      · simp [intOf]
end Go.Proofs.Ytcaongcpfepcjaa.Prt
