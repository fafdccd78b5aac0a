/-
  The document's own pool in memory (Rp), and what its All and Spans answer; the law's own parts. Own work; each is proved by a walk through the text.
-/
import Derived.Test.YtcaongcpfepcjaaRows
import Derived.Test.YtcaongcpfepcjaaRfMem
import Derived.Test.YtcaongcpfepcjaaPrMem
import Derived.Test.YtcaongcpfepcjaaPoolMath
import Derived.Test.YtcaongcpfepcjaaIntMem
import Derived.Test.YtcaongcpfepcjaaPoolFind
import Derived.Test.YtcaongcpfepcjaaPoolPut
import Derived.WalkKit
import Derived.ProofKit
import Derived.OpenShut
import Derived.Outline
import Derived.Deep.Light
import Derived.Deep.QuietTactic
import Derived.BigQuiet
import Derived.IntWalk
import Derived.RegionTactic
import Derived.Deep.RegionLaw
import Derived.ChangeAlike
import Derived.Deep.RegionHeld3
import Derived.Deep.RegionHeldLaw
namespace Go.Proofs.Ytcaongcpfepcjaa.Prt
open Go.ChangeShapes Go.WideShapes Go.ChangeAt Go.RowKit
set_option maxRecDepth 100000

/-- Each entry is a span of L: its page, a slice that reads as its free stacks. -/
structure Ents (W : World) (es : List Rf.R) (L : List Q) : Prop where
  len : es.length = L.length
  each : ∀ (k : Nat) (e : Rf.R) (x : Q), es[k]? = some e → L[k]? = some x → e.a = (x.page : Int) ∧ e.m = x.free.length ∧ RsI W e.A e.m (NI x.free) ∧ (e.A = none → e.c = 0) ∧ e.m ≤ e.c
theorem Ents.kept {D : Nat → Prop} {W W' : World} {es : List Rf.R} {L : List Q} (h : Ents W es L) (k : Kept D W W') (hd : ∀ e ∈ es, ∀ ad, e.A = some ad → ¬ D ad.block) : Ents W' es L :=
  ⟨h.len, fun i e x he hx => by
    obtain ⟨h1, h2, h3, h4, h5⟩ := h.each i e x he hx
    exact ⟨h1, h2, h3.kept k (hd e (List.mem_of_getElem? he)), h4, h5⟩⟩
/-- At q lies the document's pool of class c with the spans of L, of P pages; all that it reads lies in blocks of G. -/
structure Rp (W : World) (q c P : Nat) (L : List Q) (A : Option Addr) (cap : Nat) (es : List Rf.R) (G : Nat → Prop) : Prop where
  box : Blk W q 30 [.int .i64 (c : Int), .int .i64 (P : Int), .slice A L.length cap]
  rs : Rf.Rs W A L.length es
  sh : (A = none ∧ cap = 0) ∨ ∃ g o, A = some ⟨g, o, none⟩
  cp : L.length ≤ cap
  en : Ents W es L
  gq : G q
  gA : ∀ ad, A = some ad → G ad.block ∧ ad.block ≠ q
  gE : ∀ e ∈ es, ∀ ad, e.A = some ad → G ad.block ∧ ad.block ≠ q
  lt : ∀ b, G b → b < W.heap.size
def RpX (W : World) (q c P : Nat) (L : List Q) (G : Nat → Prop) : Prop := ∃ A cap es, Rp W q c P L A cap es G
theorem Rp.kept {D : Nat → Prop} {W W' : World} {q c P : Nat} {L : List Q} {A : Option Addr} {cap : Nat} {es : List Rf.R} {G : Nat → Prop} (h : Rp W q c P L A cap es G) (k : Kept D W W') (hd : ∀ b, G b → ¬ D b) : Rp W' q c P L A cap es G :=
  ⟨h.box.kept k (hd q h.gq), h.rs.kept k (fun ad e => hd _ (h.gA ad e).1), h.sh, h.cp, h.en.kept k (fun e he ad e' => hd _ (h.gE e he ad e').1), h.gq, h.gA, h.gE, fun b hb => Nat.lt_of_lt_of_le (h.lt b hb) k.size⟩
theorem Rp.old {W W' : World} {q c P : Nat} {L : List Q} {A : Option Addr} {cap : Nat} {es : List Rf.R} {G : Nat → Prop} (h : Rp W q c P L A cap es G) (k : Kept Old W W') : Rp W' q c P L A cap es G := h.kept k (fun _ _ x => x)
theorem RpX.kept {D : Nat → Prop} {W W' : World} {q c P : Nat} {L : List Q} {G : Nat → Prop} (h : RpX W q c P L G) (k : Kept D W W') (hd : ∀ b, G b → ¬ D b) : RpX W' q c P L G := by obtain ⟨A, cap, es, r⟩ := h; exact ⟨A, cap, es, r.kept k hd⟩
theorem RpX.old {W W' : World} {q c P : Nat} {L : List Q} {G : Nat → Prop} (h : RpX W q c P L G) (k : Kept Old W W') : RpX W' q c P L G := h.kept k (fun _ _ x => x)
theorem Rp.c0 {W : World} {q c P : Nat} {L : List Q} {A : Option Addr} {cap : Nat} {es : List Rf.R} {G : Nat → Prop} (h : Rp W q c P L A cap es G) : W.cell? ⟨q, 0, none⟩ = some (.int .i64 (c : Int)) := h.box.cell 0
theorem Rp.c1 {W : World} {q c P : Nat} {L : List Q} {A : Option Addr} {cap : Nat} {es : List Rf.R} {G : Nat → Prop} (h : Rp W q c P L A cap es G) : W.cell? ⟨q, 1, none⟩ = some (.int .i64 (P : Int)) := h.box.cell 1
theorem Rp.c2 {W : World} {q c P : Nat} {L : List Q} {A : Option Addr} {cap : Nat} {es : List Rf.R} {G : Nat → Prop} (h : Rp W q c P L A cap es G) : W.cell? ⟨q, 2, none⟩ = some (.slice A L.length cap) := h.box.cell 2
/-- The k-th span's cells. -/
theorem Rp.get {W : World} {q c P : Nat} {L : List Q} {A : Option Addr} {cap : Nat} {es : List Rf.R} {G : Nat → Prop} (h : Rp W q c P L A cap es G) {k : Nat} (hk : k < L.length) :
    ∃ (g o : Nat) (x : Q) (B : Option Addr) (cb : Nat) (e : Rf.R), A = some ⟨g, o, none⟩ ∧ g < W.heap.size ∧ L[k]? = some x ∧ es[k]? = some e ∧ e = ⟨(x.page : Int), B, x.free.length, cb⟩ ∧ W.cell? ⟨g, o + k * 2, none⟩ = some (.int .i64 (x.page : Int)) ∧ W.cell? ⟨g, o + k * 2 + 1, none⟩ = some (.slice B x.free.length cb) ∧ RsI W B x.free.length (NI x.free) ∧ (B = none → cb = 0) ∧ x.free.length ≤ cb := by
  obtain ⟨g, o, e, h1, h2, h3, _, _, h4, h5⟩ := h.rs.get hk
  obtain ⟨x, hx⟩ : ∃ x, L[k]? = some x := ⟨_, List.getElem?_eq_getElem hk⟩
  obtain ⟨i1, i2, i3, i4, i5⟩ := h.en.each k e x h3 hx
  obtain ⟨ea, eA, em, ec⟩ := e
  simp only at i1 i2 i3 i4 i5
  subst i1
  subst i2
  exact ⟨g, o, x, eA, ec, _, h1, h2, hx, h3, rfl, h4, h5, i3, i4, i5⟩

/-! ### All -/
set_option maxHeartbeats 1000000 in
theorem rall_any {q c P : Nat} {L : List Q} {G : Nat → Prop} (w : World) (h : RpX w q c P L G) (gd : GoodP P c L) (hP : P ≤ 256) :
    Calls Try.prog 38 #[ptr q] w fun e w' => ∃ v', e = .returned v' ∧ MadeI (NI (freeL L)) w v' w' := by
  obtain ⟨A, cap, es, h⟩ := h
  have hn : L.length ≤ 32 := by have := gd.len; omega
  have HR := Lib.hid h
  have HG := Lib.hid gd
  have c2 := h.c2
  obtain ⟨n, hln⟩ : ∃ n, L.length = n := ⟨_, rfl⟩
  rw [hln] at c2 hn
  have HL := Lib.hid hln
  clear h gd hln
  go_enter Try.func38, Try.ntmps38
  go_wp2_with fail
  go_loopw [3, 4] (fun s3 i wr => ∃ (k cp : Nat) (B2 : Option Addr), k ≤ n ∧ i = .int .i64 (k : Int) ∧ s3 = .slice B2 (freeL (L.take k)).length cp ∧ Hid (OwI wr w.heap.size (.slice B2 (freeL (L.take k)).length cp) (freeL (L.take k)).length (NI (freeL (L.take k)))) ∧ Hid (Kept Old w wr)) (fun _ i _ => n - (intOf i).toNat)
  case atStart => exact ⟨0, 0, none, by omega, rfl, by simp [freeL], by simpa [freeL, NI] using Lib.hid (OwI.nil w w.heap.size), Lib.hid (Kept.refl _ _)⟩
  case round =>
    obtain ⟨k, cp, B2, hk, rfl, rfl, O, K⟩ := hrel
    rename World => W
    have R1 := Lib.hid (HR.out.old K.out)
    have d2 := R1.out.c2
    rw [HL.out] at d2
    clear c2
    by_cases c : k < n
    · obtain ⟨g, o, x, B, cb, en, rfl, _, hx, _, _, a0, a1, rb, hB, hcb⟩ := R1.out.get (k := k) (by rw [HL.out]; exact c)
      have e := freeL_take hx
      have bnd := freeL_len (HG.out.sub (List.take_sublist (k + 1) L))
      have tl : (L.take (k + 1)).length = k + 1 := by rw [List.length_take, HL.out]; omega
      have xm := List.mem_of_getElem? hx
      have xf := HG.out.few xm
      have pp := per_pos HG.out.cls
      rw [tl, e, List.length_append] at bnd
      have e1 := Lib.hid e
      have e2 := Lib.hid (show (freeL (L.take (k + 1))).length = (freeL (L.take k)).length + x.free.length by rw [e, List.length_append])
      have RB := Lib.hid rb
      have hB' := Lib.hid (show B = none → x.free.length = 0 ∧ cb = 0 from fun e => ⟨by have := hB e; omega, hB e⟩)
      clear hx xm e tl rb hB R1
      go_wp2_with (at_builtin; refine app_wpI rfl (.tmp 14) (.tmp 22) rfl rfl w.heap.size (.slice B2 (freeL (L.take k)).length cp) (freeL (L.take k)).length (NI (freeL (L.take k))) rfl O.out B x.free.length cb (NI x.free) rfl RB.out hB'.out (by omega) (by omega) K.out.size _ rfl _ rfl ?_; intro v4 w4 O4 k4 a4; obtain ⟨A4, c4, rfl, _⟩ := O4.out.rs; have K4 := Lib.hid (O.out.step K.out k4.out))
      refine ⟨⟨k + 1, c4, A4, by omega, by go_num, by rw [e2.out], by rw [e2.out, e1.out, NI_append]; exact O4, K4⟩, ?_⟩
      simp [intOf]; omega
    · obtain rfl : k = n := by omega
      have P1 : MadeI (NI (freeL L)) w (.slice B2 (freeL (L.take k)).length cp) W := made_endI (by have := O.out; rw [← HL.out, List.take_length] at this; rw [← HL.out, List.take_length]; exact this) K.out
      have P1 := Lib.hid P1
      go_wp2_with fail
      go_ret
      exact ⟨_, rfl, P1.out⟩

/-! ### Spans -/
set_option maxHeartbeats 2000000 in
theorem rspans_any {q c P : Nat} {L : List Q} {G : Nat → Prop} (w : World) (h : RpX w q c P L G) (gd : GoodP P c L) (hP : P ≤ 256) :
    Calls Try.prog 40 #[ptr q] w fun e w' => ∃ v', e = .returned v' ∧ Pr.Made1 (spansL L) w v' w' := by
  obtain ⟨A, cap, es, h⟩ := h
  have hn : L.length ≤ 32 := by have := gd.len; omega
  have HR := Lib.hid h
  have HG := Lib.hid gd
  have c2 := h.c2
  obtain ⟨n, hln⟩ : ∃ n, L.length = n := ⟨_, rfl⟩
  rw [hln] at c2 hn
  have HL := Lib.hid hln
  clear h gd hln
  go_enter Try.func40, Try.ntmps40
  go_wp2_with fail
  go_loopw [3, 4] (fun s3 i wr => ∃ (k cp : Nat) (B2 : Option Addr), k ≤ n ∧ i = .int .i64 (k : Int) ∧ s3 = .slice B2 k cp ∧ Hid (Pr.Ow wr w.heap.size (.slice B2 k cp) k (spansL (L.take k))) ∧ Hid (Kept Old w wr)) (fun _ i _ => n - (intOf i).toNat)
  case atStart => exact ⟨0, 0, none, by omega, rfl, rfl, by simpa [spansL] using Lib.hid (Pr.Ow.nil w w.heap.size), Lib.hid (Kept.refl _ _)⟩
  case round =>
    obtain ⟨k, cp, B2, hk, rfl, rfl, O, K⟩ := hrel
    rename World => W
    have d2 := cellP_on K.out c2
    have C2 := Lib.hid c2
    clear c2
    by_cases c : k < n
    · obtain ⟨g, o, x, B, cb, en, rfl, _, hx, _, _, a0', a1', _, _, hcb⟩ := HR.out.get (k := k) (by rw [HL.out]; exact c)
      have A0 := Lib.hid a0'
      have A1 := Lib.hid a1'
      have a0 := cellP_on K.out a0'
      have a1 := cellP_on K.out a1'
      clear a0' a1'
      have e := Lib.hid (spansL_take hx)
      have xp := HG.out.inP x (List.mem_of_getElem? hx)
      have xf := HG.out.few (List.mem_of_getElem? hx)
      have pp := per_pos HG.out.cls
      have RX := Lib.hid (Pr.Rs.one W.drew (((x.page : Nat) : Int), ((x.free.length : Nat) : Int)) ⟨by simp only []; omega, by simp only []; omega⟩ ⟨by simp only []; omega, by simp only []; omega⟩ W.heap.size rfl)
      have OO := Lib.hid (O.out.drew.alloc (.cells #[.int .i64 (x.page : Int), .int .i64 (x.free.length : Int)] 52))
      have KK := Lib.hid (K.out.drew.alloc (.cells #[.int .i64 (x.page : Int), .int .i64 (x.free.length : Int)] 52))
      have kI : (k : Int) < (n : Int) := by omega
      have wl : IntKind.i64.wrap (x.free.length : Int) = (x.free.length : Int) := IntWalk.i64_in _ (by omega)
      clear hx
      go_wp2_with fail
      go_region_held_law (fun w' => w'.cell? ⟨q, 2, none⟩ = some (.slice (some ⟨g, o, none⟩) n cap) ∧ w'.cell? ⟨g, o + k * 2, none⟩ = some (.int .i64 (x.page : Int)) ∧ w'.cell? ⟨g, o + k * 2 + 1, none⟩ = some (.slice B x.free.length cb))
        (first
          | (exact ⟨‹_›, ‹_›, ‹_›⟩)
          | (exact ⟨cellP_on K3.out C2.out, cellP_on K3.out A0.out, cellP_on K3.out A1.out⟩)
          | go_keep)
        (first | (refine Pr.app_step rfl (.tmp 14) (.tmp 33) rfl rfl w.heap.size (.slice B2 k cp) k (spansL (L.take k)) (by simp [Act.eval]) OO.out (some ⟨W.heap.size, 0, none⟩) 1 1 [(((x.page : Nat) : Int), ((x.free.length : Nat) : Int))] (by simp [Act.eval]) RX.out (by intro h; cases h) (by omega) (by omega) KK.out.size (k + 1) rfl _ rfl ?_; intro v3 w3 O3 k3 a3; obtain ⟨A3, c3, rfl, _⟩ := O3.out.rs; have K3 := Lib.hid (OO.out.step KK.out k3.out)))
      go_wp2_with fail
      refine ⟨⟨k + 1, c3, A3, by omega, by go_num, rfl, by rw [e.out]; exact O3, K3⟩, ?_⟩
      simp [intOf]; omega
    · obtain rfl : k = n := by omega
      have P1 : Pr.Made1 (spansL L) w (.slice B2 k cp) W := Pr.made_end (by have := O.out; rw [← HL.out, List.take_length, HL.out] at this; exact this) K.out
      have P1 := Lib.hid P1
      go_wp2_with fail
      go_ret
      exact ⟨_, rfl, P1.out⟩
/-! ### parts, Same -/
theorem parts_any (A B : Option Addr) (n c d : Nat) (l : List Pr.R) (w : World) (ha : Pr.Rs w A n l) (hb : Pr.Rs w B n l) (hn : n ≤ 100000) :
    Calls Try.prog 39 #[.slice A n c, .slice B n d] w fun e w' => e = .returned (.bool true) ∧ Kept Old w w' := by
  go_enter Try.func39, Try.ntmps39
  go_wp2
  go_loopw [5] (fun i wr => ∃ k : Nat, k ≤ n ∧ i = .int .i64 (k : Int) ∧ Hid (Kept Old w wr)) (fun i _ => n - (intOf i).toNat)
  case atStart => exact ⟨0, by omega, rfl, Lib.hid (Kept.refl _ _)⟩
  case round =>
    obtain ⟨k, hk, rfl, K⟩ := hrel
    rename World => W
    by_cases c : k < n
    · obtain ⟨g, o, x, rfl, _, hx, _, _, a0, a1⟩ := (ha.old K.out).get c
      obtain ⟨g', o', x', rfl, _, hx', _, _, b0, b1⟩ := (hb.old K.out).get c
      obtain rfl : x = x' := by rw [hx] at hx'; injection hx'
      clear hx hx' ha hb
      go_wp2
      go_quiet (fail)
      go_wp2
      refine ⟨⟨k + 1, by omega, by go_num, Lib.hid (K.out.drewN _)⟩, ?_⟩
      simp [intOf]; omega
    · have P := Lib.hid K.out
      go_wp2
      go_ret
      exact ⟨rfl, P.out⟩
end Go.Proofs.Ytcaongcpfepcjaa.Prt
