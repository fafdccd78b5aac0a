/-
  What one (chapter 6's laws) answers: a table and a list, side by side. Own work; proved by a walk through the landed text.
-/
import Derived.Test.YtibgggchofpllaaRows
import Derived.Test.YtibgggchofpllaaSpanSt
import Derived.Test.YtibgggchofpllaaSpanApp
import Derived.Test.YtibgggchofpllaaSpanRef
import Derived.Test.YtibgggchofpllaaSpanRef2
import Derived.Test.YtibgggchofpllaaSpanRadd
import Derived.Test.YtibgggchofpllaaSpanRaddOk
import Derived.Test.YtibgggchofpllaaSpanRrem
namespace Go.Proofs.Ytibgggchofpllaa
open Go.ChangeShapes Go.WideShapes Go.ChangeAt Go.RowKit
set_option maxRecDepth 100000

/-- A list of the law's own, in a block of F. -/
structure Ls (W : World) (A : Option Addr) (n c : Nat) (l : List S) : Prop where
  rs : Rs W A n l
  cap : n ≤ c
  shape : Shape A c
/-- What a call leaves that answers a list: one that was made, or the one that came in. -/
def Gave (A0 : Option Addr) (n0 : Nat) (L : List S) (W : World) (v : Value) (W' : World) : Prop := ∃ A n c, v = .slice A n c ∧ Ls W' A n c L ∧ Kept Old W W' ∧ ∀ ad, A = some ad → (A0 = some ad ∧ n = n0) ∨ W.heap.size ≤ ad.block
theorem gave_made {A0 : Option Addr} {n0 : Nat} {L : List S} {W W' : World} {v : Value} (h : Made L W v W') : Gave A0 n0 L W v W' := by
  obtain ⟨A, n, c, rfl, r, h1, h2, k, h3⟩ := h
  exact ⟨A, n, c, rfl, ⟨r, h1, h2⟩, k, fun ad e => .inr (h3 ad e)⟩
theorem gave_same {A : Option Addr} {n c : Nat} {L : List S} {W W' : World} (h : Ls W A n c L) (k : Kept Old W W') : Gave A n L W (.slice A n c) W' := ⟨A, n, c, rfl, ⟨h.rs.old k, h.cap, h.shape⟩, k, fun _ e => .inl ⟨e, rfl⟩⟩
theorem radd_any (A : Option Addr) (n c : Nat) (P : Int) (l : List S) (x : S) (W : World) (h : Ls W A n c l) (g : Good P l) (hP : 0 ≤ P ∧ P ≤ 256) :
    Calls Try.prog 17 #[.slice A n c, .int .i64 P, spn x] W fun e W' => ∃ v, e = .returned (.tuple #[v, .int .i64 (addC P l x)]) ∧ Gave A n (addL P l x) W v W' := by
  unfold addC addL
  by_cases a : okB x P = true
  · rw [if_pos a, if_pos a]
    by_cases b : hitB l x = true
    · rw [if_pos b, if_pos b]
      refine (radd_twice A n c P l x W h.rs g hP (ok_of a) b).mono ?_
      rintro e W' ⟨rfl, k⟩
      exact ⟨_, rfl, gave_same h k⟩
    · rw [if_neg b, if_neg b]
      refine (radd_ok A n c P l x W h.rs h.shape h.cap g hP (ok_of a) (by simpa using b)).mono ?_
      rintro e W' ⟨v, rfl, k⟩
      exact ⟨v, rfl, gave_made k⟩
  · rw [if_neg a, if_neg a]
    refine (radd_arg A n c P x W hP (by simpa using a)).mono ?_
    rintro e W' ⟨rfl, k⟩
    exact ⟨_, rfl, gave_same h k⟩
theorem rrem_any (A : Option Addr) (n c : Nat) (P : Int) (l : List S) (q : Int) (W : World) (h : Ls W A n c l) (g : Good P l) (hP : 0 ≤ P ∧ P ≤ 256) :
    Calls Try.prog 18 #[.slice A n c, .int .i64 q] W fun e W' => ∃ v, e = .returned (.tuple #[v, spn (remX l q), .int .i64 (remC l q)]) ∧ Gave A n (remL l q) W v W' := by
  unfold remX remC remL
  cases b : begL l q with
  | none =>
    refine (rrem_no A n c P l q W h.rs g hP b).mono ?_
    rintro e W' ⟨rfl, k⟩
    exact ⟨_, rfl, gave_same h k⟩
  | some x =>
    refine (rrem_yes A n c P l q x W h.rs h.shape h.cap g hP b).mono ?_
    rintro e W' ⟨v, rfl, k⟩
    exact ⟨v, rfl, gave_made k⟩
theorem rof_any (A : Option Addr) (n c : Nat) (P : Int) (l : List S) (q : Int) (W : World) (h : Rs W A n l) (g : Good P l) (hP : 0 ≤ P ∧ P ≤ 256) :
    Calls Try.prog 14 #[.slice A n c, .int .i64 q] W fun e W' => e = .returned (.tuple #[spn (ofX l q), .bool (ofB l q)]) ∧ Kept Old W W' := by
  unfold ofX ofB
  cases b : ofL l q with
  | none => exact rof_no A n c P l q W h g hP b
  | some x => exact rof_yes A n c P l q x W h g hP b
/-- The blocks of a list that has spans. -/
def FA (A : Option Addr) (n : Nat) (b : Nat) : Prop := 0 < n ∧ ∃ ad, A = some ad ∧ ad.block = b
theorem Ls.old {W W' : World} {A : Option Addr} {n c : Nat} {l : List S} (h : Ls W A n c l) (k : Kept Old W W') : Ls W' A n c l := ⟨h.rs.old k, h.cap, h.shape⟩
theorem Ls.fr {W W' : World} {F : Nat → Prop} {A : Option Addr} {n c : Nat} {l : List S} (h : Ls W A n c l) (k : Kept (Fr F) W W') (hb : ∀ b, FA A n b → F b) : Ls W' A n c l := by
  rcases Nat.eq_zero_or_pos n with e | e
  · subst e
    have hl : l = [] := List.eq_nil_of_length_eq_zero h.rs.len
    subst hl
    exact ⟨Rs.nil _ _, h.cap, h.shape⟩
  · exact ⟨h.rs.fr k (fun ad ha => hb _ ⟨e, ad, ha, rfl⟩), h.cap, h.shape⟩
/-- The list's block is there. -/
theorem Ls.lt {W : World} {A : Option Addr} {n c : Nat} {l : List S} (h : Ls W A n c l) {b : Nat} (hb : FA A n b) : b < W.heap.size := by
  obtain ⟨hn, ad, e, rfl⟩ := hb
  obtain ⟨g, o, e', hg, _⟩ := h.rs.lies hn
  rw [e] at e'
  injection e' with e'
  subst e'
  exact hg
theorem St.pages {w0 W : World} {p : Nat} {P : Int} {l : List S} {F : Nat → Prop} (h : St w0 W p P l F) : 0 ≤ P ∧ P ≤ 256 := by obtain ⟨v, _, _, hP, _⟩ := h; exact hP
/-- Behind a call that answers a list. -/
theorem St.gave {w0 W W1 W' : World} {p n0 n c : Nat} {P : Int} {l l' : List S} {A0 A : Option Addr} (h : St w0 W p P l (FA A0 n0)) (k1 : Kept Old W W1) (k : Kept Old W1 W') (hl : Ls W' A n c l') (d : ∀ ad, A = some ad → (A0 = some ad ∧ n = n0) ∨ W1.heap.size ≤ ad.block) : St w0 W' p P l (FA A n) := by
  refine h.more (k1.trans k) fun b hb => ?_
  have hlt := hl.lt hb
  obtain ⟨hn, ad, e, rfl⟩ := hb
  rcases d ad e with ⟨e1, rfl⟩ | e1
  · exact .inl ⟨hn, ad, e1, rfl⟩
  · exact .inr ⟨Nat.le_trans k1.size e1, hlt⟩
set_option maxHeartbeats 2000000 in
theorem one_any {w0 W : World} {p n c : Nat} {P : Int} {l : List S} {A : Option Addr} (x : S) (q : Int) (hT : St w0 W p P l (FA A n)) (hL : Ls W A n c l) (f : Fit x) :
    Calls Try.prog 9 #[ptr p, .slice A n c, .int .i64 P, spn x, .int .i64 q] W fun e W' => ∃ A' n' c', e = .returned (.tuple #[.slice A' n' c', .bool true]) ∧ Ls W' A' n' c' (remL (addL P l x) q) ∧ St w0 W' p P (remL (addL P l x) q) (FA A' n') := by
  have T0 := Lib.hid hT
  have L0 := Lib.hid hL
  have F0 := Lib.hid f
  have k0 := Lib.hid ((Kept.refl Old W).alloc (.cells #[.int .i64 x.a, .int .i64 x.n, .int .i64 x.c] 30))
  have B0 := Lib.hid (Bx.new W x)
  clear hT hL f
  go_enter Try.func9, Try.ntmps9
  go_wp2_with fail
  refine (radd_any A n c P l x _ (L0.out.old k0.out) T0.out.good T0.out.pages).mono ?_
  rintro e W1 ⟨v, rfl, A1, n1, c1, rfl, L1, k1, d1⟩
  have T1 := Lib.hid (T0.out.gave k0.out k1 L1 d1)
  have L1 := Lib.hid L1
  have B1 := B0.out.old k1
  have s0 := B1.c0
  have s1 := B1.c1
  have s2 := B1.c2
  clear d1 k1 T0 L0 B0 k0
  generalize hC : addC P l x = code
  generalize hM : addL P l x = m at *
  have hC := Lib.hid hC
  go_wp2_with fail
  refine (st_add x T1.out F0.out).mono ?_
  rintro e W2 ⟨rfl, T2, k2⟩
  rw [hC.out]
  rw [hM] at T2
  have hM := Lib.hid hM
  have L2 := Lib.hid (L1.out.fr k2 (fun _ h => h))
  have T2 := Lib.hid T2
  clear k2 T1 L1 B1 s0 s1 s2
  go_wp2_with fail
  refine (rrem_any A1 n1 c1 P m q _ L2.out T2.out.good T2.out.pages).mono ?_
  rintro e W3 ⟨v, rfl, A2, n2, c2, rfl, L3, k3, d3⟩
  generalize hX : remX m q = y at *
  generalize hD : remC m q = cod at *
  generalize hR : remL m q = m' at *
  have k4 := (Kept.refl Old W3).alloc (.cells #[.int .i64 y.a, .int .i64 y.n, .int .i64 y.c] 30)
  have B4 := Lib.hid (Bx.new W3 y)
  have T4 := Lib.hid ((T2.out.gave (Kept.refl _ _) k3 L3 d3).more (G := fun b => FA A2 n2 b ∨ b = W3.heap.size) k4 (fun b hb => hb.elim .inl (fun e => .inr ⟨by omega, by rw [e]; exact Blk.lt (Bx.new W3 y)⟩)))
  have L4 := Lib.hid (L3.old k4)
  have hX := Lib.hid hX
  have hD := Lib.hid hD
  have hR := Lib.hid hR
  clear d3 k3 k4 T2 L2 L3
  go_wp2_with fail
  refine (st_rem q T4.out).mono ?_
  rintro e W5 ⟨rfl, T5, k5⟩
  rw [hX.out, hD.out]
  rw [hR.out] at T5
  have B5 := B4.out.fr k5 (.inr rfl)
  have c0 := B5.c0
  have c1 := B5.c1
  have c2' := B5.c2
  have hlt := Blk.lt B5
  have T6 := Lib.hid ((T5.less (G := FA A2 n2) (fun _ h => .inl h)).old ((Kept.refl Old W5).alloc (.cells #[.int .i64 y.a, .int .i64 y.n, .int .i64 y.c] 30)))
  have L6 := Lib.hid ((L4.out.fr k5 (fun _ h => .inl h)).old ((Kept.refl Old W5).alloc (.cells #[.int .i64 y.a, .int .i64 y.n, .int .i64 y.c] 30)))
  clear k5 T4 T5 L4 B4 B5 hX hD
  go_wp2_with fail
  go_ret2
  rw [hM.out, hR.out]
  exact ⟨A2, n2, c2, rfl, L6.out, T6.out⟩
end Go.Proofs.Ytibgggchofpllaa
