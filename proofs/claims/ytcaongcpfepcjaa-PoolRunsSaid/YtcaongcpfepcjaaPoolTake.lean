/-
  What Free and Take of package pool answer. Own work; each is proved by a walk through the landed text.
-/
import Derived.Test.YtcaongcpfepcjaaRows
import Derived.Test.YtcaongcpfepcjaaPoolCalls
import Derived.Test.YtcaongcpfepcjaaPoolFind
import Derived.WalkKit
import Derived.ProofKit
import Derived.OpenShut
import Derived.Outline
import Derived.Deep.Light
import Derived.IntWalk
import Derived.WalkMore
namespace Go.Proofs.Ytcaongcpfepcjaa.Prt
open Go.ChangeShapes Go.WideShapes Go.ChangeAt Go.RowKit
set_option maxRecDepth 100000

set_option maxHeartbeats 1000000 in
theorem free_any {P B p c a g : Nat} {v : Value} {L : List Q} {ws : List Nat} (w : World) (h : Pt w B p v c L) (ar : Ar w a g ws) (gd : GoodP P c L) (hP : P ≤ 256) (ch : Chs ws L) :
    Calls Try.prog 21 #[ptr p, ptr a] w fun e w' => ∃ v', e = .returned v' ∧ MadeI (NI (freeL L)) w v' w' := by
  have hn : L.length ≤ 32 := by have := gd.len; omega
  have hf := freeL_len gd
  have HT := Lib.hid h
  have HA := Lib.hid ar
  have HG := Lib.hid gd
  have HC := Lib.hid ch
  obtain ⟨A, cc, rfl, r, _, _⟩ := h.own.rs
  have HR := Lib.hid r
  have PL := Lib.hid (plen_any w h gd hP)
  obtain ⟨n, hln⟩ : ∃ n, L.length = n := ⟨_, rfl⟩
  rw [hln] at HR hn HT hf
  have HL := Lib.hid hln
  obtain ⟨m, hm⟩ : ∃ m, lenL L = m := ⟨_, rfl⟩
  rw [hm] at PL
  have hm' : m ≤ 512 := by unfold lenL at hm; omega
  clear h ar gd r hln ch hm hf
  go_enter Try.func21, Try.ntmps21
  go_wp2_with fail
  refine PL.out.mono ?_
  rintro e w1 ⟨rfl, k1⟩
  obtain ⟨w2, hmk, O2, K2⟩ := make_ints w1 w.heap.size m (by omega) k1.size
  have K2 := Lib.hid (k1.trans K2)
  have O2 := Lib.hid O2
  have c1 := (HT.out.old K2.out).c1
  clear k1 PL
  go_wp2_with fail
  clear hmk
  go_loopw [5, 24] (fun s5 i wr => ∃ (k cp : Nat) (B2 : Option Addr), k ≤ n ∧ i = .int .i64 (k : Int) ∧ s5 = .slice B2 (freeL (L.take k)).length cp ∧ Hid (OwI wr w.heap.size (.slice B2 (freeL (L.take k)).length cp) (freeL (L.take k)).length (NI (freeL (L.take k)))) ∧ Hid (Kept Old w wr)) (fun _ i _ => n - (intOf i).toNat)
  case atStart => exact ⟨0, m, some ⟨w1.heap.size, 0, none⟩, by omega, rfl, by simp [freeL], by simpa [freeL, NI] using O2, K2⟩
  case round =>
    obtain ⟨k, cp, B2, hk, rfl, rfl, O, K⟩ := hrel
    rename World => W
    have d1 := (HT.out.old K.out).c1
    clear c1
    by_cases c : k < n
    · obtain ⟨g, o, x, rfl, _, hx, a0, a1, a2⟩ := (HR.out.old K.out).getQ c
      have e := freeL_take hx
      have bnd := freeL_len (HG.out.sub (List.take_sublist (k + 1) L))
      have tl : (L.take (k + 1)).length = k + 1 := by rw [List.length_take, HL.out]; omega
      have xm := List.mem_of_getElem? hx
      have xf := HG.out.few xm
      have pp := per_pos HG.out.cls
      rw [tl, e, List.length_append] at bnd
      have e1 := Lib.hid e
      have e2 := Lib.hid (show (freeL (L.take (k + 1))).length = (freeL (L.take k)).length + x.free.length by rw [e, List.length_append])
      have KW := Lib.hid (K.out.alloc (.cells #[.int .i64 (x.page : Int), .int .i64 (headQ x.free : Int), .int .i64 (x.free.length : Int)] 67))
      have OW := Lib.hid (O.out.alloc (.cells #[.int .i64 (x.page : Int), .int .i64 (headQ x.free : Int), .int .i64 (x.free.length : Int)] 67))
      have WS := Lib.hid (walk_some (x.free.length : Int) _ (HA.out.kept KW.out (fun x => x) (fun x => x)) (HC.out x xm) (Int.le_refl _) (by omega))
      clear hx xm e tl
      go_wp2_with fail
      refine WS.out.mono ?_
      rintro e w3 ⟨v3, rfl, A3, n3, c3, rfl, r3, hc3, ⟨hA3, hnew⟩, k3⟩
      have n3e : n3 = x.free.length := by have := r3.lenN; omega
      subst n3e
      have K3 := Lib.hid (KW.out.trans k3)
      have O3 := Lib.hid (OW.out.old k3)
      have R3 := Lib.hid r3
      have hA3' := Lib.hid (show A3 = none → x.free.length = 0 ∧ c3 = 0 from fun e => ⟨by have := hA3 e; omega, hA3 e⟩)
      have k3' := Lib.hid k3
      clear k3 r3 hA3 hnew WS
      go_wp2_with (at_builtin; refine app_wpI rfl (.tmp 37) (.tmp 38) rfl rfl w.heap.size (.slice B2 (freeL (L.take k)).length cp) (freeL (L.take k)).length (NI (freeL (L.take k))) rfl O3.out A3 x.free.length c3 (NI x.free) rfl R3.out hA3'.out (by omega) (by omega) K3.out.size _ rfl _ rfl ?_; intro v4 w4 O4 k4 a4; obtain ⟨A4, c4, rfl, _⟩ := O4.out.rs; have K4 := Lib.hid (O3.out.step K3.out k4.out))
      refine ⟨⟨k + 1, c4, A4, by omega, by go_num, by rw [e2.out], by rw [e2.out, e1.out, NI_append]; exact O4, K4⟩, ?_⟩
      simp [intOf]; omega
    · obtain rfl : k = n := by omega
      have P1 : MadeI (NI (freeL L)) w (.slice B2 (freeL (L.take k)).length cp) W := made_endI (by have := O.out; rw [← HL.out, List.take_length] at this; rw [← HL.out, List.take_length]; exact this) K.out
      have P1 := Lib.hid P1
      go_wp2_with fail
      go_ret
      exact ⟨_, rfl, P1.out⟩

/-! ### Take -/
theorem take_nil {a : Value} (w : World) : Calls Try.prog 13 #[.pointer none, a] w fun e w' => e = .returned (.tuple #[.int .i64 0, .int .i64 2]) ∧ w = w' := by
  go_enter Try.func13, Try.ntmps13
  go_wp2
  go_ret2
  exact ⟨rfl, rfl⟩
theorem take_na {p : Nat} (w : World) : Calls Try.prog 13 #[ptr p, .pointer none] w fun e w' => e = .returned (.tuple #[.int .i64 0, .int .i64 2]) ∧ w = w' := by
  go_enter Try.func13, Try.ntmps13
  go_wp2
  go_ret2
  exact ⟨rfl, rfl⟩
theorem CS_set : ∀ (l : List S) (k : Nat) (x : S), CS (l.set k x) = (((CS l).set (k * 3) (.int .i64 x.a)).set (k * 3 + 1) (.int .i64 x.n)).set (k * 3 + 2) (.int .i64 x.c) := by
  intro l
  induction l with
  | nil => intro k x; simp [CS]
  | cons y t ih =>
    intro k x
    cases k with
    | zero => rfl
    | succ k =>
      rw [show (k + 1) * 3 = k * 3 + 3 by omega]
      simp only [List.set_cons_succ, CS, ih, show k * 3 + 3 + 1 = k * 3 + 1 + 3 by omega, show k * 3 + 3 + 2 = k * 3 + 2 + 3 by omega]
/-- Head and number of the k-th span are written. -/
theorem OwS.put2 {w : World} {B g n c : Nat} {l : List S} (h : OwS w B (.slice (some ⟨g, 0, none⟩) n c) n l) {k : Nat} {x : S} (hx : l[k]? = some x) (y z : Int) (hy : in64S y) (hz : in64S z) :
    OwS ((w.setCell ⟨g, k * 3 + 1, none⟩ (.int .i64 y)).setCell ⟨g, k * 3 + 2, none⟩ (.int .i64 z)) B (.slice (some ⟨g, 0, none⟩) n c) n (l.set k ⟨x.a, y, z⟩) := by
  rcases h.blk with ⟨e, _⟩ | ⟨g', c', r, e, hb, b, hr, hn, hm⟩
  · cases e
  · injection e with e1 e2 e3
    injection e1 with e1
    injection e1 with e1
    subst e1
    subst e3
    have hl := h.len
    have hk := (List.getElem?_eq_some_iff.1 hx).1
    have b2 := (b.put (k * 3 + 1) (.int .i64 y)).put (k * 3 + 2) (.int .i64 z)
    have e0 : (CS l).set (k * 3) (.int .i64 x.a) = CS l := by
      have h0 := (CS_get l k x hx).1
      obtain ⟨q1, q2⟩ := List.getElem?_eq_some_iff.1 h0
      rw [← q2]
      exact List.set_getElem_self q1
    have ll := CS_length l
    have e : ((CS l ++ r).set (k * 3 + 1) (.int .i64 y)).set (k * 3 + 2) (.int .i64 z) = CS (l.set k ⟨x.a, y, z⟩) ++ r := by
      rw [CS_set]
      simp only [e0]
      rw [List.set_append_left _ _ (by omega), List.set_append_left _ _ (by rw [List.length_set]; omega)]
    rw [e] at b2
    refine OwS.ofBlk hb b2 (by rw [List.length_set]; exact hl) hr hn hm (fun s hs => ?_)
    rcases mem_set hs with ⟨rfl, _⟩ | ⟨j, _, hj⟩
    · exact ⟨(h.fit x (List.mem_of_getElem? hx)).1, hy, hz⟩
    · exact h.fit s (List.mem_of_getElem? hj)
theorem SQ_set {L : List Q} {k : Nat} {x y : Q} (hp : y.page = x.page) : (SQ L).set k ⟨(toS x).a, ((headQ y.free : Nat) : Int), ((y.free.length : Nat) : Int)⟩ = SQ (L.set k y) := by
  unfold SQ
  rw [List.map_set]
  congr 1
  unfold toS
  rw [hp]
/-- The slice of a pool with spans, by its block. -/
theorem Pt.blk {w : World} {B p : Nat} {v : Value} {c : Nat} {L : List Q} (h : Pt w B p v c L) (hL : 0 < L.length) : ∃ g cc, v = .slice (some ⟨g, 0, none⟩) L.length cc ∧ g ≠ p ∧ g < w.heap.size ∧ ∀ i, w.frozen? ⟨g, i, none⟩ = false := by
  rcases h.own.blk with ⟨_, e⟩ | ⟨g, cc, r, rfl, hb, b, hr, hn, hm⟩
  · omega
  · exact ⟨g, cc, rfl, fun e => h.ne (by rw [e]; rfl), b.lt, fun i => b.frozen i⟩
/-- Behind such a write. -/
theorem Pt.put2 {w : World} {B p g c cc : Nat} {L : List Q} (h : Pt w B p (.slice (some ⟨g, 0, none⟩) L.length cc) c L) {k : Nat} {x y : Q} (hx : L[k]? = some x) (hp : y.page = x.page) (hy : headQ y.free ≤ 100000) (hz : y.free.length ≤ 100000) :
    Pt ((w.setCell ⟨g, k * 3 + 1, none⟩ (.int .i64 (headQ y.free : Int))).setCell ⟨g, k * 3 + 2, none⟩ (.int .i64 (y.free.length : Int))) B p (.slice (some ⟨g, 0, none⟩) L.length cc) c (L.set k y) ∧ Kept (Only g) w ((w.setCell ⟨g, k * 3 + 1, none⟩ (.int .i64 (headQ y.free : Int))).setCell ⟨g, k * 3 + 2, none⟩ (.int .i64 (y.free.length : Int))) := by
  have K : Kept (Only g) w ((w.setCell ⟨g, k * 3 + 1, none⟩ (.int .i64 (headQ y.free : Int))).setCell ⟨g, k * 3 + 2, none⟩ (.int .i64 (y.free.length : Int))) := (only_setCell _ _ _ _).trans (only_setCell _ _ _ _)
  have o := h.own.put2 (k := k) (x := toS x) (by rw [List.getElem?_map, hx]; rfl) ((headQ y.free : Nat) : Int) ((y.free.length : Nat) : Int) ⟨by omega, by omega⟩ ⟨by omega, by omega⟩
  rw [SQ_set hp] at o
  have ne : p ≠ g := fun e => h.ne (by rw [e]; rfl)
  exact ⟨⟨h.box.kept K ne, by rw [List.length_set]; exact o, h.low⟩, K⟩
/-- What Take leaves. -/
def TakePost (B p a g : Nat) (v : Value) (c : Nat) (L : List Q) (ws : List Nat) (w : World) (e : Ending) (w' : World) : Prop :=
  e = .returned (.tuple #[.int .i64 (takeA L), .int .i64 (takeC L)]) ∧ Pt w' B p v c (takeL L) ∧ Ar w' a g ws ∧ Chs ws (takeL L) ∧ Kept (fun k => some k = v.ownBlock) w w'
set_option maxHeartbeats 2000000 in
theorem take_any {P B p c a g : Nat} {v : Value} {L : List Q} {ws : List Nat} (w : World) (h : Pt w B p v c L) (ar : Ar w a g ws) (gd : GoodP P c L) (hP : P ≤ 256) (ch : Chs ws L) :
    Calls Try.prog 13 #[ptr p, ptr a] w (TakePost B p a g v c L ws w) := by
  have hn : L.length ≤ 32 := by have := gd.len; omega
  have hb := ar.big
  have HT := Lib.hid h
  have HA := Lib.hid ar
  have HG := Lib.hid gd
  have HC := Lib.hid ch
  by_cases hL : L.length = 0
  · obtain rfl : L = [] := List.eq_nil_of_length_eq_zero hL
    have c1 := h.c1
    obtain ⟨A, cc, rfl, r, _, _⟩ := h.own.rs
    have c1 : w.cell? ⟨p, 1, none⟩ = some (.slice A 0 cc) := c1
    have P1 : TakePost B p a g (.slice A 0 cc) c [] ws w (.returned (.tuple #[.int .i64 0, .int .i64 2])) w := ⟨rfl, h, ar, ch, Kept.refl _ _⟩
    have P1 := Lib.hid P1
    clear h ar gd r hL ch
    go_enter Try.func13, Try.ntmps13
    go_wp2_with fail
    go_loopw [22] (fun i wr => i = .int .i64 0 ∧ w = wr) (fun i _ => 0)
    case atStart => exact ⟨rfl, rfl⟩
    case round =>
      obtain ⟨rfl, rfl⟩ := hrel
      go_wp2_with fail
      go_ret2
      exact P1.out
  obtain ⟨gb, cc, rfl, nep, glt, gfz⟩ := h.blk (by omega)
  have c1 := h.c1
  obtain ⟨A, cc', e, r, _, _⟩ := h.own.rs
  injection e with e1 e2 e3
  subst e1
  subst e3
  have HR := Lib.hid r
  have ng : gb ≠ g := fun e => h.own_ne ar.row.blk (by decide) (by rw [← e]; rfl)
  have na : gb ≠ a := fun e => h.own_ne ar.box (by decide) (by rw [← e]; rfl)
  obtain ⟨n, hln⟩ : ∃ n, L.length = n := ⟨_, rfl⟩
  have FZ := Lib.hid gfz
  rw [hln] at HR hn HT c1 ⊢
  have HL := Lib.hid hln
  have P0 := Lib.hid (show ∀ w', takeQ L = none → w = w' → TakePost B p a g (.slice (some ⟨gb, 0, none⟩) n cc) c L ws w (.returned (.tuple #[.int .i64 0, .int .i64 2])) w' from fun w' e e' => by
    subst e'
    have q1 : takeA L = 0 := by unfold takeA; rw [e]
    have q2 : takeC L = 2 := by unfold takeC; rw [e]
    have q3 : takeL L = L := by unfold takeL; rw [e]
    unfold TakePost
    rw [q1, q2, q3]
    exact ⟨rfl, HT.out, HA.out, HC.out, Kept.refl _ _⟩)
  have h' : Pt w B p (.slice (some ⟨gb, 0, none⟩) L.length cc) c L := h
  have P1 := Lib.hid (show ∀ k pg b r, L[k]? = some ⟨pg, b :: r⟩ → takeQ L = some (b, L.set k ⟨pg, r⟩) → TakePost B p a g (.slice (some ⟨gb, 0, none⟩) n cc) c L ws w (.returned (.tuple #[.int .i64 (b : Int), .int .i64 0])) ((w.setCell ⟨gb, k * 3 + 1, none⟩ (.int .i64 (headQ r : Int))).setCell ⟨gb, k * 3 + 2, none⟩ (.int .i64 (r.length : Int))) from fun k pg b r hk e => by
    have q1 : takeA L = (b : Nat) := by unfold takeA; rw [e]
    have q2 : takeC L = 0 := by unfold takeC; rw [e]
    have q3 : takeL L = L.set k ⟨pg, r⟩ := by unfold takeL; rw [e]
    obtain ⟨t1, t2, t3⟩ := HC.out.take hk
    have fw := HG.out.few (List.mem_of_getElem? hk)
    have pp := per_pos HG.out.cls
    obtain ⟨u1, u2⟩ := h'.put2 (y := ⟨pg, r⟩) hk rfl (by simp only []; omega) (by simp only [List.length_cons] at fw; simp only []; omega)
    unfold TakePost
    rw [q1, q2, q3, ← hln]
    exact ⟨rfl, u1, HA.out.kept u2 (fun e => na e.symm) (fun e => ng e.symm), t3, u2.mono fun i e => by rw [show i = gb from e]; rfl⟩)
  clear h h' ar gd r hln ch gfz hL
  go_enter Try.func13, Try.ntmps13
  go_wp2_with fail
  go_loopw [22] (fun i wr => ∃ k : Nat, k ≤ n ∧ i = .int .i64 (k : Int) ∧ Hid (∀ y ∈ L.take k, y.free = []) ∧ w = wr) (fun i _ => n - (intOf i).toNat)
  case atStart => exact ⟨0, by omega, rfl, Lib.hid (fun y hy => by simp at hy), rfl⟩
  case round =>
    obtain ⟨k, hk, rfl, HB, rfl⟩ := hrel
    by_cases ck : k < n
    · obtain ⟨g', o', x, e, _, hx, a0, a1, a2⟩ := HR.out.getQ ck
      injection e with e
      injection e with e1 e2
      subst e1
      subst e2
      rw [Nat.zero_add] at a0 a1 a2
      obtain ⟨pg, fr⟩ := x
      have f1 := FZ.out (k * 3 + 1)
      have f2 := FZ.out (k * 3 + 2)
      cases fr with
      | nil =>
        have hs := Lib.hid (show ∀ y ∈ L.take (k + 1), y.free = [] from fun y hy => by
          rw [take_at hx] at hy
          rcases List.mem_append.1 hy with hy | hy
          · exact HB.out y hy
          · obtain rfl := List.mem_singleton.1 hy; rfl)
        have a2 : w.cell? ⟨gb, k * 3 + 2, none⟩ = some (.int .i64 0) := a2
        clear hx
        go_wp2_with fail
        refine ⟨⟨k + 1, by omega, by go_num, hs, by first | trivial | rfl⟩, ?_⟩
        simp [intOf]; omega
      | cons b r =>
        obtain ⟨t1, t2, t3⟩ := HC.out.take hx
        have fw := HG.out.few (List.mem_of_getElem? hx)
        have pp := per_pos HG.out.cls
        have PO := Lib.hid (pop_ok b (headQ r) w HA.out t1 t2)
        have P2 := Lib.hid (P1.out k pg b r hx (takeQ_at HB.out hx))
        have a1 : w.cell? ⟨gb, k * 3 + 1, none⟩ = some (.int .i64 ((b : Int) + 1)) := a1
        have a2 : w.cell? ⟨gb, k * 3 + 2, none⟩ = some (.int .i64 ((r.length : Int) + 1)) := a2
        have z0 : (((r.length : Int) + 1) == 0) = false := by simp; omega
        have fw' : r.length ≤ 100 := by simp only [List.length_cons] at fw; omega
        clear hx t1 t2 t3 fw P0 P1
        go_wp2_with fail
        refine PO.out.mono ?_
        rintro e w' ⟨rfl, rfl⟩
        go_wp2_with fail
        go_ret2
        exact P2.out
    · obtain rfl : k = n := by omega
      have P2 := Lib.hid (P0.out w (takeQ_none fun y hy => HB.out y (by rw [← HL.out, List.take_length]; exact hy)) rfl)
      clear P0 P1
      go_wp2_with fail
      go_ret2
      exact P2.out
end Go.Proofs.Ytcaongcpfepcjaa.Prt
