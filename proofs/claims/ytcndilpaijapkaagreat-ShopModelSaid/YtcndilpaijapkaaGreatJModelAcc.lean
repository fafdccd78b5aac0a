/-
  How far the program accepts deeds, from a valid model (Accepts), and the model there. Own work; proved by a walk through the landed text.
-/
import Derived.Test.YtcndilpaijapkaaGreatRows
import Derived.WalkKit
import Derived.ProofKit
import Derived.OpenShut
import Derived.Outline
import Derived.Deep.Light
import Derived.IntWalk
import Derived.StillTailTactics
import Derived.RegionTactic
import Derived.Deep.RegionLaw
import Derived.Test.YtcndilpaijapkaaGreatJModelExFree
namespace Go.Proofs.YtcndilpaijapkaaGreat.Lm
open Go.ChangeShapes Go.WideShapes Go.ChangeAt Go.RowKit
set_option maxRecDepth 100000

theorem acc_at {W : Int} {l : List S} {ds : List D} {k : Nat} {d : D} (h : ds[k]? = some d) :
    (accB W l d = true ∧ accM W l (ds.drop k) = accM W (accL W l d) (ds.drop (k + 1)) ∧ accK W l (ds.drop k) = accK W (accL W l d) (ds.drop (k + 1)) + 1 ∧ accF W l (ds.drop k) = accF W (accL W l d) (ds.drop (k + 1))) ∨
    (accB W l d = false ∧ accM W l (ds.drop k) = l ∧ accK W l (ds.drop k) = 0 ∧ accF W l (ds.drop k) = false) := by
  obtain ⟨hk, hx⟩ := List.getElem?_eq_some_iff.1 h
  rw [List.drop_eq_getElem_cons hk, hx]
  cases e : accB W l d with
  | true => exact .inl ⟨rfl, by show (if accB W l d then _ else _) = _; rw [e]; rfl, by show (if accB W l d then _ else _) = _; rw [e]; rfl, by show (if accB W l d then _ else _) = _; rw [e]; rfl⟩
  | false => exact .inr ⟨rfl, by show (if accB W l d then _ else _) = _; rw [e]; rfl, by show (if accB W l d then _ else _) = _; rw [e]; rfl, by show (if accB W l d then _ else _) = _; rw [e]; rfl⟩
/-- How far a run of deeds has come: behind k of them the list is lk, and what is left tells what all of them tell. -/
structure Far (W : Int) (l : List S) (ds : List D) (k : Nat) (lk : List S) : Prop where
  val : Valid W lk
  m : accM W l ds = accM W lk (ds.drop k)
  n : accK W l ds = k + accK W lk (ds.drop k)
  f : accF W l ds = accF W lk (ds.drop k)
theorem Far.zero {W : Int} {l : List S} (ds : List D) (v : Valid W l) : Far W l ds 0 l := ⟨v, by rw [List.drop_zero], by rw [List.drop_zero]; omega, by rw [List.drop_zero]⟩
theorem Far.yes {W : Int} {l lk : List S} {ds : List D} {k : Nat} {d : D} (h : Far W l ds k lk) (hd : ds[k]? = some d) (b : accB W lk d = true) : Far W l ds (k + 1) (accL W lk d) := by
  rcases acc_at (W := W) (l := lk) hd with ⟨_, e1, e2, e3⟩ | ⟨e, _⟩
  · exact ⟨h.val.acc d, h.m.trans e1, by rw [h.n, e2]; omega, h.f.trans e3⟩
  · rw [b] at e; cases e
theorem Far.no {W : Int} {l lk : List S} {ds : List D} {k : Nat} {d : D} (h : Far W l ds k lk) (hd : ds[k]? = some d) (b : accB W lk d = false) : accM W l ds = lk ∧ accK W l ds = k ∧ accF W l ds = false ∧ accL W lk d = lk := by
  rcases acc_at (W := W) (l := lk) hd with ⟨e, _⟩ | ⟨_, e1, e2, e3⟩
  · rw [b] at e; cases e
  · refine ⟨h.m.trans e1, by rw [h.n, e2]; omega, h.f.trans e3, ?_⟩
    unfold accL
    unfold accB at b
    split
    · rename_i q; rw [if_pos q.1, if_pos q.2.1, q.2.2] at b; cases b
    · split
      · rename_i _ q; rw [if_neg (by omega), if_pos q.1, if_pos q.2.1, q.2.2] at b; cases b
      · rfl
theorem Far.end_ {W : Int} {l lk : List S} {ds : List D} {k : Nat} (h : Far W l ds k lk) (hk : ds.length = k) : accM W l ds = lk ∧ accK W l ds = k ∧ accF W l ds = true := by
  have e : ds.drop k = [] := List.drop_eq_nil_of_le (by omega)
  have h1 := h.m
  have h2 := h.n
  have h3 := h.f
  rw [e] at h1 h2 h3
  exact ⟨h1, h2.trans (Nat.add_zero _), h3⟩
/-- What the model's own blocks are outlives what is new. -/
theorem own_low {X : World} {B n c : Nat} {A : Option Addr} {l : List S} (o : OwS X B (.slice A n c) n l) : ∀ ad, A = some ad → B ≤ ad.block := fun ad e => by subst e; exact (o.own ad.block rfl).1
theorem Mo.made {w V : World} {b : Nat} {W : Int} {l : List S} {A : Option Addr} {n c : Nat} (h : Mo w.heap.size V b W l A n c) (k : Kept Old w V) : MadeS l w (.slice A n c) V := by
  obtain ⟨r, h1, h2⟩ := h.rs
  exact ⟨A, n, c, rfl, r, h1, ⟨h2, own_low h.own⟩, k⟩
theorem Bm.put_end' {w w' : World} {b : Nat} {W0 : Int} {u : Value} {A : Option Addr} {n c : Nat} {L : List S} (z : Bm w' b W0 u) (k : Kept Old w w') (hb : w.heap.size ≤ b) (r : RsS w' A n L) (hn : ∀ ad, A = some ad → 0 < n → ad.block ≠ b) (x : Int) :
    ∃ W, (w'.setCell ⟨b, 0, none⟩ (.int .i64 x)).setCell ⟨b, 1, none⟩ (.slice A n c) = W ∧ W.cell? ⟨b, 0, none⟩ = some (.int .i64 x) ∧ W.cell? ⟨b, 1, none⟩ = some (.slice A n c) ∧ RsS W A n L ∧ Kept Old w W := by
  have kk := put2_kept w' b (.int .i64 x) (.slice A n c)
  refine ⟨_, rfl, (z.put2 _ _).cell 0, (z.put2 _ _).cell 1, ⟨r.len, r.fit, fun h0 => ?_⟩, k.join kk (fun i hi e => by have e : i = b := e; omega)⟩
  obtain ⟨g, o, rfl, hg, cc⟩ := r.lies h0
  exact ⟨g, o, rfl, Nat.lt_of_lt_of_le hg kk.size, fun i x hx => (cc i x hx).kept kk hg (hn _ rfl h0)⟩
set_option maxHeartbeats 2000000 in
theorem accepts_any (W : Int) (A : Option Addr) (n c : Nat) (l : List S) (A2 : Option Addr) (n2 c2 : Nat) (ds : List D) (w : World) (h : RsS w A n l) (v : Valid W l) (hc : n ≤ c) (hA : A = none → c = 0) (hd : RsD w A2 n2 ds) (hn2 : n2 ≤ 1000) :
    Calls Tryz.prog 33 #[md W A n c, .slice A2 n2 c2] w (AccPost W (accM W l ds) (accK W l ds : Int) (accF W l ds) w) := by
  have K1 := Lib.hid (kept2 w (.cells #[.int .i64 W, .slice A n c] 63) (.cells #[.int .i64 0, .slice none 0 0] 63))
  have B2 := Lib.hid ((Bm.new w W (.slice A n c)).alloc (.cells #[.int .i64 0, .slice none 0 0] 63))
  have B4 := Lib.hid (Bm.new2 w (.cells #[.int .i64 W, .slice A n c] 63) _ 0 (.slice none 0 0) rfl)
  have a0 := B2.out.c0
  have a1 := B2.out.c1
  have HR := Lib.hid (h.old K1.out)
  have HD := Lib.hid (hd.old K1.out)
  have dlow := Lib.hid (show 0 < n2 → ∀ ad, A2 = some ad → ad.block < w.heap.size from fun h0 ad e => by
    obtain ⟨g, o, e2, hg, _⟩ := hd.lies h0
    rw [e] at e2
    injection e2 with e2
    subst e2
    exact hg)
  have hlen := h.len
  have hdl := Lib.hid hd.len
  have HV := Lib.hid v
  have n5 : n ≤ 512 := by have := v.len; omega
  have F0 := Lib.hid (Far.zero ds v)
  clear h v hd
  generalize hW : ((w.alloc (.cells #[.int .i64 W, .slice A n c] 63)).alloc (.cells #[.int .i64 0, .slice none 0 0] 63)) = V at *
  have hW2 := Lib.hid hW
  have hV : w.heap.size + 1 < V.heap.size := by rw [← hW2.out]; simp
  have hV0 : w.heap.size < V.heap.size := by omega
  go_enter Tryz.func33, Tryz.ntmps33
  go_wp2_with (first
    | (at_make; refine make_wpS rfl _ _ rfl V.heap.size n _ rfl rfl (by omega) (by omega) (Nat.le_refl _) ?_; intro w5 O5 k5; have K5 := Lib.hid k5.out; have a0 := cell_on K5.out a0; have a1 := cell_on K5.out a1; clear k5)
    | (at_builtin; refine appS_wp rfl (.tmp 14) (.tmp 16) rfl rfl V.heap.size _ 0 [] rfl O5.out A n c l rfl (HR.out.old K5.out) (by intro e; have := hA e; omega) (by omega) (by omega) K5.out.size n (by omega) l rfl ?_; intro v6 w6 O6 k6 a6; have K6 := Lib.hid (O5.out.step K5.out k6.out); have B2' := Lib.hid (B2.out.old K6.out); have a0 := B2'.out.c0; have a1 := B2'.out.c1; have f1 := B2'.out.f1; obtain ⟨A6, c6, rfl, _⟩ := O6.out.rs; clear k6 a6))
  have MP := Lib.hid (Mo.put B2'.out O6.out)
  have L0 := Lib.hid (show ∃ A7 n7 c7, Mo V.heap.size (w6.setCell ⟨w.heap.size, 1, none⟩ (.slice A6 n c6)) w.heap.size W l A7 n7 c7 from ⟨_, _, _, MP.out.1⟩)
  have KL := Lib.hid (show Kept (Only w.heap.size) V (w6.setCell ⟨w.heap.size, 1, none⟩ (.slice A6 n c6)) from K6.out.any.trans MP.out.2)
  clear O5 O6 K5 K6 B2' MP
  go_loopw [21] (fun ii wr => ∃ (k : Nat) (lk : List S) (A7 : Option Addr) (n7 c7 : Nat), k ≤ n2 ∧ ii = .int .i64 (k : Int) ∧ Hid (Far W l ds k lk) ∧ Hid (Mo V.heap.size wr w.heap.size W lk A7 n7 c7) ∧ Hid (Kept (Only w.heap.size) V wr)) (fun ii _ => n2 - (intOf ii).toNat)
  case atStart =>
    obtain ⟨A7, n7, c7, M7⟩ := L0.out
    exact ⟨0, l, A7, n7, c7, by omega, rfl, F0, Lib.hid M7, KL⟩
  case round =>
    clear L0 KL F0
    obtain ⟨k, lk, A7, n7, c7, hk, rfl, FA, MK, KU⟩ := hrel
    rename World => U
    have B4' := Lib.hid (Blk.kept B4.out KU.out (fun e => by have e : w.heap.size + 1 = w.heap.size := e; omega))
    have KW := Lib.hid (show Kept Old w U from K1.out.join KU.out (fun i hi e => by have e : i = w.heap.size := e; omega))
    have HD' := Lib.hid (show RsD U A2 n2 ds from ⟨HD.out.len, HD.out.fit, fun h0 => by
      obtain ⟨g, o, e, hg, cc⟩ := HD.out.lies h0
      have := dlow.out h0 _ e
      refine ⟨g, o, e, Nat.lt_of_lt_of_le hg KU.out.size, fun i x hx => (cc i x hx).kept KU.out hg (fun e => ?_)⟩
      have e : g = w.heap.size := e
      have : g < w.heap.size := this
      omega⟩)
    have m0 := MK.out.box.c0
    have m1 := MK.out.box.c1
    have b0 := (show Bm U _ _ _ from B4'.out).c0
    have b1 := (show Bm U _ _ _ from B4'.out).c1
    have f0 := (show Bm U _ _ _ from B4'.out).f0
    have f1 := (show Bm U _ _ _ from B4'.out).f1
    have lm := Blk.lt MK.out.box
    have l4 := Blk.lt B4'.out
    have sU := KU.out.size
    by_cases dk : k < n2
    · obtain ⟨g, o, d, rfl, hg, hx, fd, cx0, cx1, cx2, cx3⟩ := HD'.out.get dk
      have kn : (k : Int) < (n2 : Int) := by omega
      have KX := Lib.hid ((Kept.refl Old U).alloc (.cells #[.int .i64 d.k, .int .i64 d.n, .int .i64 d.a, .int .i64 d.c] 29))
      have EX := Lib.hid (exec_any V.heap.size w.heap.size W lk A7 n7 c7 d _ (MK.out.old KX.out) FA.out.val (Nat.le_trans sU KX.out.size) fd)
      cases hb : accB W lk d with
      | true =>
        have FB := Lib.hid (FA.out.yes hx hb)
        rw [hb] at EX
        clear hx hb fd
        go_wp2_with (go_at_call 82; refine EX.out.mono ?_; rintro e X ⟨A8, n8, c8, rfl, M8, k8⟩; have M8 := Lib.hid M8; have K8 := Lib.hid k8; clear k8)
        refine ⟨⟨k + 1, _, A8, n8, c8, by omega, by go_num, FB, M8, Lib.hid ?_⟩, ?_⟩
        · refine KU.out.join (KX.out.any.trans K8.out) (fun i hi e => ?_)
          rcases e with e | ⟨ad, e, e2⟩
          · exact e
          · have := own_low MK.out.own ad e
            omega
        · simp [intOf]; omega
      | false =>
        obtain ⟨e1, e2, e3, e4⟩ := FA.out.no hx hb
        have E := Lib.hid (show accM W l ds = lk ∧ accK W l ds = k ∧ accF W l ds = false from ⟨e1, e2, e3⟩)
        rw [hb, e4] at EX
        clear hx hb fd e1 e2 e3 e4
        go_wp2_with (go_at_call 82; refine EX.out.mono ?_; rintro e X ⟨A8, n8, c8, rfl, M8, k8⟩; have M8 := Lib.hid M8; have K8 := Lib.hid (show Kept (Its w.heap.size A7) U X from KX.out.any.trans k8); have m0 := M8.out.box.c0; have m1 := M8.out.box.c1; have B5 := Lib.hid (Blk.kept B4'.out K8.out (fun e => by rcases e with e | ⟨ad, e, e2⟩; (omega); (exact own_ne MK.out.own B4'.out ad e e2))); have b0 := (show Bm X _ _ _ from B5.out).c0; have b1 := (show Bm X _ _ _ from B5.out).c1; have f0 := (show Bm X _ _ _ from B5.out).f0; have f1 := (show Bm X _ _ _ from B5.out).f1; clear k8)
        have KX2 := Lib.hid (show Kept Old w X from KW.out.join K8.out (fun i hi e => by
          rcases e with e | ⟨ad, e, e2⟩
          · omega
          · have := own_low MK.out.own ad e; omega))
        obtain ⟨r8, h1, h2⟩ := M8.out.rs
        have low := own_low M8.out.own
        have ne := own_ne M8.out.own B5.out
        clear hW
        obtain ⟨V9, hV9, r0, r1, R9, K9⟩ := Bm.put_end' (c := c8) B5.out KX2.out (by omega) r8 (fun ad e _ => ne ad e) W
        rw [hV9]
        refine bodyPost_ret (v := .tuple #[.agg #[.int .i64 W, .slice A8 n8 c8], .int .i64 (k : Int), .bool false]) (by simp [results, Tryz.results33, go_sem, r0, r1]) rfl ?_
        rw [E.out.1, E.out.2.1, E.out.2.2]
        exact ⟨_, rfl, A8, n8, c8, rfl, R9, h1, ⟨h2, fun ad e => by have := low ad e; omega⟩, K9⟩
    · obtain rfl : k = n2 := by omega
      obtain ⟨e1, e2, e3⟩ := FA.out.end_ hdl.out
      obtain ⟨r8, h1, h2⟩ := MK.out.rs
      have low := own_low MK.out.own
      have ne := own_ne MK.out.own B4'.out
      go_wp2_with fail
      obtain ⟨V9, hV9, r0, r1, R9, K9⟩ := Bm.put_end' (c := c7) B4'.out KW.out (by omega) r8 (fun ad e _ => ne ad e) W
      rw [hV9]
      refine bodyPost_ret (v := .tuple #[.agg #[.int .i64 W, .slice A7 n7 c7], .int .i64 (k : Int), .bool true]) (by simp [results, Tryz.results33, go_sem, r0, r1]) rfl ?_
      rw [e1, e2, e3]
      exact ⟨_, rfl, A7, n7, c7, rfl, R9, h1, ⟨h2, fun ad e => by have := low ad e; omega⟩, K9⟩
end Go.Proofs.YtcndilpaijapkaaGreat.Lm
