/-
  What the document's own Take answers, and leaves. Own work; proved by a walk through the text.
-/
import Derived.Test.YtcaongcpfepcjaaRows
import Derived.Test.YtcaongcpfepcjaaRefEnts
namespace Go.Proofs.Ytcaongcpfepcjaa.Prt
open Go.ChangeShapes Go.WideShapes Go.ChangeAt Go.RowKit
set_option maxRecDepth 100000

/-- What the document's Take leaves. -/
def RTakePost (W : World) (q c P : Nat) (L : List Q) (G : Nat → Prop) (e : Ending) (W' : World) : Prop :=
  e = .returned (.tuple #[.int .i64 (takeA L), .int .i64 (takeC L)]) ∧ RpN W q c P (takeL L) G W'
set_option maxHeartbeats 2000000 in
theorem rtake_any {q c P : Nat} {L : List Q} {G : Nat → Prop} (w : World) (h : RpX w q c P L G) (gd : GoodP P c L) (hP : P ≤ 256) :
    Calls Try.prog 14 #[ptr q] w (RTakePost w q c P L G) := by
  obtain ⟨A, cap, es, h⟩ := h
  have hn : L.length ≤ 32 := by have := gd.len; omega
  have HR := Lib.hid h
  have HG := Lib.hid gd
  have c2 := h.c2
  have P0 := Lib.hid (show ∀ w', takeQ L = none → w = w' → RTakePost w q c P L G (.returned (.tuple #[.int .i64 0, .int .i64 2])) w' from fun w' e e' => by
    subst e'
    have q1 : takeA L = 0 := by unfold takeA; rw [e]
    have q2 : takeC L = 2 := by unfold takeC; rw [e]
    have q3 : takeL L = L := by unfold takeL; rw [e]
    unfold RTakePost
    rw [q1, q2, q3]
    exact ⟨rfl, HR.out.same (Kept.refl _ _)⟩)
  have P1 := Lib.hid (show ∀ k pg b r w', L[k]? = some ⟨pg, b :: r⟩ → takeQ L = some (b, L.set k ⟨pg, r⟩) → RpN w q c P (L.set k ⟨pg, r⟩) G w' → RTakePost w q c P L G (.returned (.tuple #[.int .i64 (b : Int), .int .i64 0])) w' from fun k pg b r w' hk e hr => by
    have q1 : takeA L = (b : Nat) := by unfold takeA; rw [e]
    have q2 : takeC L = 0 := by unfold takeC; rw [e]
    have q3 : takeL L = L.set k ⟨pg, r⟩ := by unfold takeL; rw [e]
    unfold RTakePost
    rw [q1, q2, q3]
    exact ⟨rfl, hr⟩)
  obtain ⟨n, hln⟩ : ∃ n, L.length = n := ⟨_, rfl⟩
  rw [hln] at c2 hn
  have HL := Lib.hid hln
  have hq := h.lt q h.gq
  clear h gd hln
  go_enter Try.func14, Try.ntmps14
  go_wp2_with fail
  go_loopw [4] (fun i wr => ∃ k : Nat, k ≤ n ∧ i = .int .i64 (k : Int) ∧ Hid (∀ y ∈ L.take k, y.free = []) ∧ w = wr) (fun i _ => n - (intOf i).toNat)
  case atStart => exact ⟨0, by omega, rfl, Lib.hid (fun y hy => by simp at hy), rfl⟩
  case round =>
    obtain ⟨k, hk, rfl, HB, rfl⟩ := hrel
    by_cases ck : k < n
    · obtain ⟨g, o, x, B, cb, en, rfl, hg, hx, hen, hee, a0, a1, rb, hB, hcb⟩ := HR.out.get (k := k) (by rw [HL.out]; exact ck)
      obtain ⟨pg, fr⟩ := x
      cases fr with
      | nil =>
        have hs := Lib.hid (show ∀ y ∈ L.take (k + 1), y.free = [] from fun y hy => by
          rw [take_at hx] at hy
          rcases List.mem_append.1 hy with hy | hy
          · exact HB.out y hy
          · obtain rfl := List.mem_singleton.1 hy; rfl)
        have a1 : w.cell? ⟨g, o + k * 2 + 1, none⟩ = some (.slice B 0 cb) := a1
        clear hx rb
        go_wp2_with fail
        refine ⟨⟨k + 1, by omega, by go_num, hs, by first | trivial | rfl⟩, ?_⟩
        simp [intOf]; omega
      | cons b r =>
        have fw := HG.out.few (List.mem_of_getElem? hx)
        have pp := per_pos HG.out.cls
        have fw' : r.length ≤ 100 := by simp only [List.length_cons] at fw; omega
        have T := Lib.hid (takeQ_at HB.out hx)
        have HX := Lib.hid hx
        have HE := Lib.hid hen
        have RB := Lib.hid rb
        have a1 : w.cell? ⟨g, o + k * 2 + 1, none⟩ = some (.slice B (r.length + 1) cb) := a1
        have hcb : r.length + 1 ≤ cb := hcb
        obtain ⟨gb, ob, b', rfl, hgb, hb', _, b0⟩ := rb.getN (k := 0) (by simp)
        obtain rfl : b = b' := by simpa using hb'
        rw [Nat.add_zero] at b0
        have A1 := Lib.hid a1
        have B0 := Lib.hid b0
        have z0 : decide ((r.length : Int) + 1 > 0) = true := decide_eq_true (by omega)
        have RS := Lib.hid (show Rf.Rs (w.alloc (.cells #[] 71)) (some ⟨g, o, none⟩) n es from by rw [← HL.out]; exact HR.out.rs.old ((Kept.refl Old w).alloc _))
        have OO := Lib.hid (Rf.Ow.ofEmpty (Nat.le_refl w.heap.size) (Blk.new w 71 []))
        have K1 := Lib.hid ((Kept.refl Old w).alloc (.cells #[] 71))
        have hq1 : q < (w.alloc (.cells #[] 71)).heap.size := Nat.lt_of_lt_of_le hq K1.out.size
        clear hx rb hb' fw pp hen hB
        go_wp2_with (at_builtin; refine Rf.app_wp rfl (.tmp 27) (.tmp 31) rfl rfl w.heap.size (.slice (some ⟨w.heap.size, 0, none⟩) 0 0) 0 [] rfl OO.out (some ⟨g, o, none⟩) n cap es rfl RS.out (by intro h; cases h) (by omega) (by omega) K1.out.size n (Nat.zero_add _) es (List.nil_append _) ?_; intro v2 w2 O2 k2 a2; obtain ⟨g2, c2', rfl, hb2, hg2, hc2, fz2⟩ := O2.out.blk1 (by omega); have K2 := Lib.hid (OO.out.step K1.out k2.out); have d2 := cellP_on K2.out c2; have df := (HR.out.box.kept K2.out (fun x => x)).frozen 2)
        have Q2 := Lib.hid (HR.out.box2 K2.out (.slice (some ⟨g2, 0, none⟩) n c2'))
        have KQ := Lib.hid (show Kept (Only q) w (w2.setCell ⟨q, 2, none⟩ (.slice (some ⟨g2, 0, none⟩) n c2')) from K2.out.any.trans (only_setCell _ _ _ _))
        have ne2 : g2 ≠ q := by omega
        have R2 := Lib.hid (show Rf.Rs (w2.setCell ⟨q, 2, none⟩ (.slice (some ⟨g2, 0, none⟩) n c2')) (some ⟨g2, 0, none⟩) n es from by
          obtain ⟨A', c', e, rr, _, _⟩ := O2.out.rs
          injection e with e1 e2 e3
          subst e1
          exact rr.kept (only_setCell _ _ _ _) (fun ad e => by injection e with e; subst e; exact ne2))
        have F2 := Lib.hid (show Fz (w2.setCell ⟨q, 2, none⟩ (.slice (some ⟨g2, 0, none⟩) n c2')) g2 from fz2.kept (only_setCell _ _ _ _) ne2)
        clear d2 df k2 a2 fz2 O2 c2 a0 a1 b0
        generalize w2.setCell ⟨q, 2, none⟩ (.slice (some ⟨g2, 0, none⟩) n c2') = W3 at *
        have d2 : W3.cell? ⟨q, 2, none⟩ = some (.slice (some ⟨g2, 0, none⟩) n c2') := Q2.out.cell 2
        have D2 := Lib.hid d2
        have qf : ∀ i, W3.frozen? ⟨q, i, none⟩ = false := fun i => Q2.out.frozen i
        have kI : (k : Int) < (n : Int) := by omega
        have E2 := Lib.hid (show W3.cell? ⟨g2, k * 2 + 1, none⟩ = some (.slice (some ⟨gb, ob, none⟩) (r.length + 1) cb) from by
          obtain ⟨gx, ox, ex, e, _, hx3, _, _, _, c3⟩ := R2.out.get ck
          injection e with e
          injection e with e1 e2
          subst e1
          subst e2
          rw [HE.out] at hx3
          injection hx3 with hx3
          rw [← hx3, hee, Nat.zero_add] at c3
          exact c3)
        have RB3 := Lib.hid (RB.out.kept KQ.out (fun ad e z => (HR.out.gE _ (List.mem_of_getElem? HE.out) ad (by rw [hee]; exact e)).2 z))
        obtain ⟨A', hA', R3⟩ : ∃ A' : Option Addr, (if cb = 1 then some (⟨gb, ob, none⟩ : Addr) else some ⟨gb, ob + 1, none⟩) = A' ∧ Hid (RsI W3 A' r.length (NI r)) := ⟨_, rfl, Lib.hid (by
          have t := RB3.out
          refine ⟨NI_length _, fun x hx => t.fit x (List.mem_cons_of_mem _ hx), fun hr => ?_⟩
          · obtain ⟨gx, ox, e, lt, cx⟩ := t.lies (by simp)
            injection e with e
            injection e with e1 e2
            subst e1
            subst e2
            have hcb' : r.length + 1 ≤ cb := hcb
            refine ⟨gb, ob + 1, by rw [if_neg (by omega)], lt, fun i x hx => ?_⟩
            have := cx (i + 1) x (by simpa [NI] using hx)
            rw [show ob + (i + 1) = ob + 1 + i by omega] at this
            exact this)⟩
        have OI := Lib.hid (OwI.ofEmpty (Nat.le_refl W3.heap.size) (show Blk (W3.drew.alloc (.cells #[] 3)) W3.heap.size 3 [] from Blk.new W3.drew 3 []))
        have KI := Lib.hid ((Kept.refl Old W3).drew.alloc (.cells #[] 3))
        have R3 := Lib.hid (R3.out.old KI.out)
        have hA'' : A' ≠ none := by rw [← hA']; split <;> simp
        go_region_held_law (fun w' => w'.cell? ⟨q, 2, none⟩ = some (.slice (some ⟨g2, 0, none⟩) n c2'))
          (first | (exact ‹_›) | (exact cellP_on K4.out D2.out) | go_keep)
          (first | (refine app_stepI rfl (.tmp 40) (.tmp 42) rfl rfl W3.heap.size (.slice (some ⟨W3.heap.size, 0, none⟩) 0 0) 0 [] (by simp [Act.eval]) OI.out A' r.length (cb - 1) (NI r) (by simp [Act.eval]) R3.out (fun h => absurd h hA'') (by omega) (by omega) KI.out.size r.length (Nat.zero_add _) (NI r) (List.nil_append _) ?_; intro v4 w4 O4 k4 a4; obtain ⟨A4, c4, rfl, _⟩ := O4.out.rs; have K4 := Lib.hid (OI.out.step KI.out k4.out); have e4 := cellP_on K4.out E2.out; have f4 := (F2.out.kept K4.out (fun x => x)).frozen (k * 2 + 1)))
        all_goals
          have n4 : g2 < W3.heap.size := F2.out.lt
          have KW : Kept (Only q) w (w4.setCell ⟨g2, k * 2 + 1, none⟩ (.slice A4 r.length c4)) := (KQ.out.trans K4.out.any).join (only_setCell w4 g2 (k * 2 + 1) (.slice A4 r.length c4)) (fun i hi e => by have e : i = g2 := e; subst e; have hi : i < w.heap.size := hi; omega)
          have gbq : gb ≠ q := (HR.out.gE _ (List.mem_of_getElem? HE.out) ⟨gb, ob, none⟩ (by rw [hee])).2
          have b5 : (w4.setCell ⟨g2, k * 2 + 1, none⟩ (.slice A4 r.length c4)).cell? ⟨gb, ob, none⟩ = some (.int .i64 (b : Int)) := (KW.cell hgb gbq).trans B0.out
          have hw := KQ.out.size
          have hw4 := K4.out.size
          obtain ⟨o1, o2, o3, o4⟩ := O4.out.at
          have R5 := (R2.out.old K4.out).put1 HE.out A4 r.length c4
          rw [Nat.zero_add] at R5
          have B5 := Lib.hid (P1.out k pg b r _ HX.out T.out (HR.out.next KW (L' := L.set k ⟨pg, r⟩) (A' := some ⟨g2, 0, none⟩) (cap' := c2') (es' := es.set k ⟨en.a, A4, r.length, c4⟩)
            (by rw [List.length_set, HL.out]; exact (Q2.out.kept K4.out (fun x => x)).kept (only_setCell w4 g2 (k * 2 + 1) (.slice A4 r.length c4)) (fun e => ne2 e.symm))
            (by rw [List.length_set, HL.out]; exact R5)
            (.inr ⟨g2, 0, rfl⟩)
            (by rw [List.length_set, HL.out]; exact hc2)
            ((HR.out.ents KW).set ⟨by rw [hee], rfl, o3.kept (only_setCell w4 g2 (k * 2 + 1) (.slice A4 r.length c4)) (fun ad e z => by have := (o4 ad e).1; have z : ad.block = g2 := z; omega), o1, o2⟩)
            (fun ad e => by injection e with e; subst e; rw [size_setP]; exact ⟨by show _ ≤ g2; omega, by show g2 < _; omega⟩)
            (fun e he => by
              rcases mem_set he with ⟨rfl, _⟩ | ⟨j, _, hj⟩
              · exact .inr (fun ad e => by have := o4 ad e; rw [size_setP]; omega)
              · exact .inl (List.mem_of_getElem? hj))))
          clear KW R5 o1 o2 o3 o4
          go_wp2_with fail
          go_ret2
          exact B5.out
    · obtain rfl : k = n := by omega
      have Q1 := Lib.hid (P0.out w (takeQ_none (by have := HB.out; rw [← HL.out, List.take_length] at this; exact this)) rfl)
      go_wp2_with fail
      go_ret2
      exact Q1.out
end Go.Proofs.Ytcaongcpfepcjaa.Prt
