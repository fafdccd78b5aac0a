/-
  The landed pool and the document's, side by side, beside a list that grows (Bo); what the law's Same answers. Own work; Same is proved by a walk through the text.
-/
import Derived.Test.YtcaongcpfepcjaaRows
import Derived.Test.YtcaongcpfepcjaaPoolLaw
import Derived.Test.YtcaongcpfepcjaaRefTake
import Derived.Test.YtcaongcpfepcjaaRefAdd
import Derived.Test.YtcaongcpfepcjaaRefPut
import Derived.Test.YtcaongcpfepcjaaIntSame
namespace Go.Proofs.Ytcaongcpfepcjaa.Prt
open Go.ChangeShapes Go.WideShapes Go.ChangeAt Go.RowKit
set_option maxRecDepth 100000

theorem radd_any {q c P : Nat} {L : List Q} {G : Nat → Prop} (p : Int) (w : World) (h : RpX w q c P L G) (gd : GoodP P c L) (hP : P ≤ 256) :
    Calls Try.prog 12 #[ptr q, .int .i64 p] w (RAddPost w q c P L p G) := by
  by_cases c0 : p < 0 ∨ (P : Int) - 8 < p
  · refine (radd_arg p w h gd hP c0).mono ?_
    rintro e w' ⟨rfl, rfl⟩
    unfold RAddPost addC addL
    rw [if_pos c0, if_pos c0]
    obtain ⟨A, cap, es, h⟩ := h
    exact ⟨rfl, h.same (Kept.refl _ _)⟩
  · obtain ⟨m, rfl⟩ : ∃ m : Nat, p = (m : Int) := ⟨p.toNat, by omega⟩
    exact radd_in m w h gd hP (by omega)

/-- The landed pool has the spans of L, the document's those of M; v is the list l. -/
def Bo (w W : World) (p a g q P c : Nat) (L M : List Q) (v : Value) (l : List Int) : Prop :=
  ∃ G : Nat → Prop, StP w W p a g P c L (fun b => OwnB v b ∨ G b) ∧ RpX W q c P M G ∧ GoodP P c M ∧ OwI W w.heap.size v l.length l ∧ ∀ b, G b → w.heap.size ≤ b ∧ v.ownBlock ≠ some b
theorem Bo.kept {w W : World} {p a g q P c : Nat} {L M : List Q} {v : Value} {l : List Int} (h : Bo w W p a g q P c L M v l) : Kept Old w W := by obtain ⟨G, s, _⟩ := h; exact s.kept
theorem Bo.good {w W : World} {p a g q P c : Nat} {L M : List Q} {v : Value} {l : List Int} (h : Bo w W p a g q P c L M v l) : GoodP P c L := by obtain ⟨G, s, _⟩ := h; exact s.good
theorem Bo.big {w W : World} {p a g q P c : Nat} {L M : List Q} {v : Value} {l : List Int} (h : Bo w W p a g q P c L M v l) : P ≤ 256 := by obtain ⟨G, s, _⟩ := h; exact s.big
theorem Bo.tk {w W : World} {p a g q P c : Nat} {L M : List Q} {v : Value} {l : List Int} (h : Bo w W p a g q P c L M v l) : OwI W w.heap.size v l.length l := by obtain ⟨G, _, _, _, t, _⟩ := h; exact t
theorem RpX.lt {W : World} {q c P : Nat} {L : List Q} {G : Nat → Prop} (h : RpX W q c P L G) : G q ∧ ∀ b, G b → b < W.heap.size := by obtain ⟨A, cap, es, r⟩ := h; exact ⟨r.gq, r.lt⟩
theorem Bo.old {w W W' : World} {p a g q P c : Nat} {L M : List Q} {v : Value} {l : List Int} (h : Bo w W p a g q P c L M v l) (k : Kept Old W W') : Bo w W' p a g q P c L M v l := by
  obtain ⟨G, s, r, gm, t, n⟩ := h
  exact ⟨G, s.old k, r.old k, gm, t.old k, n⟩
/-- The landed pool has turned. -/
theorem Bo.pool {w W W' : World} {p a g q P c : Nat} {L' M : List Q} {v : Value} {l : List Int} {G : Nat → Prop} (r : RpX W q c P M G) (gm : GoodP P c M) (t : OwI W w.heap.size v l.length l) (n : ∀ b, G b → w.heap.size ≤ b ∧ v.ownBlock ≠ some b)
    (s : StP w W' p a g P c L' (fun b => OwnB v b ∨ G b)) (k : Kept (Fr (fun b => OwnB v b ∨ G b)) W W') : Bo w W' p a g q P c L' M v l :=
  ⟨G, s, r.kept k (fun _ hb z => z (.inr hb)), gm, t.kept k (fun _ e z => z (.inl e)), n⟩
/-- The document's has turned. -/
theorem Bo.ref {w W W' : World} {p a g q P c : Nat} {L M M' : List Q} {v : Value} {l : List Int} {G : Nat → Prop} (s : StP w W p a g P c L (fun b => OwnB v b ∨ G b)) (r : RpX W q c P M G) (t : OwI W w.heap.size v l.length l) (n : ∀ b, G b → w.heap.size ≤ b ∧ v.ownBlock ≠ some b)
    (r' : RpN W q c P M' G W') (gm : GoodP P c M') : Bo w W' p a g q P c L M' v l := by
  obtain ⟨r1, k⟩ := r'
  have hq := n q r.lt.1
  refine ⟨Gn G W W', s.only k (fun b e => by have e : b = q := e; subst e; exact ⟨.inr r.lt.1, hq.1⟩) (fun b e => ?_), r1, gm, t.kept k (fun b e z => hq.2 (by rw [e]; exact congrArg some z)), fun b hb => ?_⟩
  · rcases e with e | e | e
    · exact .inl (.inl e)
    · exact .inl (.inr e)
    · exact .inr e
  · rcases hb with hb | hb
    · exact n b hb
    · refine ⟨Nat.le_trans s.kept.size hb.1, fun e => ?_⟩
      have := (t.own b e.symm).2
      omega
/-- Behind an append. -/
theorem Bo.app {w W W' : World} {p a g q P c : Nat} {L M : List Q} {v v' : Value} {l l' : List Int} (h : Bo w W p a g q P c L M v l) (o : OwI W' w.heap.size v' l'.length l') (k : Kept (fun k => some k = v.ownBlock) W W') (hv : v'.ownBlock = v.ownBlock ∨ v'.ownBlock = some W.heap.size) : Bo w W' p a g q P c L M v' l' := by
  obtain ⟨G, s, r, gm, t, n⟩ := h
  refine ⟨G, s.only k (fun b e => ⟨.inl e.symm, (t.own b e).1⟩) (fun b e => ?_), r.kept k (fun b hb e => (n b hb).2 e.symm), gm, o, fun b hb => ⟨(n b hb).1, fun e => ?_⟩⟩
  · rcases e with e | e
    · have e : v'.ownBlock = some b := e
      have lt := (o.own b e.symm).2
      rcases hv with f | f
      · exact .inl (.inl (by show v.ownBlock = some b; rw [← f]; exact e))
      · rw [e] at f
        injection f with f
        exact .inr ⟨by omega, lt⟩
    · exact .inl (.inr e)
  · rcases hv with f | f
    · exact (n b hb).2 (by rw [← f]; exact e)
    · rw [e] at f
      injection f with f
      have := r.lt.2 b hb
      omega
/-- The document's pool, just made. -/
theorem Bo.start {w W : World} {p a g P c : Nat} {F : Nat → Prop} (s : StP w W p a g P c [] F) : Bo w (W.alloc (.cells #[.int .i64 (c : Int), .int .i64 (P : Int), .slice none 0 0] 30)) p a g W.heap.size P c [] [] (.slice none 0 0) [] := by
  have k := (Kept.refl Old W).alloc (.cells #[.int .i64 (c : Int), .int .i64 (P : Int), .slice none 0 0] 30)
  have b := Blk.new W 30 [.int .i64 (c : Int), .int .i64 (P : Int), .slice none 0 0]
  refine ⟨fun b => b = W.heap.size, s.more k (fun x hx => ?_), ⟨none, 0, [], b, Rf.Rs.nil _ _, .inl ⟨rfl, rfl⟩, Nat.le_refl _, Ents.nil _, rfl, (fun ad e => by cases e), (fun e he => by cases he), (fun x hx => by subst hx; exact b.lt)⟩, GoodP.nil s.good.cls, OwI.nil _ _, fun x hx => ⟨by subst hx; exact s.kept.size, (fun e => by cases e)⟩⟩
  rcases hx with e | rfl
  · cases e
  · exact .inr ⟨Nat.le_refl _, b.lt⟩

/-! ### The calls -/
theorem bo_padd {w W : World} {p a g q P c : Nat} {L M : List Q} {v : Value} {l : List Int} (x : Int) (h : Bo w W p a g q P c L M v l) :
    Calls Try.prog 11 #[ptr p, ptr a, .int .i64 x] W fun e W' => e = .returned (.int .i64 (addC P L x)) ∧ Bo w W' p a g q P c (addL P c L x) M v l := by
  obtain ⟨G, s, r, gm, t, n⟩ := h
  exact (st_add x s).mono fun e W' h => ⟨h.1, Bo.pool r gm t n h.2.1 h.2.2⟩
theorem bo_ptake {w W : World} {p a g q P c : Nat} {L M : List Q} {v : Value} {l : List Int} (h : Bo w W p a g q P c L M v l) :
    Calls Try.prog 13 #[ptr p, ptr a] W fun e W' => e = .returned (.tuple #[.int .i64 (takeA L), .int .i64 (takeC L)]) ∧ Bo w W' p a g q P c (takeL L) M v l := by
  obtain ⟨G, s, r, gm, t, n⟩ := h
  exact (st_take s).mono fun e W' h => ⟨h.1, Bo.pool r gm t n h.2.1 h.2.2⟩
theorem bo_pput {w W : World} {p a g q P c : Nat} {L M : List Q} {v : Value} {l : List Int} (x : Int) (h : Bo w W p a g q P c L M v l) :
    Calls Try.prog 15 #[ptr p, ptr a, .int .i64 x] W fun e W' => e = .returned (.tuple #[.int .i64 (putP c L x), .bool (putG c L x), .int .i64 (putC c L x)]) ∧ Bo w W' p a g q P c (putL c L x) M v l := by
  obtain ⟨G, s, r, gm, t, n⟩ := h
  exact (st_put x s).mono fun e W' h => ⟨h.1, Bo.pool r gm t n h.2.1 h.2.2⟩
theorem bo_radd {w W : World} {p a g q P c : Nat} {L M : List Q} {v : Value} {l : List Int} (x : Int) (h : Bo w W p a g q P c L M v l) :
    Calls Try.prog 12 #[ptr q, .int .i64 x] W fun e W' => e = .returned (.int .i64 (addC P M x)) ∧ Bo w W' p a g q P c L (addL P c M x) v l := by
  obtain ⟨G, s, r, gm, t, n⟩ := h
  exact (radd_any x W r gm s.big).mono fun e W' h => ⟨h.1, Bo.ref s r t n h.2 (gm.add x)⟩
theorem bo_rtake {w W : World} {p a g q P c : Nat} {L M : List Q} {v : Value} {l : List Int} (h : Bo w W p a g q P c L M v l) :
    Calls Try.prog 14 #[ptr q] W fun e W' => e = .returned (.tuple #[.int .i64 (takeA M), .int .i64 (takeC M)]) ∧ Bo w W' p a g q P c L (takeL M) v l := by
  obtain ⟨G, s, r, gm, t, n⟩ := h
  exact (rtake_any W r gm s.big).mono fun e W' h => ⟨h.1, Bo.ref s r t n h.2 gm.take⟩
theorem bo_rput {w W : World} {p a g q P c : Nat} {L M : List Q} {v : Value} {l : List Int} (x : Int) (h : Bo w W p a g q P c L M v l) :
    Calls Try.prog 16 #[ptr q, .int .i64 x] W fun e W' => e = .returned (.tuple #[.int .i64 (putP c M x), .bool (putG c M x), .int .i64 (putC c M x)]) ∧ Bo w W' p a g q P c L (putL c M x) v l := by
  obtain ⟨G, s, r, gm, t, n⟩ := h
  exact (rput_any x W r gm s.big).mono fun e W' h => ⟨h.1, Bo.ref s r t n h.2 (gm.put x)⟩
theorem spansL_len (L : List Q) : (spansL L).length = L.length := by unfold spansL; simp
set_option maxHeartbeats 2000000 in
theorem bo_same {w W : World} {p a g q P c : Nat} {L : List Q} {v : Value} {l : List Int} (h : Bo w W p a g q P c L L v l) :
    Calls Try.prog 17 #[ptr p, ptr a, ptr q] W fun e W' => e = .returned (.bool true) ∧ Bo w W' p a g q P c L L v l := by
  have h0 := Lib.hid h
  obtain ⟨G, s, r, gm, t, n⟩ := h
  have S := Lib.hid s
  have R := Lib.hid r
  have GM := Lib.hid gm
  have hP := s.big
  have hL := s.len
  have fl := freeL_len gm
  clear s r gm t n
  go_enter Try.func17, Try.ntmps17
  go_wp2_with fail
  refine (rall_any W R.out GM.out hP).mono ?_
  rintro e w1 ⟨v1, rfl, A1, n1, c1, rfl, r1, hc1, _, k1⟩
  have S1 := Lib.hid (S.out.old k1)
  have R1 := Lib.hid (R.out.old k1)
  have K1 := Lib.hid k1
  have X1 := Lib.hid r1
  have e1 := r1.lenN
  clear k1 r1 S R
  go_wp2_with fail
  refine (st_spans S1.out).mono ?_
  rintro e w2 ⟨v2, rfl, A2, n2, c2, rfl, r2, hc2, _, k2⟩
  have S2 := Lib.hid (S1.out.old k2)
  have R2 := Lib.hid (R1.out.old k2)
  have K2 := Lib.hid (K1.out.trans k2)
  have X1 := Lib.hid (X1.out.old k2)
  have X2 := Lib.hid r2
  have e2 := r2.len
  rw [spansL_len] at e2
  clear k2 r2 S1 R1 K1
  go_wp2_with fail
  refine (rspans_any w2 R2.out GM.out hP).mono ?_
  rintro e w3 ⟨v3, rfl, A3, n3, c3, rfl, r3, hc3, _, k3⟩
  have S3 := Lib.hid (S2.out.old k3)
  have K3 := Lib.hid (K2.out.trans k3)
  have X1 := Lib.hid (X1.out.old k3)
  have X2 := Lib.hid (X2.out.old k3)
  have X3 := Lib.hid r3
  have e3 := r3.len
  rw [spansL_len] at e3
  clear k3 r3 S2 R2 K2
  obtain rfl : n2 = n3 := by omega
  go_wp2_with fail
  refine (parts_any A2 A3 n2 c2 c3 (spansL L) w3 X2.out X3.out (by omega)).mono ?_
  rintro e w4 ⟨rfl, k4⟩
  have S4 := Lib.hid (S3.out.old k4)
  have K4 := Lib.hid (K3.out.trans k4)
  have X1 := Lib.hid (X1.out.old k4)
  clear k4 S3 K3 X2 X3
  go_wp2_with fail
  refine (st_free S4.out).mono ?_
  rintro e w5 ⟨v5, rfl, A5, n5, c5, rfl, r5, hc5, _, k5⟩
  have S5 := Lib.hid (S4.out.old k5)
  have K5 := Lib.hid (K4.out.trans k5)
  have X1 := Lib.hid (X1.out.old k5)
  have X5 := Lib.hid r5
  have e5 := r5.lenN
  clear k5 r5 S4 K4
  obtain rfl : n1 = n5 := by omega
  go_wp2_with fail
  refine (sameInts_any A5 A1 n1 c5 c1 (NI (freeL L)) w5 X5.out X1.out (by omega)).mono ?_
  rintro e w6 ⟨rfl, k6⟩
  have S6 := Lib.hid (S5.out.old k6)
  have K6 := Lib.hid (K5.out.trans k6)
  clear k6 S5 K5 X1 X5
  go_wp2_with fail
  refine (st_len S6.out).mono ?_
  rintro e w7 ⟨rfl, k7⟩
  have K7 := Lib.hid (h0.out.old (K6.out.trans k7))
  have e7 : lenL L = n1 := e1
  rw [e7]
  clear k7 S6 K6
  go_wp2_with fail
  go_ret
  exact ⟨rfl, K7.out⟩
end Go.Proofs.Ytcaongcpfepcjaa.Prt
