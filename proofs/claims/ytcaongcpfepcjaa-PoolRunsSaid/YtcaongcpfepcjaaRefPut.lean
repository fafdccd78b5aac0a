/-
  What the document's own Put answers, and leaves. Own work; proved by a walk through the text.
-/
import Derived.Test.YtcaongcpfepcjaaRows
import Derived.Test.YtcaongcpfepcjaaRefEnts
import Derived.Test.YtcaongcpfepcjaaRfApp
import Derived.Test.YtcaongcpfepcjaaSizeCalls
import Derived.Test.YtcaongcpfepcjaaRegionLast
namespace Go.Proofs.Ytcaongcpfepcjaa.Prt
open Go.ChangeShapes Go.WideShapes Go.ChangeAt Go.RowKit
set_option maxRecDepth 100000

/-- What the document's Put leaves. -/
def RPutPost (W : World) (q c P : Nat) (L : List Q) (a : Int) (G : Nat → Prop) (e : Ending) (W' : World) : Prop :=
  e = .returned (.tuple #[.int .i64 (putP c L a), .bool (putG c L a), .int .i64 (putC c L a)]) ∧ RpN W q c P (putL c L a) G W'
/-- Where an address stands to a span. -/
theorem at_ways {c : Nat} (page : Nat) (a : Int) : (a < (page : Int) * 64 ∧ atB c page a = false) ∨ ((page : Int) * 64 ≤ a ∧ (page : Int) * 64 + 512 ≤ a ∧ atB c page a = false) ∨ ∃ d m : Nat, a = (m : Int) ∧ a - (page : Int) * 64 = (d : Int) ∧ (page : Int) * 64 ≤ a ∧ a < (page : Int) * 64 + 512 ∧ d < 512 ∧ ((d % wN c = 0 ∧ atB c page (m : Int) = true) ∨ (d % wN c ≠ 0 ∧ atB c page (m : Int) = false)) := by
  by_cases h1 : a < (page : Int) * 64
  · exact .inl ⟨h1, decide_eq_false fun h => by omega⟩
  · by_cases h2 : (page : Int) * 64 + 512 ≤ a
    · exact .inr (.inl ⟨by omega, h2, decide_eq_false fun h => by omega⟩)
    · obtain ⟨d, hd⟩ : ∃ d : Nat, a - (page : Int) * 64 = (d : Int) := ⟨(a - (page : Int) * 64).toNat, by omega⟩
      obtain ⟨m, hm⟩ : ∃ m : Nat, a = (m : Int) := ⟨a.toNat, by omega⟩
      subst hm
      have e : (m : Int) - ((page * 64 : Nat) : Int) = (d : Int) := by omega
      refine .inr (.inr ⟨d, m, rfl, hd, by omega, by omega, by omega, ?_⟩)
      by_cases h3 : d % wN c = 0
      · refine .inl ⟨h3, decide_eq_true ⟨by omega, by omega, ?_⟩⟩
        rw [e, ← Int.natCast_emod, h3]; rfl
      · refine .inr ⟨h3, decide_eq_false fun h => h3 ?_⟩
        have h := h.2.2
        rw [e, ← Int.natCast_emod] at h
        omega
set_option maxHeartbeats 4000000 in
theorem rput_any {q c P : Nat} {L : List Q} {G : Nat → Prop} (a : Int) (w : World) (h : RpX w q c P L G) (gd : GoodP P c L) (hP : P ≤ 256) :
    Calls Try.prog 16 #[ptr q, .int .i64 a] w (RPutPost w q c P L a G) := by
  obtain ⟨A, cap, es, h⟩ := h
  have hn : L.length ≤ 32 := by have := gd.len; omega
  have HR := Lib.hid h
  have HG := Lib.hid gd
  have c0 := h.c0
  have c2 := h.c2
  have hc := gd.cls
  have P0 := Lib.hid (show ∀ w', (∀ x ∈ L, atB c x.page a = false) → Kept Old w w' → RPutPost w q c P L a G (.returned (.tuple #[.int .i64 0, .bool false, .int .i64 1])) w' from fun w' e k => by
    unfold RPutPost putP putG putC putL
    rw [putR_none e]
    exact ⟨rfl, HR.out.same k⟩)
  have P4 := Lib.hid (show ∀ k m x w', a = (m : Nat) → (∀ y ∈ L.take k, atB c y.page a = false) → L[k]? = some x → atB c x.page a = true → m ∈ x.free → Kept Old w w' → RPutPost w q c P L a G (.returned (.tuple #[.int .i64 0, .bool false, .int .i64 4])) w' from fun k m x w' e h1 h2 h3 h4 kk => by
    unfold RPutPost putP putG putC putL
    rw [putR_at h1 h2 h3, if_pos (by rw [e]; exact h4)]
    exact ⟨rfl, HR.out.same kk⟩)
  have P1 := Lib.hid (show ∀ k m x w', a = (m : Nat) → (∀ y ∈ L.take k, atB c y.page a = false) → L[k]? = some x → atB c x.page a = true → m ∉ x.free → x.free.length + 1 = perN c → RpN w q c P (L.take k ++ L.drop (k + 1)) G w' → RPutPost w q c P L a G (.returned (.tuple #[.int .i64 (x.page : Int), .bool true, .int .i64 0])) w' from fun k m x w' e h1 h2 h3 h4 h5 hr => by
    unfold RPutPost putP putG putC putL
    rw [putR_at h1 h2 h3, if_neg (by rw [e]; exact h4), if_pos h5]
    exact ⟨rfl, hr⟩)
  have P2 := Lib.hid (show ∀ k m x w', a = (m : Nat) → (∀ y ∈ L.take k, atB c y.page a = false) → L[k]? = some x → atB c x.page a = true → m ∉ x.free → ¬ x.free.length + 1 = perN c → RpN w q c P (L.set k ⟨x.page, m :: x.free⟩) G w' → RPutPost w q c P L a G (.returned (.tuple #[.int .i64 (x.page : Int), .bool false, .int .i64 0])) w' from fun k m x w' e h1 h2 h3 h4 h5 hr => by
    unfold RPutPost putP putG putC putL
    rw [putR_at h1 h2 h3, if_neg (by rw [e]; exact h4), if_neg h5, e]
    exact ⟨rfl, hr⟩)
  obtain ⟨n, hln⟩ : ∃ n, L.length = n := ⟨_, rfl⟩
  rw [hln] at c2 hn
  have HL := Lib.hid hln
  have hq := h.lt q h.gq
  have wp := w_pos hc
  have wl := w_le hc
  have pp := per_pos hc
  have RW := Lib.hid (fun W => (show Calls Try.prog 31 #[.int .i64 (c : Int)] W fun e w' => e = .returned (.int .i64 ((wN c : Nat) : Int)) ∧ W = w' from by rw [← wordsI_c hc]; exact rwords_any _ _))
  have RP := Lib.hid (fun W => (show Calls Try.prog 30 #[.int .i64 (c : Int)] W fun e w' => e = .returned (.int .i64 ((perN c : Nat) : Int)) ∧ W = w' from by rw [← perI_c hc]; exact rper_any _ _))
  have C0 := Lib.hid c0
  have C2 := Lib.hid c2
  clear h gd hln
  go_enter Try.func16, Try.ntmps16
  go_wp2_with fail
  refine (RW.out _).mono ?_
  rintro e w' ⟨rfl, rfl⟩
  go_wp2_with fail
  clear c0 c2
  go_loopw [8] (fun s8 wr => ∃ k : Nat, k ≤ n ∧ s8 = .int .i64 (k : Int) ∧ Hid (∀ y ∈ L.take k, atB c y.page a = false) ∧ Hid (Kept Old w wr)) (fun i _ => n - (intOf i).toNat)
  case atStart => exact ⟨0, by omega, rfl, Lib.hid (fun y hy => by simp at hy), Lib.hid (Kept.refl _ _)⟩
  case round =>
    obtain ⟨k, hk, rfl, HB, K⟩ := hrel
    rename World => W
    have c2 := cellP_on K.out C2.out
    by_cases ck : k < n
    · obtain ⟨g, o, x, B, cb, en, rfl, hg, hx, hen, hee, a0, a1, rb, hB, hcb⟩ := (HR.out.old K.out).get (k := k) (by rw [HL.out]; exact ck)
      have xp := HG.out.inP x (List.mem_of_getElem? hx)
      have xf := HG.out.few (List.mem_of_getElem? hx)
      have HX := Lib.hid hx
      have HE := Lib.hid hen
      have HEE := Lib.hid hee
      have RB := Lib.hid rb
      have wf : IntKind.i64.wrap ((x.page : Int) * 64) = (x.page : Int) * 64 := IntWalk.i64_in _ (by omega)
      have wf2 : IntKind.i64.wrap ((x.page : Int) * 64 + 512) = (x.page : Int) * 64 + 512 := IntWalk.i64_in _ (by omega)
      have kI : (k : Int) < (n : Int) := by omega
      have hs := Lib.hid (show atB c x.page a = false → ∀ y ∈ L.take (k + 1), atB c y.page a = false from fun e y hy => by
        rw [take_at HX.out] at hy
        rcases List.mem_append.1 hy with hy | hy
        · exact HB.out y hy
        · obtain rfl := List.mem_singleton.1 hy; exact e)
      have K1 := Lib.hid (K.out.alloc (.cells #[.int .i64 (x.page : Int), .slice B x.free.length cb] 71))
      clear hx hen hee rb
      rcases at_ways (c := c) x.page a with ⟨h1, hz⟩ | ⟨h1, h2, hz⟩ | ⟨d, m, rfl, hd, h1, h2, h3, h4⟩
      · have hs := Lib.hid (hs.out hz)
        clear hz
        go_wp2_with fail
        refine ⟨⟨k + 1, by omega, by go_num, hs, K1⟩, ?_⟩
        simp [intOf]; omega
      · have hs := Lib.hid (hs.out hz)
        have h1' : ¬ a < (x.page : Int) * 64 := by omega
        clear hz
        go_wp2_with fail
        refine ⟨⟨k + 1, by omega, by go_num, hs, K1⟩, ?_⟩
        simp [intOf]; omega
      · have h1' : ¬ (m : Int) < (x.page : Int) * 64 := by omega
        have h2' : ¬ (x.page : Int) * 64 + 512 ≤ (m : Int) := by omega
        have wd : IntKind.i64.wrap ((m : Int) - (x.page : Int) * 64) = (d : Int) := by rw [hd]; exact IntWalk.i64_in _ (by omega)
        have wz : (((wN c : Nat) : Int) == 0) = false := by simp only [beq_eq_false_iff_ne, ne_eq]; omega
        have wz' : ¬ ((wN c : Nat) : Int) = 0 := by omega
        rcases h4 with ⟨h4, hz⟩ | ⟨h4, hz⟩
        · have r0 : (((d : Int) % ((wN c : Nat) : Int)) == 0) = true := by rw [← Int.natCast_emod, h4]; rfl
          have r1 : ((d : Int) % ((wN c : Nat) : Int)) = 0 := by rw [← Int.natCast_emod, h4]; rfl
          have HZ := Lib.hid hz
          obtain ⟨X, hX⟩ : ∃ X, W.heap.size = X := ⟨_, rfl⟩
          have BX := Lib.hid (Rf.Bx.new W ⟨(x.page : Int), B, x.free.length, cb⟩)
          have RB1 := Lib.hid (RB.out.old ((Kept.refl Old W).alloc (.cells #[.int .i64 (x.page : Int), .slice B x.free.length cb] 71)))
          have hXw : w.heap.size ≤ X := by rw [← hX]; exact K.out.size
          have hqX : q ≠ X := by omega
          clear hz hs
          go_wp2_with fail
          rw [hX] at BX
          try rw [hX]
          have BX : Hid (Rf.Bx (W.alloc (.cells #[.int .i64 (x.page : Int), .slice B x.free.length cb] 71)) X ⟨(x.page : Int), B, x.free.length, cb⟩) := BX
          clear a0 a1 c2 RB K hX r0 r1 wd wz wz' h1 h1' h2 h2' wf wf2 hd h4 h3
          generalize W.alloc (.cells #[.int .i64 (x.page : Int), .slice B x.free.length cb] 71) = W1 at *
          have hXl := Blk.lt BX.out
          have x1 : W1.cell? ⟨X, 1, none⟩ = some (.slice B x.free.length cb) := BX.out.c1
          have c2 := cellP_on K1.out C2.out
          have c0 := cellP_on K1.out C0.out
          go_loopw [11] (fun s11 wr => ∃ i : Nat, i ≤ x.free.length ∧ s11 = .int .i64 (i : Int) ∧ Hid (∀ b ∈ x.free.take i, b ≠ m) ∧ W1 = wr) (fun i _ => x.free.length - (intOf i).toNat)
          case atStart => exact ⟨0, by omega, rfl, Lib.hid (fun y hy => by simp at hy), rfl⟩
          case round =>
            obtain ⟨i, hi, rfl, HM, rfl⟩ := hrel
            by_cases ci : i < x.free.length
            · obtain ⟨gb, ob, b, rfl, _, hb, _, b0⟩ := RB1.out.getN ci
              have iI : (i : Int) < (x.free.length : Int) := by omega
              by_cases e : b = m
              · have e1 : ((b : Int) == (m : Int)) = true := by subst e; simp
                have Q1 := Lib.hid (P4.out k m x W1 rfl HB.out HX.out HZ.out (by rw [← e]; exact List.mem_of_getElem? hb) K1.out)
                subst e
                clear hb
                go_wp2_with fail
                go_ret3
                exact Q1.out
              · have e1 : ((b : Int) == (m : Int)) = false := by simp only [beq_eq_false_iff_ne, ne_eq]; omega
                have HM2 := Lib.hid (show ∀ b ∈ x.free.take (i + 1), b ≠ m from fun y hy => by
                  rw [take_at hb] at hy
                  rcases List.mem_append.1 hy with hy | hy
                  · exact HM.out y hy
                  · obtain rfl := List.mem_singleton.1 hy; exact e)
                clear hb e
                go_wp2_with fail
                refine ⟨⟨i + 1, by omega, by go_num, HM2, by first | trivial | rfl⟩, ?_⟩
                simp [intOf]; omega
            · obtain rfl : i = x.free.length := by omega
              have HN := Lib.hid (show m ∉ x.free from fun hm => HM.out m (by rw [List.take_length]; exact hm) rfl)
              have hm' : m < 16384 := by have := (at_range HZ.out).2; omega
              have OI := Lib.hid (OwI.ofOne (Nat.le_refl W1.heap.size) (show inI (m : Int) from ⟨by omega, by omega⟩) (Blk.new W1 3 [.int .i64 (m : Int)]))
              have KI := Lib.hid ((Kept.refl Old W1).alloc (.cells #[.int .i64 (m : Int)] 3))
              have RB2 := Lib.hid (RB1.out.old KI.out)
              have hB' := Lib.hid (show B = none → x.free.length = 0 ∧ cb = 0 from fun e => ⟨by have := hB e; omega, hB e⟩)
              have lN := Lib.hid (show [(m : Int)] ++ NI x.free = NI (m :: x.free) from rfl)
              clear hB HM ci
              go_wp2_with (at_builtin; refine app_wpI rfl (.tmp 68) (.tmp 70) rfl rfl W1.heap.size (.slice (some ⟨W1.heap.size, 0, none⟩) 1 1) 1 [(m : Int)] rfl OI.out B x.free.length cb (NI x.free) rfl RB2.out hB'.out (by omega) (by omega) KI.out.size (x.free.length + 1) (Nat.add_comm _ _) (NI (m :: x.free)) lN.out ?_; intro v4 w4 O4 k4 a4; obtain ⟨A4, c4, rfl, _⟩ := O4.out.rs; have K4 := Lib.hid (OI.out.step KI.out k4.out); have x4 := cellP_on K4.out x1; have f4 := (Blk.kept BX.out K4.out (fun x => x)).frozen 1)
              have B5 := Lib.hid ((Blk.kept BX.out K4.out (fun x => x)).put 1 (.slice A4 (x.free.length + 1) c4))
              have B5 : Hid (Rf.Bx (w4.setCell ⟨X, 1, none⟩ (.slice A4 (x.free.length + 1) c4)) X ⟨(x.page : Int), A4, x.free.length + 1, c4⟩) := B5
              have K5 := Lib.hid ((K1.out.trans K4.out).setCell (p := ⟨X, 1, none⟩) (fun h => absurd h (Nat.not_lt.2 hXw)) (.slice A4 (x.free.length + 1) c4))
              have O5 := Lib.hid (O4.out.kept (only_setCell w4 X 1 (.slice A4 (x.free.length + 1) c4)) (fun j hj e => by have := (O4.out.own j hj.symm).1; have e : j = X := e; omega))
              have hXS : w.heap.size ≤ W1.heap.size := K1.out.size
              clear x4 f4 O4 k4 a4 K4 x1 c2 c0 KI OI RB2 RB1 BX K1 hB' lN
              generalize w4.setCell ⟨X, 1, none⟩ (.slice A4 (x.free.length + 1) c4) = W5 at *
              have x1 : W5.cell? ⟨X, 1, none⟩ = some (.slice A4 (x.free.length + 1) c4) := B5.out.c1
              have c0 := cellP_on K5.out C0.out
              have wl1 : IntKind.i64.wrap ((x.free.length : Int) + 1) = (x.free.length : Int) + 1 := IntWalk.i64_in _ (by omega)
              go_region_held3 (fun w' => w'.cell? ⟨X, 1, none⟩ = some (.slice A4 (x.free.length + 1) c4) ∧ w'.cell? ⟨q, 0, none⟩ = some (.int .i64 (c : Int))) (first | (exact ⟨‹_›, ‹_›⟩) | (exact ‹_›) | go_keep) (first | (go_at_call 30; refine (RP.out _).mono ?_; rintro e w' ⟨rfl, rfl⟩))
              have B6 := Lib.hid (Blk.drew B5.out)
              have B6 : Hid (Rf.Bx W5.drew X ⟨(x.page : Int), A4, x.free.length + 1, c4⟩) := B6
              have K6 := Lib.hid K5.out.drew
              have O6 := Lib.hid O5.out.drew
              clear B5 K5 O5 x1 c0
              generalize W5.drew = W6 at *
              have x1 : W6.cell? ⟨X, 1, none⟩ = some (.slice A4 (x.free.length + 1) c4) := B6.out.c1
              have x0 : W6.cell? ⟨X, 0, none⟩ = some (.int .i64 (x.page : Int)) := B6.out.c0
              have c2 := cellP_on K6.out C2.out
              obtain ⟨o1, o2, o3, o4⟩ := O6.out.at
              have O3 := Lib.hid o3
              have O4 := Lib.hid o4
              have O1 := Lib.hid o1
              clear o1 o3 o4 O6
              have ncap : n ≤ cap := by have := HR.out.cp; rw [HL.out] at this; exact this
              have zW6 := K6.out.size
              by_cases gone : x.free.length + 1 = perN c
              · have t1 : ((x.free.length : Int) + 1 == ((perN c : Nat) : Int)) = true := by simp only [beq_iff_eq]; omega
                have t2 : (x.free.length : Int) + 1 = ((perN c : Nat) : Int) := by omega
                have RS := Lib.hid (show Rf.Rs W6 (some ⟨g, o, none⟩) n es from by rw [← HL.out]; exact HR.out.rs.old K6.out)
                have R1 := Lib.hid (RS.out.take (i := k) (by omega))
                have kc : k ≤ cap := by omega
                have kI2 : (k : Int) ≤ (n : Int) := by omega
                have wr1 : IntKind.i64.wrap ((k : Int) + 1) = (k : Int) + 1 := IntWalk.i64_in _ (by omega)
                have e0 : (0 : Int) ≤ (k : Int) + 1 := by omega
                have e1 : ((k : Int) + 1).toNat = k + 1 := by omega
                have e2 : (k : Int) + 1 ≤ (n : Int) := by omega
                have e3 : k + 1 ≤ n := by omega
                have e3' : k + 1 ≤ cap := by omega
                obtain ⟨A', hA', R2⟩ : ∃ A' : Option Addr, (if cap = k + 1 then some (⟨g, o, none⟩ : Addr) else some ⟨g, o + (k + 1) * 2, none⟩) = A' ∧ Hid (Rf.Rs W6 A' (n - (k + 1)) (es.drop (k + 1))) := ⟨_, rfl, Lib.hid (RS.out.tail _ fun g' o' e h => by injection e with e; injection e with e1 e2; subst e1; subst e2; exact if_neg (by omega))⟩
                have hA'' : A' ≠ none := by rw [← hA']; split <;> simp
                have fz := Lib.hid (fun w' (k : Kept Old W6 w') => (HR.out.box.kept (K6.out.trans k) (fun x => x)).frozen 2)
                have E := Lib.hid (show ∀ A3 c3 w', Hid (Rf.Ow w' W6.heap.size (.slice A3 (k + (n - (k + 1))) c3) (k + (n - (k + 1))) (es.take k ++ es.drop (k + 1))) → Hid (Kept Old W6 w') → RPutPost w q c P L m G (.returned (.tuple #[.int .i64 (x.page : Int), .bool true, .int .i64 0])) (w'.setCell ⟨q, 2, none⟩ (.slice A3 (k + (n - (k + 1))) c3)) from fun A3 c3 w' oo kk => by
                  have ll : (L.take k ++ L.drop (k + 1)).length = k + (n - (k + 1)) := by rw [List.length_append, List.length_take, List.length_drop, HL.out]; omega
                  have KQ : Kept (Only q) w (w'.setCell ⟨q, 2, none⟩ (.slice A3 (k + (n - (k + 1))) c3)) := ((K6.out.trans kk.out).any).trans (only_setCell _ _ _ _)
                  obtain ⟨s1, s2, s3, s4⟩ := oo.out.at
                  have zV := kk.out.size
                  refine P1.out k m x _ rfl HB.out HX.out HZ.out HN.out gone (HR.out.next KQ (A' := A3) (cap' := c3) (es' := es.take k ++ es.drop (k + 1)) ?_ ?_ s1 (by rw [ll]; exact s2) ?_ ?_ ?_)
                  · rw [ll]; exact HR.out.box2 (K6.out.trans kk.out) _
                  · rw [ll]; exact s3.kept (only_setCell _ _ _ _) (fun ad e z => by have := (s4 ad e).1; have z : ad.block = q := z; omega)
                  · have e1 := HR.out.ents KQ
                    exact (e1.take k).app (e1.drop (k + 1))
                  · intro ad e
                    have := s4 ad e
                    rw [size_setP]
                    exact ⟨by omega, this.2⟩
                  · intro e he
                    rcases List.mem_append.1 he with he | he
                    · exact .inl (List.mem_of_mem_take he)
                    · exact .inl (List.mem_of_mem_drop he))
                clear P0 P4 P1 P2 HZ HN HB HX HE HEE O1 O3 O4
                go_wp2_with fail
                refine wp_region_last 19 (fun w' => w'.cell? ⟨q, 2, none⟩ = some (.slice (some ⟨g, o, none⟩) n cap) ∧ w'.cell? ⟨X, 0, none⟩ = some (.int .i64 (x.page : Int))) (by kernel_rfl) rfl (by decide +kernel) ⟨c2, x0⟩ (fun hHeld => ?_)
                simp only [List.pop_toArray, List.dropLast_cons_cons, List.dropLast_singleton]
                refine wpAnyH_take (i := 0) (v := ptr q) rfl (by kernel_rfl) (by decide +kernel) (by decide +kernel) (fun _ _ _ h => h) (Or.inl ⟨by rfl, fun w' hSw => ?_⟩) hHeld ?_
                · (go_simp)
                simp only [Act.put, List.getElem_toArray, List.getElem_cons_zero, List.setIfInBounds_toArray, List.set_cons_zero, List.set_cons_succ]
                refine wpAnyH_take (i := 2) (v := ptr q) rfl (by kernel_rfl) (by decide +kernel) (by decide +kernel) (fun _ _ _ h => h) (Or.inl ⟨by rfl, fun w' hSw => ?_⟩) hHeld ?_
                · (go_simp)
                simp only [Act.put, List.getElem_toArray, List.getElem_cons_succ, List.getElem_cons_zero, List.setIfInBounds_toArray, List.set_cons_zero, List.set_cons_succ]
                refine wpAnyH_take (i := 3) (v := ptr q) rfl (by kernel_rfl) (by decide +kernel) (by decide +kernel) (fun _ _ _ h => h) (Or.inl ⟨by rfl, fun w' hSw => ?_⟩) hHeld ?_
                · (go_simp)
                simp only [Act.put, List.getElem_toArray, List.getElem_cons_succ, List.getElem_cons_zero, List.setIfInBounds_toArray, List.set_cons_zero, List.set_cons_succ]
                refine wpAnyH_take (i := 4) (v := .pointer (some ⟨q, 2, none⟩)) rfl (by kernel_rfl) (by decide +kernel) (by decide +kernel) (fun _ _ _ h => h) (Or.inl ⟨by rfl, fun w' hSw => ?_⟩) hHeld ?_
                · (go_simp)
                simp only [Act.put, List.getElem_toArray, List.getElem_cons_succ, List.getElem_cons_zero, List.setIfInBounds_toArray, List.set_cons_zero, List.set_cons_succ]
                refine wpAnyH_take (i := 5) (v := (.slice (some ⟨g, o, none⟩) n cap)) rfl (by kernel_rfl) (by decide +kernel) (by decide +kernel) (fun _ _ _ h => h) (Or.inl ⟨by rfl, fun w' hSw => ?_⟩) hHeld ?_
                · (go_simp)
                simp only [Act.put, List.getElem_toArray, List.getElem_cons_succ, List.getElem_cons_zero, List.setIfInBounds_toArray, List.set_cons_zero, List.set_cons_succ]
                refine wpAnyH_take (i := 6) (v := .int .i64 (k : Int)) rfl (by kernel_rfl) (by decide +kernel) (by decide +kernel) (fun _ _ _ h => h) (Or.inl ⟨by rfl, fun w' hSw => ?_⟩) hHeld ?_
                · (go_simp)
                simp only [Act.put, List.getElem_toArray, List.getElem_cons_succ, List.getElem_cons_zero, List.setIfInBounds_toArray, List.set_cons_zero, List.set_cons_succ]
                refine wpAnyH_take (i := 7) (v := .slice (some ⟨g, o, none⟩) k cap) rfl (by kernel_rfl) (by decide +kernel) (by decide +kernel) (fun _ _ _ h => h) (Or.inl ⟨by rfl, fun w' hSw => ?_⟩) hHeld ?_
                · (go_simp)
                simp only [Act.put, List.getElem_toArray, List.getElem_cons_succ, List.getElem_cons_zero, List.setIfInBounds_toArray, List.set_cons_zero, List.set_cons_succ]
                refine wpAnyH_take (i := 9) (v := ptr q) rfl (by kernel_rfl) (by decide +kernel) (by decide +kernel) (fun _ _ _ h => h) (Or.inl ⟨by rfl, fun w' hSw => ?_⟩) hHeld ?_
                · (go_simp)
                simp only [Act.put, List.getElem_toArray, List.getElem_cons_succ, List.getElem_cons_zero, List.setIfInBounds_toArray, List.set_cons_zero, List.set_cons_succ]
                refine wpAnyH_take (i := 10) (v := ptr q) rfl (by kernel_rfl) (by decide +kernel) (by decide +kernel) (fun _ _ _ h => h) (Or.inl ⟨by rfl, fun w' hSw => ?_⟩) hHeld ?_
                · (go_simp)
                simp only [Act.put, List.getElem_toArray, List.getElem_cons_succ, List.getElem_cons_zero, List.setIfInBounds_toArray, List.set_cons_zero, List.set_cons_succ]
                refine wpAnyH_take (i := 11) (v := .pointer (some ⟨q, 2, none⟩)) rfl (by kernel_rfl) (by decide +kernel) (by decide +kernel) (fun _ _ _ h => h) (Or.inl ⟨by rfl, fun w' hSw => ?_⟩) hHeld ?_
                · (go_simp)
                simp only [Act.put, List.getElem_toArray, List.getElem_cons_succ, List.getElem_cons_zero, List.setIfInBounds_toArray, List.set_cons_zero, List.set_cons_succ]
                refine wpAnyH_take (i := 12) (v := (.slice (some ⟨g, o, none⟩) n cap)) rfl (by kernel_rfl) (by decide +kernel) (by decide +kernel) (fun _ _ _ h => h) (Or.inl ⟨by rfl, fun w' hSw => ?_⟩) hHeld ?_
                · (go_simp)
                simp only [Act.put, List.getElem_toArray, List.getElem_cons_succ, List.getElem_cons_zero, List.setIfInBounds_toArray, List.set_cons_zero, List.set_cons_succ]
                refine wpAnyH_take (i := 13) (v := .int .i64 (k : Int)) rfl (by kernel_rfl) (by decide +kernel) (by decide +kernel) (fun _ _ _ h => h) (Or.inl ⟨by rfl, fun w' hSw => ?_⟩) hHeld ?_
                · (go_simp)
                simp only [Act.put, List.getElem_toArray, List.getElem_cons_succ, List.getElem_cons_zero, List.setIfInBounds_toArray, List.set_cons_zero, List.set_cons_succ]
                refine wpAnyH_take (i := 14) (v := .int .i64 ((k : Int) + 1)) rfl (by kernel_rfl) (by decide +kernel) (by decide +kernel) (fun _ _ _ h => h) (Or.inl ⟨by rfl, fun w' hSw => ?_⟩) hHeld ?_
                · (go_simp)
                simp only [Act.put, List.getElem_toArray, List.getElem_cons_succ, List.getElem_cons_zero, List.setIfInBounds_toArray, List.set_cons_zero, List.set_cons_succ]
                refine wpAnyH_take (i := 15) (v := .slice A' (n - (k + 1)) (cap - (k + 1))) rfl (by kernel_rfl) (by decide +kernel) (by decide +kernel) (fun _ _ _ h => h) (Or.inl ⟨by rfl, fun w' hSw => ?_⟩) hHeld ?_
                · (go_simp)
                simp only [Act.put, List.getElem_toArray, List.getElem_cons_succ, List.getElem_cons_zero, List.setIfInBounds_toArray, List.set_cons_zero, List.set_cons_succ]
                refine wpAnyH_ready (rs := [1]) (by decide +kernel) (by simp) (AllReadyH.cons rfl (fun K hK => ?_) AllReadyH.nil)
                simp only [List.getElem_toArray, List.getElem_cons_succ, List.getElem_cons_zero]
                rw [if_pos (by rfl)]
                go_simp
                refine hK.out _ _ ⟨cellP_on ((Kept.refl Old W6).alloc _).drew c2, cellP_on ((Kept.refl Old W6).alloc _).drew x0⟩ (fun hHeld => ?_)
                clear hK K
                refine wpAnyH_ready (rs := [8]) (by decide +kernel) (by simp) (AllReadyH.cons rfl (fun K hK => ?_) AllReadyH.nil)
                refine Rf.em_step (W := W6) rfl (.tmp 83) (.tmp 89) rfl rfl (some ⟨g, o, none⟩) k cap (es.take k) (by first | rfl | simp [Act.eval]) R1.out (fun h => by cases h) (by omega) ((Kept.refl Old W6).alloc _).drew ⟨W6.heap.size, rfl, Blk.new W6 _ [], Nat.le_refl _⟩ ?_
                intro v1 w1 O2 K2 pr
                refine hK.out _ _ ⟨cellP_on K2.out c2, cellP_on K2.out x0⟩ (fun hHeld => ?_)
                clear hK K
                refine wpAnyH_ready (rs := [16]) (by decide +kernel) (by simp) (AllReadyH.cons rfl (fun K hK => ?_) AllReadyH.nil)
                refine Rf.cut_step (W := W6) rfl (.tmp 90) (.tmp 97) rfl rfl v1 k (es.take k) (by first | rfl | simp [Act.eval]) A' (n - (k + 1)) (cap - (k + 1)) (es.drop (k + 1)) (by first | rfl | simp [Act.eval]) R2.out (fun h => absurd h hA'') (by omega) (by omega) O2.out K2.out ?_
                intro A3 c3 w3 O4 K4
                have e4 := cellP_on K4.out c2
                have f4 := fz.out w3 K4.out
                refine hK.out _ _ ⟨cellP_on K4.out c2, cellP_on K4.out x0⟩ (fun hHeld => ?_)
                clear hK K
                refine wpAnyH_take (i := 17) (v := ptr q) rfl (by kernel_rfl) (by decide +kernel) (by decide +kernel) (fun _ _ _ h => h) (Or.inl ⟨by rfl, fun w' hSw => ?_⟩) hHeld ?_
                · (go_simp)
                simp only [Act.put, List.getElem_toArray, List.getElem_cons_succ, List.getElem_cons_zero, List.setIfInBounds_toArray, List.set_cons_zero, List.set_cons_succ]
                refine wpAnyH_take (i := 18) (v := .pointer (some ⟨q, 2, none⟩)) rfl (by kernel_rfl) (by decide +kernel) (by decide +kernel) (fun _ _ _ h => h) (Or.inl ⟨by rfl, fun w' hSw => ?_⟩) hHeld ?_
                · (go_simp)
                simp only [Act.put, List.getElem_toArray, List.getElem_cons_succ, List.getElem_cons_zero, List.setIfInBounds_toArray, List.set_cons_zero, List.set_cons_succ]
                refine wpAnyH_done (by decide +kernel) ?_ _
                unfold LastQ
                refine wpOp_step rfl (fun K hK => ?_)
                simp only [List.getElem_toArray, List.getElem_cons_succ, List.getElem_cons_zero]
                rw [if_pos (by rfl)]
                go_simp
                refine hK _ _ ?_
                clear hK K
                have E5 := Lib.hid (E.out A3 c3 w3 O4 K4)
                have y0 : (w3.setCell ⟨q, 2, none⟩ (.slice A3 (k + (n - (k + 1))) c3)).cell? ⟨X, 0, none⟩ = some (.int .i64 (x.page : Int)) := by rw [World.cell?_setCell_other _ _ _ _ (fun e => by injection e with e1 e2; exact hqX e1)]; exact cellP_on K4.out x0
                clear hHeld e4 f4 O4 K4 O2 K2 pr E
                go_wp2_with fail
                go_ret3
                exact E5.out
              · have t1 : ((x.free.length : Int) + 1 == ((perN c : Nat) : Int)) = false := by simp only [beq_eq_false_iff_ne, ne_eq]; omega
                have t2 : ¬ (x.free.length : Int) + 1 = ((perN c : Nat) : Int) := by omega
                have RS := Lib.hid (show Rf.Rs (W6.alloc (.cells #[] 71)) (some ⟨g, o, none⟩) n es from by rw [← HL.out]; exact (HR.out.rs.old K6.out).old ((Kept.refl Old W6).alloc _))
                have OO := Lib.hid (Rf.Ow.ofEmpty (Nat.le_refl W6.heap.size) (Blk.new W6 71 []))
                have KE := Lib.hid ((Kept.refl Old W6).alloc (.cells #[] 71))
                have hq6 : q < W6.heap.size := by omega
                have hq1 : q < (W6.alloc (.cells #[] 71)).heap.size := by have := KE.out.size; omega
                clear P0 P4 P1
                go_wp2_with (at_builtin; refine Rf.app_wp rfl (.tmp 104) (.tmp 108) rfl rfl W6.heap.size (.slice (some ⟨W6.heap.size, 0, none⟩) 0 0) 0 [] rfl OO.out (some ⟨g, o, none⟩) n cap es rfl RS.out (by intro h; cases h) (by omega) (by omega) KE.out.size n (Nat.zero_add _) es (List.nil_append _) ?_; intro v2 w2 O2 k2 a2; obtain ⟨g2, c2', rfl, hb2, hg2, hc2, fz2⟩ := O2.out.blk1 (by omega); have K2 := Lib.hid (OO.out.step KE.out k2.out); have d2 := cellP_on K2.out c2; have df := (HR.out.box.kept (K6.out.trans K2.out) (fun x => x)).frozen 2)
                have Q2 := Lib.hid (HR.out.box2 (K6.out.trans K2.out) (.slice (some ⟨g2, 0, none⟩) n c2'))
                have KQ := Lib.hid (show Kept (Only q) w (w2.setCell ⟨q, 2, none⟩ (.slice (some ⟨g2, 0, none⟩) n c2')) from (K6.out.trans K2.out).any.trans (only_setCell _ _ _ _))
                have KV := Lib.hid (show Kept (Only q) W6 (w2.setCell ⟨q, 2, none⟩ (.slice (some ⟨g2, 0, none⟩) n c2')) from K2.out.any.trans (only_setCell _ _ _ _))
                have ne2 : g2 ≠ q := by omega
                have neX : g2 ≠ X := by have := Blk.lt B6.out; omega
                have R2 := Lib.hid (show Rf.Rs (w2.setCell ⟨q, 2, none⟩ (.slice (some ⟨g2, 0, none⟩) n c2')) (some ⟨g2, 0, none⟩) n es from by
                  obtain ⟨A', c', e, rr, _, _⟩ := O2.out.rs
                  injection e with e1 e2 e3
                  subst e1
                  exact rr.kept (only_setCell _ _ _ _) (fun ad e => by injection e with e; subst e; exact ne2))
                have F2 := Lib.hid (show Fz (w2.setCell ⟨q, 2, none⟩ (.slice (some ⟨g2, 0, none⟩) n c2')) g2 from fz2.kept (only_setCell _ _ _ _) ne2)
                have B3 := Lib.hid (Blk.kept B6.out KV.out (fun e => hqX e.symm))
                have B3 : Hid (Rf.Bx (w2.setCell ⟨q, 2, none⟩ (.slice (some ⟨g2, 0, none⟩) n c2')) X ⟨(x.page : Int), A4, x.free.length + 1, c4⟩) := B3
                clear d2 df k2 a2 fz2 O2 c2 x0 x1 K2 B6
                generalize w2.setCell ⟨q, 2, none⟩ (.slice (some ⟨g2, 0, none⟩) n c2') = W3 at *
                have d2 : W3.cell? ⟨q, 2, none⟩ = some (.slice (some ⟨g2, 0, none⟩) n c2') := Q2.out.cell 2
                have x1 : W3.cell? ⟨X, 1, none⟩ = some (.slice A4 (x.free.length + 1) c4) := B3.out.c1
                have x0 : W3.cell? ⟨X, 0, none⟩ = some (.int .i64 (x.page : Int)) := B3.out.c0
                obtain ⟨j0, j1⟩ : W3.cell? ⟨g2, k * 2, none⟩ = some (.int .i64 (x.page : Int)) ∧ W3.cell? ⟨g2, k * 2 + 1, none⟩ = some (.slice B x.free.length cb) := by
                  obtain ⟨gx, ox, ex, e, _, hx3, _, _, c3, c4⟩ := R2.out.get ck
                  injection e with e
                  injection e with e1 e2
                  subst e1
                  subst e2
                  rw [HE.out] at hx3
                  injection hx3 with hx3
                  rw [← hx3, HEE.out, Nat.zero_add] at c3 c4
                  exact ⟨c3, c4⟩
                have l0 := F2.out.frozen (k * 2)
                have l1 := F2.out.frozen (k * 2 + 1)
                have J0 := Lib.hid j0
                have J1 := Lib.hid j1
                go_region_held3 (fun w' => w'.cell? ⟨q, 2, none⟩ = some (.slice (some ⟨g2, 0, none⟩) n c2') ∧ w'.cell? ⟨X, 0, none⟩ = some (.int .i64 (x.page : Int)) ∧ w'.cell? ⟨X, 1, none⟩ = some (.slice A4 (x.free.length + 1) c4)) (first | (exact ⟨‹_›, ‹_›, ‹_›⟩) | go_keep) (fail)
                have KF : Kept (Only g2) W3 ((W3.drew.setCell ⟨g2, k * 2, none⟩ (.int .i64 (x.page : Int))).setCell ⟨g2, k * 2 + 1, none⟩ (.slice A4 (x.free.length + 1) c4)) := ((Kept.refl (Only g2) W3).drew.trans (only_setCell _ _ _ _)).trans (only_setCell _ _ _ _)
                have hw := KQ.out.size
                have KW : Kept (Only q) w ((W3.drew.setCell ⟨g2, k * 2, none⟩ (.int .i64 (x.page : Int))).setCell ⟨g2, k * 2 + 1, none⟩ (.slice A4 (x.free.length + 1) c4)) := KQ.out.join KF (fun i hi e => by have e : i = g2 := e; subst e; have hi : i < w.heap.size := hi; omega)
                have KV6 : Kept (Only q) W6 ((W3.drew.setCell ⟨g2, k * 2, none⟩ (.int .i64 (x.page : Int))).setCell ⟨g2, k * 2 + 1, none⟩ (.slice A4 (x.free.length + 1) c4)) := KV.out.join KF (fun i hi e => by have e : i = g2 := e; subst e; have hi : i < W6.heap.size := hi; omega)
                have R5 := (show Rf.Rs W3.drew (some ⟨g2, 0, none⟩) n es from R2.out.drew).put2 HE.out (x.page : Int) ⟨by omega, by omega⟩ A4 (x.free.length + 1) c4
                rw [Nat.zero_add] at R5
                have n4 : g2 < W3.heap.size := F2.out.lt
                have zV := KV.out.size
                have sz : ((W3.drew.setCell ⟨g2, k * 2, none⟩ (.int .i64 (x.page : Int))).setCell ⟨g2, k * 2 + 1, none⟩ (.slice A4 (x.free.length + 1) c4)).heap.size = W3.heap.size := by rw [size_setP, size_setP]; rfl
                have E5 := Lib.hid (P2.out k m x _ rfl HB.out HX.out HZ.out HN.out gone (HR.out.next KW (L' := L.set k ⟨x.page, m :: x.free⟩) (A' := some ⟨g2, 0, none⟩) (cap' := c2') (es' := es.set k ⟨(x.page : Int), A4, x.free.length + 1, c4⟩)
                  (by rw [List.length_set, HL.out]; exact Q2.out.kept KF (fun e => ne2 e.symm))
                  (by rw [List.length_set, HL.out]; exact R5)
                  (.inr ⟨g2, 0, rfl⟩)
                  (by rw [List.length_set, HL.out]; exact hc2)
                  ((HR.out.ents KW).set ⟨rfl, rfl, O3.out.kept KV6 (fun ad e z => by have := (O4.out ad e).1; have z : ad.block = q := z; omega), O1.out, o2⟩)
                  (fun ad e => by injection e with e; subst e; rw [sz]; exact ⟨by show _ ≤ g2; omega, n4⟩)
                  (fun e he => by
                    rcases mem_set he with ⟨rfl, _⟩ | ⟨j, _, hj⟩
                    · exact .inr (fun ad e => by have := O4.out ad e; rw [sz]; omega)
                    · exact .inl (List.mem_of_getElem? hj))))
                have y0 := (KF.cell (p := ⟨X, 0, none⟩) (block_lt_of_cell x0) (fun e => neX e.symm)).trans x0
                clear KF KW KV6 R5
                go_wp2_with fail
                go_ret3
                exact E5.out
        · have hs := Lib.hid (hs.out hz)
          have r0 : (((d : Int) % ((wN c : Nat) : Int)) == 0) = false := by rw [← Int.natCast_emod]; simp only [beq_eq_false_iff_ne, ne_eq]; omega
          have r1 : ¬ ((d : Int) % ((wN c : Nat) : Int)) = 0 := by rw [← Int.natCast_emod]; omega
          clear hz
          go_wp2_with fail
          refine ⟨⟨k + 1, by omega, by go_num, hs, K1⟩, ?_⟩
          simp [intOf]; omega
    · obtain rfl : k = n := by omega
      have Q1 := Lib.hid (P0.out W (by have := HB.out; rw [← HL.out, List.take_length] at this; exact this) K.out)
      go_wp2_with fail
      go_ret3
      exact Q1.out
end Go.Proofs.Ytcaongcpfepcjaa.Prt
