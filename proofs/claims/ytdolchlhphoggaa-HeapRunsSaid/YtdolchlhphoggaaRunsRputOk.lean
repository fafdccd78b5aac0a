/-
  What the document's own PutRun answers where the run may be put. Own work; each is proved by a walk through the landed text.
-/
import Derived.Test.YtdolchlhphoggaaRows
import Derived.Test.YtdolchlhphoggaaRunsMem
import Derived.Test.YtdolchlhphoggaaRunsCalls
import Derived.Test.YtdolchlhphoggaaRunsPutLem
import Derived.Test.YtdolchlhphoggaaRunsRef
import Derived.Test.YtdolchlhphoggaaRunsRput
import Derived.WalkKit
import Derived.ProofKit
import Derived.OpenShut
import Derived.Outline
import Derived.Deep.Light
import Derived.Deep.QuietTactic
import Derived.BigQuiet
import Derived.IntWalk
import Derived.StillTailTactics
import Derived.RegionTactic
import Derived.Deep.RegionLaw
import Derived.ChangeAlike
import Derived.Deep.RegionHeld3
import Derived.Deep.CutRange
namespace Go.Proofs.Ytdolchlhphoggaa
open Go.ChangeShapes Go.WideShapes Go.ChangeAt Go.RowKit
set_option maxRecDepth 100000

theorem Ow.rsAt {w : World} {B : Nat} {A : Option Addr} {n m c : Nat} {l : List R} (h : Ow w B (.slice A m c) n l) : Rs w A n l ∧ (A = none → n = 0 ∧ c = 0) := by
  have h' := h.row.2
  obtain ⟨A', c', e, r, _, hA⟩ := h.rs
  injection e with e1 e2 e3
  subst e1
  subst e2
  subst e3
  refine ⟨r, fun q => ⟨?_, hA q⟩⟩
  rcases h' with ⟨_, z⟩ | ⟨g, cap, cur, e, _⟩
  · exact z
  · injection e with e1
    rw [q] at e1
    cases e1
set_option maxHeartbeats 8000000 in
theorem rput_ok (A : Option Addr) (n c : Nat) (l : List R) (r : R) (w : World) (h : Rs w A n l) (hr : Right 256 0 l) (hn : n ≤ 900) (h0 : 0 ≤ r.1) (h1 : 1 ≤ r.2) (h2 : r.1 + r.2 ≤ 256) (hf : freeB l r.1 r.2 = true) : Calls Try.prog 41 #[.slice A n c, run r] w (PutPost (putL l r.1 r.2) w) := by
  have HR := Lib.hid h
  have HT := Lib.hid hr
  have hf := Lib.hid hf
  clear h hr
  have q1 : r.1 ≤ 256 := by omega
  have q2 : r.2 ≤ 256 - r.1 := by omega
  go_enter Try.func41, Try.ntmps41
  go_wp2_with fail
  have K0 := Lib.hid ((Kept.refl Old w).alloc (.cells #[.int .i64 r.1, .int .i64 r.2] 63))
  have B0 := Lib.hid (Bx.new w r)
  generalize hb : w.heap.size = b at *
  go_loopw [6] (fun j wr => ∃ k : Nat, k ≤ n ∧ j = .int .i64 (k : Int) ∧ Hid (∀ y ∈ l.take k, y.1 + y.2 ≤ r.1 ∨ r.1 + r.2 ≤ y.1) ∧ Hid (Bx wr b r) ∧ Hid (Kept Old w wr)) (fun j _ => n - (intOf j).toNat)
  case atStart => exact ⟨0, by omega, rfl, Lib.hid (fun y hy => by simp at hy), B0, K0⟩
  case round =>
    obtain ⟨k, hk, rfl, HL, B, K⟩ := hrel
    rename World => W
    clear B0 K0
    by_cases c : k < n
    · obtain ⟨g, o, x, rfl, _, hx, f1, f2, c0, c1⟩ := (HR.out.old K.out).get c
      have bx := HT.out.at hx
      have r0 := B.out.c0
      have r1 := B.out.c1
      have hx := Lib.hid hx
      go_wp2_with fail
      go_still_tail 14, (by kernel_rfl)
      change wpList _ _ _ _ _ W.drew
      clear r0 r1 c0 c1
      go_wp2_with fail
      by_cases d : x.1 + x.2 ≤ r.1 ∨ r.1 + r.2 ≤ x.1
      · refine (over_no x r _ bx.1 bx.2.1 bx.2.2 h0 h1 h2 d).mono ?_
        rintro e w1 ⟨rfl, k1⟩
        have L := Lib.hid (free_snoc HL.out hx.out d)
        clear d
        go_wp2
        refine ⟨⟨k + 1, by omega, by go_num, L, Lib.hid (B.out.drew.old k1), Lib.hid (K.out.drew.trans k1)⟩, ?_⟩
        simp [intOf]; omega
      · exfalso
        have := free_mem hf.out x (List.mem_of_getElem? hx.out)
        exact d this
    · have S0 : Pr w b (.slice none 0 0) (.slice none 0 0) 0 0 (putFold (l.take 0) r.1 r.2) W := ⟨⟨Ow.nil _ _, Ow.nil _ _, fun k e => by cases e⟩, B.out, K.out, by omega⟩
      have S0 := Lib.hid S0
      clear B K HL
      go_wp2_with fail
      clear c hk
      go_loopw [7, 8, 9] (fun va vb j wr => ∃ k na nb : Nat, k ≤ n ∧ na + nb ≤ k ∧ j = .int .i64 (k : Int) ∧ Hid (Pr w b va vb na nb (putFold (l.take k) r.1 r.2) wr)) (fun _ _ j _ => n - (intOf j).toNat)
      case atStart => exact ⟨0, 0, 0, by omega, by omega, rfl, S0⟩
      case round =>
        clear S0
        obtain ⟨k, na, nb, hk, hab, rfl, S⟩ := hrel
        rename World => V
        have small := fold_small HT.out ⟨h0, q1⟩ ⟨h1, by omega⟩ k
        by_cases c : k < n
        · obtain ⟨g, o, y, rfl, _, hx, f1, f2, c0, c1⟩ := (HR.out.old S.out.kept).get c
          have by_ := HT.out.at hx
          have iy := Lib.hid (show in64 y.1 ∧ in64 y.2 from ⟨f1, f2⟩)
          have st := Lib.hid (fold_snoc r.1 r.2 hx)
          generalize putFold (l.take k) r.1 r.2 = s at *
          obtain ⟨a, m, ah, be⟩ := s
          simp only at small
          obtain ⟨s1, s2, s3, s4, s5⟩ := small
          have s4 : m ≤ 256 * 1000 := by omega
          have x0 : V.cell? ⟨b, 0, none⟩ = some (.int .i64 a) := S.out.box.c0
          have x1 : V.cell? ⟨b, 1, none⟩ = some (.int .i64 m) := S.out.box.c1
          have z0 := Blk.frozen S.out.box 0
          have z1 := Blk.frozen S.out.box 1
          have lb : b < V.heap.size := Blk.lt S.out.box
          clear hx f1 f2 hf HR HT
          by_cases e1 : y.1 + y.2 = a
          · have t1 : (y.1 + y.2 == a) = true := by simp [e1]
            have e := Lib.hid (show putStep ⟨a, m, ah, be⟩ y = ⟨y.1, y.2 + m, ah, be⟩ from by unfold putStep; rw [if_pos e1])
            clear e1
            go_wp2_with fail
            refine ⟨⟨k + 1, na, nb, by omega, by omega, by go_num, ?_⟩, ?_⟩
            · rw [st.out, e.out]; exact Lib.hid ((S.out.put2 y.1 (y.2 + m)).alloc _)
            · simp [intOf]; omega
          · have t1 : (y.1 + y.2 == a) = false := by simp [e1]
            by_cases e2 : y.1 = a + m
            · have t2 : (y.1 == a + m) = true := by simp [e2]
              have e := Lib.hid (show putStep ⟨a, m, ah, be⟩ y = ⟨a, m + y.2, ah, be⟩ from by unfold putStep; rw [if_neg e1, if_pos e2])
              clear e1 e2
              go_wp2_with fail
              refine ⟨⟨k + 1, na, nb, by omega, by omega, by go_num, ?_⟩, ?_⟩
              · rw [st.out, e.out]; exact Lib.hid ((S.out.put1 (m + y.2)).alloc _)
              · simp [intOf]; omega
            · have t2 : (y.1 == a + m) = false := by simp [e2]
              by_cases e3 : y.1 < a
              · have e := Lib.hid (show putStep ⟨a, m, ah, be⟩ y = ⟨a, m, ah ++ [y], be⟩ from by unfold putStep; rw [if_neg e1, if_neg e2, if_pos e3])
                clear e1 e2
                go_wp2_with (at_builtin; refine app_wp rfl (.tmp 105) (.tmp 107) rfl rfl (b + 1) u7 na ah rfl ((S.out.two.a.alloc _).alloc _) (some ⟨V.heap.size + 1, 0, none⟩) 1 1 [y] rfl (Rs.one _ y iy.out.1 iy.out.2 _ (by simp)) (by intro h; cases h) (by omega) (by omega) (Nat.le_trans S.out.size (((Kept.refl Old V).alloc _).alloc _).size) (na + 1) rfl (ah ++ [y]) rfl ?_; intro v2 w2 O2 k2 a2; have S2 := Lib.hid (((S.out.alloc _).alloc _).left O2.out k2.out a2.out); clear k2 a2 O2)
                refine ⟨⟨k + 1, na + 1, nb, by omega, by omega, by go_num, ?_⟩, ?_⟩
                · rw [st.out, e.out]; exact S2
                · simp [intOf]; omega
              · have e := Lib.hid (show putStep ⟨a, m, ah, be⟩ y = ⟨a, m, ah, be ++ [y]⟩ from by unfold putStep; rw [if_neg e1, if_neg e2, if_neg e3])
                clear e1 e2
                go_wp2_with (at_builtin; refine app_wp rfl (.tmp 63) (.tmp 65) rfl rfl (b + 1) u8 nb be rfl ((S.out.two.b.alloc _).alloc _) (some ⟨V.heap.size + 1, 0, none⟩) 1 1 [y] rfl (Rs.one _ y iy.out.1 iy.out.2 _ (by simp)) (by intro h; cases h) (by omega) (by omega) (Nat.le_trans S.out.size (((Kept.refl Old V).alloc _).alloc _).size) (nb + 1) rfl (be ++ [y]) rfl ?_; intro v2 w2 O2 k2 a2; have S2 := Lib.hid (((S.out.alloc _).alloc _).right O2.out k2.out a2.out); clear k2 a2 O2)
                refine ⟨⟨k + 1, na, nb + 1, by omega, by omega, by go_num, ?_⟩, ?_⟩
                · rw [st.out, e.out]; exact S2
                · simp [intOf]; omega
        · have al : (putFold (l.take k) r.1 r.2).all = putL l r.1 r.2 := by
            rw [List.take_of_length_le (by have := HR.out.len; omega)]
            exact putFold_all HT.out h1 hf.out
          generalize putFold (l.take k) r.1 r.2 = s at *
          obtain ⟨a, m, ah, be⟩ := s
          simp only at small
          obtain ⟨s1, s2, s3, s4, s5⟩ := small
          have s4 : m ≤ 256 * 1000 := by omega
          have x0 : V.cell? ⟨b, 0, none⟩ = some (.int .i64 a) := S.out.box.c0
          have x1 : V.cell? ⟨b, 1, none⟩ = some (.int .i64 m) := S.out.box.c1
          have al := Lib.hid (show (ah ++ [(a, m)]) ++ be = putL l r.1 r.2 from by rw [← al]; simp [St.all])
          have ir := Lib.hid (show in64 a ∧ in64 m from ⟨⟨by omega, by omega⟩, ⟨by omega, by omega⟩⟩)
          obtain ⟨A8, c8, rfl, _, _, _⟩ := S.out.two.b.rs
          clear hf HR HT
          go_wp2_with (first | (at_builtin; refine app_wp rfl (.tmp 109) (.tmp 111) rfl rfl (b + 1) u7 na ah rfl (S.out.two.a.alloc _) (some ⟨V.heap.size, 0, none⟩) 1 1 [(a, m)] rfl (Rs.one _ (a, m) ir.out.1 ir.out.2 _ rfl) (by intro h; cases h) (by omega) (by omega) (Nat.le_trans S.out.size ((Kept.refl Old V).alloc _).size) (na + 1) rfl (ah ++ [(a, m)]) rfl ?_; intro v2 w2 O2 k2 a2; have S2 := Lib.hid ((S.out.alloc _).left O2.out k2.out a2.out); clear k2 a2 O2) | (at_builtin; refine app_wp rfl (.tmp 112) (.tmp 113) rfl rfl (b + 1) v2 (na + 1) (ah ++ [(a, m)]) rfl S2.out.two.a A8 nb c8 be rfl S2.out.two.b.rsAt.1 S2.out.two.b.rsAt.2 (by omega) (by omega) S2.out.size _ rfl (putL l r.1 r.2) al.out ?_; intro v3 w3 O3 k3 a3; have K3 := Lib.hid (S2.out.two.a.stepB (Nat.le_trans S2.out.own (Nat.le_succ _)) S2.out.kept k3.out); have P := Lib.hid (show PutPost (putL l r.1 r.2) w (.returned (.tuple #[v3, .int .i64 0])) w3 from ⟨v3, rfl, made_end O3.out K3.out⟩); clear k3 a3))
          go_ret2
          exact P.out
end Go.Proofs.Ytdolchlhphoggaa
