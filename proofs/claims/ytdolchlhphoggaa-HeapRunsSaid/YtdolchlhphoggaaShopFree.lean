/-
  What the document's own HeapFree answers, and what it leaves. Own work; each is proved by a walk through the landed text.
-/
import Derived.Test.YtdolchlhphoggaaRows
import Derived.Test.YtdolchlhphoggaaShopAlloc
import Derived.Test.YtdolchlhphoggaaHeapFree
import Derived.Deep.CutRange
namespace Go.Proofs.Ytdolchlhphoggaa
open Go.ChangeShapes Go.WideShapes Go.ChangeAt Go.RowKit
set_option maxRecDepth 100000

theorem SpAt.mono {W : World} {s : Nat} {P : Int} {rl : List R} {sl : List S} {F G : Nat → Prop} {A : Option Addr} {n c : Nat} {B : Option Addr} {m d : Nat} {r : List Value} (H : SpAt W s P rl sl F A n c B m d r) (h : ∀ b, F b → G b) : SpAt W s P rl sl G A n c B m d r :=
  ⟨H.box, H.runs, H.rcap, H.rnil, H.spans, H.scap, H.shape, h _ H.at_s, fun b hb => h b (H.at_r b hb), fun b hb => h b (H.at_p b hb), H.apart⟩
/-- What HeapFree answers, and leaves. -/
def SpFree (s : Nat) (P : Int) (F : Nat → Prop) (W : World) (o : AnsF) (e : Ending) (W' : World) : Prop :=
  e = .returned (.tuple #[spn o.x, .int .i64 o.e]) ∧ Sp W' s P o.rl o.sl (Fw F W W') ∧ Kept (Only s) W W'
set_option maxHeartbeats 1000000 in
theorem shop_free_no {W : World} {s : Nat} {P : Int} {rl : List R} {sl : List S} {F : Nat → Prop} (p : Int) (H : Sp W s P rl sl F) (wh : Whole P rl sl) (hb : begL sl p = none) :
    Calls Try.prog 30 #[ptr s, .int .i64 p] W (SpFree s P F W ⟨noS, 2, rl, sl⟩) := by
  obtain ⟨A, n, c, B, m, d, r, HA⟩ := H
  have hm : m ≤ 256 := by have := wh.len; have := HA.spans.len; omega
  have HN := Lib.hid (beg_none_all wh.good hb)
  have k0 : Kept Old W (W.alloc (.cells #[.int .i64 0, .int .i64 0, .int .i64 0] 44)) := (Kept.refl Old W).alloc _
  have B0 := Lib.hid (BxS.new W noS)
  have H0 := Lib.hid (HA.old k0)
  have a2 := H0.out.box.cell 2
  simp only [List.getElem?_cons_succ, List.getElem?_cons_zero] at a2
  have HA := Lib.hid HA
  have k0 := Lib.hid k0
  clear wh hb
  go_enter Try.func30, Try.ntmps30
  go_wp2_with fail
  obtain ⟨t, ht⟩ : ∃ t, W.heap.size = t := ⟨_, rfl⟩
  rw [ht] at B0
  generalize W.alloc (.cells #[.int .i64 0, .int .i64 0, .int .i64 0] 44) = W0 at *
  rw [ht]
  have ht := Lib.hid ht
  go_loopw [6] (fun q wr => ∃ k : Nat, k ≤ m ∧ q = .int .i64 (k : Int) ∧ Hid (wr = W0)) (fun q _ => m - (intOf q).toNat)
  case atStart => exact ⟨0, by omega, rfl, Lib.hid rfl⟩
  case round =>
    obtain ⟨k, hk, rfl, hw⟩ := hrel
    rename World => V
    obtain rfl : V = W0 := hw.out
    clear hw
    by_cases ck : k < m
    · obtain ⟨gg, o, y, rfl, hgl, hx, f1, b0, b1, b2⟩ := H0.out.spans.get (k := k) ck
      have ne : (y.a == p) = false := beq_eq_false_iff_ne.2 (HN.out k y hx)
      clear hx f1
      go_wp2
      refine ⟨⟨k + 1, by omega, by go_num, Lib.hid (by trivial)⟩, ?_⟩
      simp [intOf]; omega
    · have b0 := B0.out.c0
      have b1 := B0.out.c1
      have b2 := B0.out.c2
      have bf := Blk.frozen B0.out
      obtain ⟨V', hV, v0, v1, v2, KV, _⟩ := B0.out.end3 k0.out (Nat.le_of_eq ht.out) noS
      have Q := Lib.hid (⟨(HA.out.old KV).grow (fun b hb => .inl hb), KV.any⟩ : Sp V' s P rl sl (Fw F W V') ∧ Kept (Only s) W V')
      clear KV H0 HA
      go_wp2
      exact bodyPost_ret (v := .tuple #[spn noS, .int .i64 2]) (by simp [results, Try.results30, go_sem, v0, v1, v2]) rfl ⟨rfl, Q.out⟩
set_option maxHeartbeats 8000000 in
theorem shop_free_yes {W : World} {s : Nat} {P : Int} {rl : List R} {sl : List S} {F : Nat → Prop} (p : Int) (x : S) (H : Sp W s P rl sl F) (wh : Whole P rl sl) (hF : ∀ b, F b → b < W.heap.size) (hb : begL sl p = some x) :
    Calls Try.prog 30 #[ptr s, .int .i64 p] W (SpFree s P F W ⟨x, 0, putL rl x.a x.n, delL sl p⟩) := by
  obtain ⟨ok, fr, _⟩ := wh.free hb
  obtain ⟨ho, rfl⟩ := beg_some hb
  obtain ⟨hy, h1, h2⟩ := of_some ho
  obtain ⟨A, n, c, B, m, d, r, HA⟩ := H
  have hlen := HA.spans.len
  have hm : m ≤ 256 := by have := wh.len; omega
  have hn : n ≤ 900 := by have := wh.len; have := HA.runs.len; omega
  have hl0 := HA.size
  have k0 : Kept Old W (W.alloc (.cells #[.int .i64 0, .int .i64 0, .int .i64 0] 44)) := (Kept.refl Old W).alloc _
  have B0 := Lib.hid (BxS.new W noS)
  have H0 := Lib.hid (HA.old k0)
  have a2 := H0.out.box.cell 2
  simp only [List.getElem?_cons_succ, List.getElem?_cons_zero] at a2
  have hlt : placeL sl x.a < m := by have := (List.getElem?_eq_some_iff.1 hy).1; omega
  have hdel : delL sl x.a = sl.take (placeL sl x.a) ++ sl.drop (placeL sl x.a + 1) := rfl
  obtain ⟨j, hj⟩ : ∃ j, placeL sl x.a = j := ⟨_, rfl⟩
  have hlo := Lib.hid (fun i y => place_lo sl x.a (i := i) (y := y))
  have HG := Lib.hid wh.good
  have HY := Lib.hid hy
  rw [hj] at hlt HY hlo hdel
  rw [hdel]
  have wide := Lib.hid wh.wide
  have ok1 := Lib.hid ok.a0
  have ok2 := Lib.hid ok.n1
  have ok3 := Lib.hid (show x.a + x.n ≤ 256 by have := ok.up; have := wh.pages; omega)
  have fr := Lib.hid fr
  have k0 := Lib.hid k0
  have hF := Lib.hid hF
  clear HA wh hlen hj hdel ho hy hb ok h1 h2
  go_enter Try.func30, Try.ntmps30
  go_wp2_with fail
  have hsz : (W.alloc (.cells #[.int .i64 0, .int .i64 0, .int .i64 0] 44)).heap.size = W.heap.size + 1 := by simp
  obtain ⟨t, ht⟩ : ∃ t, W.heap.size = t := ⟨_, rfl⟩
  rw [ht] at B0 hsz hl0
  generalize W.alloc (.cells #[.int .i64 0, .int .i64 0, .int .i64 0] 44) = W0 at *
  rw [ht]
  have ht := Lib.hid ht
  go_loopw [6] (fun q wr => ∃ k : Nat, k ≤ j ∧ q = .int .i64 (k : Int) ∧ Hid (wr = W0)) (fun q _ => j + 1 - (intOf q).toNat)
  case atStart => exact ⟨0, by omega, rfl, Lib.hid rfl⟩
  case round =>
    obtain ⟨k, hk, rfl, hw⟩ := hrel
    rename World => V
    obtain rfl : V = W0 := hw.out
    clear hw
    obtain ⟨gg, o, y, rfl, hgl, hx, f1, b0, b1, b2⟩ := H0.out.spans.get (k := k) (by omega)
    by_cases ck : k < j
    · have z := hlo.out k y hx ck
      have nb := (HG.out.at hx).n1
      have ne : (y.a == x.a) = false := beq_eq_false_iff_ne.2 (by omega)
      clear hx f1
      go_wp2
      refine ⟨⟨k + 1, by omega, by go_num, Lib.hid (by trivial)⟩, ?_⟩
      simp [intOf]; omega
    · obtain rfl : k = j := by omega
      obtain rfl : y = x := by have := HY.out; rw [hx] at this; exact Option.some.inj this
      have t1 : (y.a == y.a) = true := by simp
      have kx : Kept Old V (V.alloc (.cells #[.int .i64 y.a, .int .i64 y.n, .int .i64 y.c] 44)) := (Kept.refl Old V).alloc _
      have HX := Lib.hid (H0.out.old kx)
      have BX := Lib.hid (BxS.new V y)
      have B0 := Lib.hid (B0.out.old kx)
      have kx := Lib.hid (k0.out.trans kx)
      have hsx : (V.alloc (.cells #[.int .i64 y.a, .int .i64 y.n, .int .i64 y.c] 44)).heap.size = V.heap.size + 1 := by simp
      have x2 := HX.out.box.cell 2
      simp only [List.getElem?_cons_succ, List.getElem?_cons_zero] at x2
      have bf := HX.out.box.frozen 2
      clear hx f1 H0 k0
      have HSX := Lib.hid hsx
      clear hsx
      go_upto_region 7 with fail
      rw [hsz] at BX HSX
      generalize V.alloc (.cells #[.int .i64 y.a, .int .i64 y.n, .int .i64 y.c] 44) = X at *
      go_cut [7] from 10 to 72 (fun b wx => b = .pointer (some ⟨t + 1, 0, none⟩) ∧ Hid (∃ B' m' d', SpAt wx s P rl (sl.take k ++ sl.drop (k + 1)) (Fw F X wx) A n c B' m' d' r) ∧ Hid (Kept (Only s) X wx))
      case first =>
        have hl2 := HX.out.size
        have hkd : k ≤ d := by have := HX.out.scap; omega
        have hkm : (k : Int) ≤ (m : Int) := by omega
        have wr1 : IntKind.i64.wrap ((k : Int) + 1) = (k : Int) + 1 := IntWalk.i64_in _ (by omega)
        have e0 : (0 : Int) ≤ (k : Int) + 1 := by omega
        have e1 : ((k : Int) + 1).toNat = k + 1 := by omega
        have e2 : (k : Int) + 1 ≤ (m : Int) := by omega
        have e3 : k + 1 ≤ m := by omega
        have R1 := Lib.hid (HX.out.spans.take (i := k) (by omega))
        obtain ⟨A', hA', R2⟩ : ∃ A' : Option Addr, (if d = k + 1 then some (⟨gg, o, none⟩ : Addr) else some ⟨gg, o + (k + 1) * 3, none⟩) = A' ∧ Hid (RsS X A' (m - (k + 1)) (sl.drop (k + 1))) := ⟨_, rfl, Lib.hid (HX.out.spans.tail _ fun g' o' e h => by injection e with e; injection e with e1 e2; subst e1; subst e2; exact if_neg (by have := HX.out.scap; omega))⟩
        have hA'' : A' ≠ none := by rw [← hA']; split <;> simp
        have fz := Lib.hid (fun w' (k : Kept Old X w') => (⟨cellS_on k x2, (HX.out.box.kept k (fun x => x)).frozen 2⟩ : w'.cell? ⟨s, 2, none⟩ = some (.slice (some ⟨gg, o, none⟩) m d) ∧ w'.frozen? ⟨s, 2, none⟩ = false))
        have E := Lib.hid (show ∀ A3 c3 w3, Hid (OwS w3 X.heap.size (.slice A3 (k + (m - (k + 1))) c3) (k + (m - (k + 1))) (sl.take k ++ sl.drop (k + 1))) → Hid (Kept Old X w3) → Hid (∃ B' m' d', SpAt (w3.setCell ⟨s, 2, none⟩ (.slice A3 (k + (m - (k + 1))) c3)) s P rl (sl.take k ++ sl.drop (k + 1)) (Fw F X (w3.setCell ⟨s, 2, none⟩ (.slice A3 (k + (m - (k + 1))) c3))) A n c B' m' d' r) ∧ Hid (Kept (Only s) X (w3.setCell ⟨s, 2, none⟩ (.slice A3 (k + (m - (k + 1))) c3))) from fun A3 c3 w3 O k => by
          obtain ⟨H3, k3⟩ := HX.out.setSpans k.out O.out
          refine ⟨Lib.hid ⟨_, _, _, H3.mono (fun b hb => ?_)⟩, Lib.hid k3⟩
          unfold Fw at hb ⊢
          rw [size_set]
          exact hb)
        clear HX BX B0 kx HG hlo HY wide hF b0 b1 b2 fr hgl
        go_region_law (first
          | (refine emp_step (W := X) rfl (.tmp 37) (.tmp 43) rfl rfl (some ⟨gg, o, none⟩) k d (sl.take k) (by first | rfl | simp [Act.eval, Act.put]) R1.out (fun h => by cases h) (by omega) (by first | exact ((Kept.refl Old X).alloc _).drew) (by first | exact ⟨X.heap.size, rfl, Blk.new X _ [], Nat.le_refl _⟩) ?_; intro v1 w1 O1 K1 pr; have z1 := (fz.out w1 K1.out).1; have q1 := Nat.lt_of_lt_of_le hl2 K1.out.size)
          | (refine cutE_step (W := X) rfl (.tmp 44) (.tmp 51) rfl rfl v1 k (sl.take k) (by first | rfl | simp [Act.eval, Act.put]) A' (m - (k + 1)) (d - (k + 1)) (sl.drop (k + 1)) (by first | rfl | simp [Act.eval, Act.put]) R2.out (fun h => absurd h hA'') (by omega) (by omega) O1.out K1.out ?_; intro A3 c3 w3 O3 K3; have z3 := (fz.out w3 K3.out).1; have f3 := (fz.out w3 K3.out).2; have q3 := Nat.lt_of_lt_of_le hl2 K3.out.size))
        all_goals
          have E := Lib.hid (E.out A3 c3 w3 O3 K3)
          go_wp2_with fail
          go_meet
          exact ⟨rfl, E.out⟩
      case rest =>
        obtain ⟨rfl, HM, kM⟩ := hcut
        rename World => Y
        obtain ⟨B', m', d', HM⟩ := HM.out
        have a1 := HM.box.cell 1
        simp only [List.getElem?_cons_succ, List.getElem?_cons_zero] at a1
        have BX := Lib.hid (BX.out.kept kM.out (fun e => by have : t + 1 = s := e; omega))
        have B0 := Lib.hid (B0.out.kept kM.out (fun e => by have : t = s := e; omega))
        have x0 := BX.out.c0
        have x1 := BX.out.c1
        have HM := Lib.hid HM
        have hsY := Lib.hid (show t + 1 < Y.heap.size from Blk.lt BX.out)
        clear HX x2 bf b0 b1 b2 hlo HG HY hgl a2
        go_upto_region 8 with fail
        go_cut [8, 9] from 10 to 72 (fun v e wx => e = .int .i64 0 ∧ ∃ A1 n1 c1, v = .slice A1 n1 c1 ∧ Hid (Rs wx A1 n1 (putL rl y.a y.n)) ∧ Hid (n1 ≤ c1) ∧ Hid (A1 = none → c1 = 0) ∧ Hid (∀ ad, A1 = some ad → Y.heap.size ≤ ad.block) ∧ Hid (Kept Old Y wx))
        case first =>
          go_region_with (go_at_call 41; refine (rput_ok A n c rl (y.a, y.n) _ (by first | exact HM.out.runs | exact HM.out.runs.drew) wide.out hn ok1.out ok2.out ok3.out fr.out).mono ?_; rintro e W3 ⟨v, rfl, A1, n1, c1, rfl, R3, hc3, ⟨z3, new3⟩, k3⟩)
          all_goals
            go_wp2_with fail
            go_meet
            exact ⟨rfl, A1, n1, c1, rfl, Lib.hid (by first | exact R3 | exact R3.drew), Lib.hid hc3, Lib.hid z3, Lib.hid (fun ad e => new3 ad e), Lib.hid (by first | exact k3 | exact ((Kept.refl Old Y).drew).trans k3)⟩
        case rest =>
          obtain ⟨rfl, A1, n1, c1, rfl, R3, hc3, z3, new3, k3⟩ := hcut
          rename World => Z
          obtain ⟨HZ, kZ⟩ := HM.out.setRuns k3.out R3.out hc3.out z3.out new3.out
          have BZ := BX.out.kept ((Kept.any k3.out).trans (only_setCell Z s 1 (.slice A1 n1 c1))) (fun e => by have : t + 1 = s := e; omega)
          have TZ := B0.out.kept ((Kept.any k3.out).trans (only_setCell Z s 1 (.slice A1 n1 c1))) (fun e => by have : t = s := e; omega)
          have bz := HM.out.box.kept k3.out (fun x => x)
          have d1 := bz.cell 1
          simp only [List.getElem?_cons_succ, List.getElem?_cons_zero] at d1
          have df := bz.frozen
          have y0 := BZ.c0
          have y1 := BZ.c1
          have y2 := BZ.c2
          have t0 := TZ.c0
          have t1' := TZ.c1
          have t2 := TZ.c2
          have tf := Blk.frozen TZ
          obtain ⟨V', hV', v0, v1, v2, _, kV⟩ := TZ.put3 y
          have hzs := k3.out.size
          have hys := hsY.out
          have hx2 := HSX.out
          have kxs := ht.out
          have Q : Sp V' s P (putL rl y.a y.n) (sl.take k ++ sl.drop (k + 1)) (Fw F W V') ∧ Kept (Only s) W V' := by
            have hb : ∀ b, Fw (Fw F X Y) Y Z b → b ≠ t := fun b hb => by
              rcases hb with (hb | hb) | hb
              · have := hF.out b hb
                omega
              · omega
              · omega
            have kk := kV.size
            rw [size_set] at kk
            refine ⟨(HZ.fr kV (fun b h e => hb b h e)).grow (fun b h => ?_), ?_⟩
            · unfold Fw
              rcases h with (h | h) | h
              · exact .inl h
              · exact .inr (by omega)
              · exact .inr (by omega)
            · exact (((Kept.any kx.out).trans kM.out).trans kZ).join kV (fun i hi e => by have : i = t := e; omega)
          have Q := Lib.hid Q
          clear HZ kZ BZ TZ bz HM BX B0 R3 hc3 z3 new3 k3 kM kx kV a1 x0 x1 hzs hys hx2 kxs hsY HSX hF hsz
          go_wp2
          exact bodyPost_ret (v := .tuple #[spn y, .int .i64 0]) (by simp [results, Try.results30, go_sem, v0, v1, v2]) rfl ⟨rfl, Q.out⟩
theorem shop_free {W : World} {s : Nat} {P : Int} {rl : List R} {sl : List S} {F : Nat → Prop} (p : Int) (H : Sp W s P rl sl F) (wh : Whole P rl sl) (hF : ∀ b, F b → b < W.heap.size) :
    Calls Try.prog 30 #[ptr s, .int .i64 p] W (SpFree s P F W (freeA rl sl p)) := by
  cases hb : begL sl p with
  | none => rw [freeA_no hb]; exact shop_free_no p H wh hb
  | some x => rw [freeA_yes hb]; exact shop_free_yes p x H wh hF hb
end Go.Proofs.Ytdolchlhphoggaa
