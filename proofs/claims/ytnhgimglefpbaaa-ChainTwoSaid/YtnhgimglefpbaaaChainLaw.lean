/-
  What the helpers of chapter 9's laws answer: awake, places, pushed. Own work; each is proved by a walk. Conditions: as each states.
-/
import Derived.Test.YtnhgimglefpbaaaRows
import Derived.Test.YtnhgimglefpbaaaChainRef
import Derived.Test.YtnhgimglefpbaaaShellInts
namespace Go.Proofs.Ytnhgimglefpbaaa
open Go.ChangeShapes Go.WideShapes Go.ChangeAt Go.RowKit
set_option maxRecDepth 100000
set_option linter.unusedVariables false

/-! ### The example -/
theorem awake9_any (w : World) : Calls Try.prog 15 #[] w fun e w' => e = .returned (.bool true) ∧ Kept Old w w' := by
  have hn := Lib.hid (new_yes 2 w (by omega) (by omega))
  go_enter Try.func15, Try.ntmps15
  go_wp2_with fail
  refine hn.out.mono ?_
  rintro e w1 ⟨p, g, rfl, a1, k1, hp, hg⟩
  go_wp2_with fail
  refine (push_ok 0 64 _ a1 (by simp) (by simp)).mono ?_
  rintro e w2 ⟨rfl, a2, k2⟩
  have A2 := Lib.hid a2
  have K2 := Lib.hid (k1.join k2 (fun i hi e => by omega))
  clear a1 a2 k1 k2
  go_wp2_with fail
  refine (pop_ok 64 0 _ A2.out (by simp) (by simp)).mono ?_
  rintro e w' ⟨rfl, rfl⟩
  go_wp2_with fail
  go_ret
  exact ⟨rfl, K2.out⟩

/-! ### pushed -/
/-- Behind k pushes. -/
structure PushUp (p g : Nat) (ws l : List Nat) (w : World) (k h : Nat) (W : World) : Prop where
  go : ∃ vs, Ar W p g vs ∧ Ch vs h (l.take k).reverse ∧ vs.length = ws.length ∧ ∀ i, i ∉ l.take k → vs[i]? = ws[i]?
  kept : Kept (Only g) w W
/-- What pushed tells. -/
def PushedPost (p g : Nat) (ws l : List Nat) (w : World) (e : Ending) (w' : World) : Prop := ∃ h : Nat, e = .returned (.tuple #[.int .i64 (h : Int), .bool true]) ∧ PushUp p g ws l w l.length h w'
theorem pushed_any {p g : Nat} {ws : List Nat} (A : Option Addr) (n c : Nat) (l : List Nat) (w : World) (a : Ar w p g ws) (hr : RsI w A n (NI l)) (hA : ∀ ad, A = some ad → ad.block ≠ g) (hd : l.Nodup) (hl : ∀ x ∈ l, x < ws.length) :
    Calls Try.prog 20 #[ptr p, .slice A n c] w (PushedPost p g ws l w) := by
  have hb := a.big
  have hlen := hr.lenN
  have hn : n ≤ 16384 := by have := nodup_length ws.length l hd hl; omega
  have S := Lib.hid (show PushUp p g ws l w 0 0 w from ⟨⟨ws, a, rfl, rfl, fun _ _ => rfl⟩, Kept.refl _ _⟩)
  have HR := Lib.hid hr
  have HD := Lib.hid hd
  have HL := Lib.hid hl
  have HA := Lib.hid hA
  have HN := Lib.hid hlen
  clear a hr hd hl hA hlen
  go_enter Try.func20, Try.ntmps20
  go_wp2_with fail
  go_loopw [6, 7] (fun s6 s7 wr => ∃ k h : Nat, k ≤ n ∧ s6 = .int .i64 (h : Int) ∧ s7 = .int .i64 (k : Int) ∧ Hid (PushUp p g ws l w k h wr)) (fun _ s7 _ => n - (intOf s7).toNat)
  case atStart => exact ⟨0, 0, by omega, rfl, rfl, S⟩
  case round =>
    obtain ⟨k, h, hk, rfl, rfl, U⟩ := hrel
    rename World => W
    by_cases c : k < n
    · obtain ⟨vs, a1, ch, vl, vo⟩ := U.out.go
      obtain ⟨b, o, x, rfl, hb', hx, _, c1⟩ := (HR.out.kept U.out.kept HA.out).getN c
      have hxl : x ∈ l := List.mem_of_getElem? hx
      have xl : x < vs.length := by rw [vl]; exact HL.out x hxl
      have hle := ch.le
      have hbig := a1.big
      have PO := Lib.hid (push_ok h x W a1 hle xl)
      have CH := Lib.hid ch
      have VL := Lib.hid vl
      have VO := Lib.hid vo
      have HX := Lib.hid hx
      have HB : b ≠ g := HA.out _ rfl
      have HB := Lib.hid HB
      clear a1 ch vl vo hx hxl
      go_wp2_with fail
      refine PO.out.mono ?_
      rintro e W1 ⟨rfl, a2, k2⟩
      have c2 := Lib.hid ((k2.cell (p := ⟨b, o + k, none⟩) hb' HB.out).trans c1)
      have U2 := Lib.hid (show PushUp p g ws l w (k + 1) (x + 1) W1 from by
        have ht : l.take (k + 1) = l.take k ++ [x] := by rw [List.take_add_one, HX.out]; rfl
        have hd := HD.out
        have nx : x ∉ l.take k := by
          have : (l.take (k + 1)).Nodup := hd.sublist (List.take_sublist _ _)
          rw [ht] at this
          intro m
          exact (List.nodup_append.1 this).2.2 x m x (List.mem_singleton.2 rfl) rfl
        refine ⟨⟨vs.set x h, a2, ?_, by rw [List.length_set, VL.out], fun i hi => ?_⟩, U.out.kept.trans k2⟩
        · rw [ht, List.reverse_append]
          exact CH.out.push xl (fun m => nx (List.mem_reverse.1 m))
        · rw [ht] at hi
          rw [List.getElem?_set_ne (fun e => hi (by rw [e]; simp)), VO.out i (fun m => hi (List.mem_append_left _ m))])
      have c3 := c2.out
      clear c1 a2 k2 PO c2
      go_wp2_with fail
      refine ⟨⟨k + 1, x + 1, by omega, by go_num, by go_num, U2⟩, ?_⟩
      simp [intOf]; omega
    · have P : PushedPost p g ws l w (.returned (.tuple #[.int .i64 (h : Int), .bool true])) W := ⟨h, rfl, by rw [HN.out, show n = k by omega]; exact U.out⟩
      have P := Lib.hid P
      go_wp2_with fail
      go_ret2
      exact P.out

/-! ### places -/
/-- Which numbers are there. -/
def hasL (l : List Nat) : List Value := (List.range 128).map fun x => .bool (decide (x ∈ l))
theorem hasL_get (l : List Nat) (k : Nat) (hk : k < 128) : (hasL l)[k]? = some (.bool (decide (k ∈ l))) := by
  unfold hasL; rw [List.getElem?_map, List.getElem?_range hk]; rfl
theorem hasL_put (l : List Nat) (k : Nat) (hk : k < 128) : (hasL l).set k (.bool true) = hasL (l ++ [k]) := by
  apply List.ext_getElem?
  intro i
  have hlen : (hasL l).length = 128 := by unfold hasL; simp
  by_cases c : i < 128
  · rw [hasL_get _ _ c, List.getElem?_set]
    by_cases d : k = i
    · subst d; rw [if_pos rfl, if_pos (by omega)]; simp
    · rw [if_neg d, hasL_get _ _ c]
      congr 3
      have : i ≠ k := fun e => d e.symm
      simp [this]
  · rw [List.getElem?_eq_none (by rw [List.length_set]; omega), List.getElem?_eq_none (by unfold hasL; simp; omega)]
structure PlUp (w : World) (s : Nat) (l : List Nat) (v : Value) (W : World) : Prop where
  own : OwI W w.heap.size v l.length (NI l)
  blk : Blk W s 63 (hasL l)
  ne : v.ownBlock ≠ some s
  nodup : l.Nodup
  lt : ∀ x ∈ l, x < 128
  kept : Kept Old w W
  new : w.heap.size ≤ s
theorem bools_zero (W : World) : (zeroValue 63).run Try.prog W = .ok (.agg (hasL []).toArray) W := by kernel_rfl
/-- What places tells. -/
def PlacesPost (w : World) (e : Ending) (w' : World) : Prop := ∃ l v, e = .returned v ∧ l.Nodup ∧ (∀ x ∈ l, x < 128) ∧ MadeI (NI l) w v w'
theorem places_any (A : Option Addr) (n c : Nat) (z : Nat → Int) (w : World) (hn : n ≤ maxLen) (hz : ∀ i, i < n → (Lit.int .u8 (z i)).wf = true) (hs : Sl w A 1 n fun i _ => .int .u8 (z i)) :
    Calls Try.prog 19 #[.slice A n c] w (PlacesPost w) := by
  have hn' : n ≤ 9223372036854775807 := by simpa [maxLen] using hn
  have HS := Lib.hid hs
  have HZ := Lib.hid hz
  have h0 := bools_zero w
  have S := Lib.hid (show PlUp w w.heap.size [] (.slice none 0 0) (w.alloc (.cells (hasL []).toArray 63)) from
    ⟨OwI.nil _ _, Blk.new _ _ _, (by simp [Value.ownBlock]), List.nodup_nil, (fun x hx => by cases hx), (Kept.refl _ _).alloc _, Nat.le_refl _⟩)
  clear hs hz hn
  go_enter Try.func19, Try.ntmps19
  go_wp2_with fail
  clear h0
  generalize hs : w.heap.size = s at S
  have HH := Lib.hid hs
  clear hs
  go_loopw [3, 5] (fun s3 s5 wr => ∃ (k : Nat) (l : List Nat) (v : Value), k ≤ n ∧ s3 = v ∧ s5 = .int .i64 (k : Int) ∧ Hid (PlUp w s l v wr)) (fun _ s5 _ => n - (intOf s5).toNat)
  case atStart => exact ⟨0, [], _, by omega, rfl, rfl, S⟩
  case round =>
    obtain ⟨k, l, v, hk, rfl, rfl, U⟩ := hrel
    rename World => W
    by_cases d : k < n
    · obtain ⟨g, o, rfl, hg, hc⟩ := (HS.out.old U.out.kept).lies (by omega)
      have c1 := hc k 0 d (by omega)
      simp only [Nat.mul_one, Nat.add_zero] at c1
      have bz := bounds_u8 (HZ.out k d)
      obtain ⟨y, hy⟩ : ∃ y : Nat, z k = y := ⟨(z k).toNat, by omega⟩
      rw [hy] at c1 bz
      clear hc hy
      obtain ⟨x, hx⟩ : ∃ x : Nat, y % 128 = x := ⟨_, rfl⟩
      have x1 : x < 128 := by omega
      have em : Int.tmod (y : Int) 128 = (x : Int) := by rw [← hx]; exact (Int.ofNat_tmod y 128).symm
      have bc := (U.out.blk.cell x).trans (hasL_get l x x1)
      have bf := U.out.blk.frozen x
      clear hx
      by_cases f : x ∈ l
      · rw [decide_eq_true f] at bc
        clear f bf
        go_wp2_with fail
        refine ⟨⟨k + 1, l, _, by omega, rfl, by go_num, U⟩, ?_⟩
        simp [intOf]; omega
      · rw [decide_eq_false f] at bc
        have F := Lib.hid f
        have O := Lib.hid (U.out.own.kept (only_setCell W s x (.bool true)) (fun g' e e' => U.out.ne (by rw [e, e'])))
        have K := Lib.hid (U.out.kept.setCell (p := ⟨s, x, none⟩) (fun i => by have := U.out.new; have : s < w.heap.size := i; omega) (.bool true))
        have B := Lib.hid (U.out.blk.put x (.bool true))
        rw [hasL_put l x x1] at B
        have hlen := Lib.hid (nodup_length 128 l U.out.nodup U.out.lt)
        have le := Lib.hid (show (l ++ [x]).length = l.length + 1 by simp)
        clear f
        go_wp2_with (at_builtin; refine app_wpI rfl (.tmp 25) (.tmp 27) rfl rfl w.heap.size _ l.length (NI l) rfl (O.out.alloc _) (some ⟨W.heap.size, 0, none⟩) 1 1 [(x : Int)] rfl (RsI.one _ x ⟨by omega, by omega⟩ _ (by simp [World.setCell])) (by intro h; cases h) (by have := hlen.out; omega) (by omega) (K.out.alloc _).size (l.length + 1) rfl (NI l ++ [(x : Int)]) rfl ?_; intro v3 w3 O3 k3 a3)
        have U3 : PlUp w s (l ++ [x]) v3 w3 := by
          have sl := U.out.blk.lt
          have hs' : ¬ some s = u3.ownBlock := fun e => U.out.ne e.symm
          refine ⟨by rw [le.out, NI_append]; exact O3.out, (B.out.alloc _).kept k3.out hs', ?_, ?_, ?_, (O.out.alloc _).step (K.out.alloc _) k3.out, U.out.new⟩
          · rcases a3.out with e | e
            · rw [e]; exact U.out.ne
            · rw [e]; intro e'; injection e' with e'; simp at e'; omega
          · exact List.nodup_append.2 ⟨U.out.nodup, by simp, fun a ha b hb => by rw [List.mem_singleton.1 hb]; intro e; exact F.out (e ▸ ha)⟩
          · intro y hy
            rcases List.mem_append.1 hy with h | h
            · exact U.out.lt y h
            · rw [List.mem_singleton.1 h]; exact x1
        refine ⟨⟨k + 1, l ++ [x], _, by omega, rfl, by go_num, Lib.hid U3⟩, ?_⟩
        simp [intOf]; omega
    · have P : PlacesPost w (.returned u3) W := ⟨l, u3, rfl, U.out.nodup, U.out.lt, made_endI U.out.own U.out.kept⟩
      have P := Lib.hid P
      go_wp2_with fail
      go_ret
      exact P.out
end Go.Proofs.Ytnhgimglefpbaaa
