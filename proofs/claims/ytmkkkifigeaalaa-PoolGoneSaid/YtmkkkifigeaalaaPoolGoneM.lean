/-
  Which stacks are out, in a list, and how many of each span: beside a list of spans (GoneInv), with no program in sight; a pool beside a list and a row of numbers (GS). Own work.
-/
import Derived.Test.YtmkkkifigeaalaaRows
import Derived.Test.YtmkkkifigeaalaaPoolOnceS
namespace Go.Proofs.Ytmkkkifigeaalaa.Prt
open Go.ChangeShapes Go.WideShapes Go.ChangeAt Go.RowKit

def updN (f : Nat → Nat) (k v i : Nat) : Nat := if i = k then v else f i
structure GoneInv (c n : Nat) (L : List Q) (ol : List Nat) (lf : Nat → Nat) : Prop where
  m8 : Mul8 L
  low : ∀ x ∈ L, x.page < 8 * n
  nod : ol.Nodup
  outs : ∀ a, a ∈ ol ↔ ∃ x ∈ L, atB c x.page (a : Int) = true ∧ a ∉ x.free
  left : ∀ x ∈ L, lf (x.page / 8) + x.free.length = perN c
  sum : ol.length + lenL L = L.length * perN c
/-- The first i spans, all free. -/
def fullL (c i : Nat) : List Q := (List.range i).map fun j => ⟨8 * j, allQ c (8 * j)⟩
theorem fullL_succ (c i : Nat) : fullL c (i + 1) = fullL c i ++ [⟨8 * i, allQ c (8 * i)⟩] := by unfold fullL; rw [List.range_succ, List.map_append]; rfl
theorem fullL_length (c i : Nat) : (fullL c i).length = i := by unfold fullL; simp
theorem full_add {c i : Nat} (hi : i < 4) : addC 32 (fullL c i) ((8 * i : Nat) : Int) = 0 ∧ addL 32 c (fullL c i) ((8 * i : Nat) : Int) = fullL c (i + 1) := by
  have hp : placeQ (8 * i) (fullL c i) = some (fullL c i).length := placeQ_end fun y hy => by
    rw [List.take_length] at hy
    unfold fullL at hy
    obtain ⟨j, hj, rfl⟩ := List.mem_map.1 hy
    have := List.mem_range.1 hj
    show 8 * j + 8 ≤ 8 * i
    omega
  unfold addC addL
  rw [if_neg (by omega), if_neg (by omega), Int.toNat_natCast, hp]
  refine ⟨rfl, ?_⟩
  show insQ c (fullL c i) (fullL c i).length (8 * i) = _
  unfold insQ
  rw [List.take_length, List.drop_length, fullL_succ]
theorem lenL_full (c : Nat) : ∀ i, lenL (fullL c i) = i * perN c := by
  intro i
  induction i with
  | zero => simp [fullL, lenL, freeL]
  | succ i ih =>
    rw [fullL_succ, lenL_append, ih, lenL_cons, allQ_length, Nat.add_mul, Nat.one_mul]
    simp [lenL, freeL]
theorem GoneInv.start {c n : Nat} (hc : c < 4) : GoneInv c n (fullL c n) [] (fun _ => 0) := by
  have hm : ∀ x ∈ fullL c n, ∃ j, j < n ∧ x = ⟨8 * j, allQ c (8 * j)⟩ := fun x hx => by
    unfold fullL at hx
    obtain ⟨j, hj, rfl⟩ := List.mem_map.1 hx
    exact ⟨j, List.mem_range.1 hj, rfl⟩
  refine ⟨fun x hx => ?_, fun x hx => ?_, List.nodup_nil, fun a => ⟨fun h => (by cases h), ?_⟩, fun x hx => ?_, ?_⟩
  · obtain ⟨j, _, rfl⟩ := hm x hx; show 8 * j % 8 = 0; omega
  · obtain ⟨j, hj, rfl⟩ := hm x hx; show 8 * j < 8 * n; omega
  · rintro ⟨x, hx, h1, h2⟩
    obtain ⟨j, _, rfl⟩ := hm x hx
    obtain ⟨i, hi, e⟩ := of_at hc h1
    have e : a = stk c (8 * j) i := by exact_mod_cast e
    exact absurd (List.mem_map.2 ⟨i, List.mem_range.2 hi, e.symm⟩) h2
  · obtain ⟨j, _, rfl⟩ := hm x hx; show 0 + (allQ c (8 * j)).length = _; rw [allQ_length]; omega
  · rw [lenL_full, fullL_length]; simp
theorem GoneInv.takes {c n k pg b : Nat} {r : List Nat} {L : List Q} {ol : List Nat} {lf : Nat → Nat} (h : GoneInv c n L ol lf) (g : GoodP 32 c L) (hn : n ≤ 4) (hk : L[k]? = some ⟨pg, b :: r⟩) :
    b < 512 * n ∧ b / 512 < 4 ∧ lf (b / 512) < 16 ∧ GoneInv c n (L.set k ⟨pg, r⟩) (ol ++ [b]) (updN lf (b / 512) (lf (b / 512) + 1)) := by
  have hm := List.mem_of_getElem? hk
  have hb := g.stks _ hm b List.mem_cons_self
  have hr := at_range hb
  have nd := List.nodup_cons.1 (g.nod _ hm)
  have am := at_mul g.cls hb (h.m8 _ hm)
  have am2 : b / 512 * 8 = pg := am.2
  have lw : pg < 8 * n := h.low _ hm
  have ln := lenL_at hk
  simp only [List.length_cons] at ln
  have hs := h.sum
  have pp := per_pos g.cls
  have lx : lf (pg / 8) + (r.length + 1) = perN c := h.left _ hm
  have e8 : pg / 8 = b / 512 := by omega
  have fresh : b ∉ ol := fun hbo => by
    obtain ⟨x, hx, h1, h2⟩ := (h.outs b).1 hbo
    rcases (mem_at hk x).1 hx with hx | rfl | hx
    · have := at_no hb (g.other hk (.inl hx)); rw [h1] at this; cases this
    · exact absurd List.mem_cons_self h2
    · have := at_no hb (g.other hk (.inr hx)); rw [h1] at this; cases this
  refine ⟨by simp only [] at hr; omega, by omega, by rw [← e8]; omega, ⟨fun x hx => ?_, fun x hx => ?_, ?_, fun a => ?_, fun x hx => ?_, ?_⟩⟩
  · rcases (mem_set_at hk x).1 hx with hx | rfl | hx
    · exact h.m8 x ((mem_at hk x).2 (.inl hx))
    · exact h.m8 (⟨pg, b :: r⟩ : Q) hm
    · exact h.m8 x ((mem_at hk x).2 (.inr (.inr hx)))
  · rcases (mem_set_at hk x).1 hx with hx | rfl | hx
    · exact h.low x ((mem_at hk x).2 (.inl hx))
    · exact lw
    · exact h.low x ((mem_at hk x).2 (.inr (.inr hx)))
  · refine List.nodup_append.2 ⟨h.nod, by simp, fun x hx y hy => ?_⟩
    rintro rfl
    obtain rfl := List.mem_singleton.1 hy
    exact fresh hx
  · rw [List.mem_append, List.mem_singleton, h.outs a]
    constructor
    · rintro (⟨x, hx, hp, hq⟩ | rfl)
      · rcases (mem_at hk x).1 hx with hx | rfl | hx
        · exact ⟨x, (mem_set_at hk x).2 (.inl hx), hp, hq⟩
        · exact ⟨_, (mem_set_at hk _).2 (.inr (.inl rfl)), hp, fun m => hq (List.mem_cons_of_mem _ m)⟩
        · exact ⟨x, (mem_set_at hk x).2 (.inr (.inr hx)), hp, hq⟩
      · exact ⟨_, (mem_set_at hk _).2 (.inr (.inl rfl)), hb, nd.1⟩
    · rintro ⟨x, hx, hp, hq⟩
      by_cases e : a = b
      · exact .inr e
      · refine .inl ?_
        rcases (mem_set_at hk x).1 hx with hx | rfl | hx
        · exact ⟨x, (mem_at hk x).2 (.inl hx), hp, hq⟩
        · exact ⟨_, hm, hp, fun m => by rcases List.mem_cons.1 m with m | m; exact e m; exact hq m⟩
        · exact ⟨x, (mem_at hk x).2 (.inr (.inr hx)), hp, hq⟩
  · unfold updN
    rcases (mem_set_at hk x).1 hx with hx | rfl | hx
    · have h1 := g.other hk (.inl hx)
      have h2 := h.m8 x ((mem_at hk x).2 (.inl hx))
      simp only [] at h1
      rw [if_neg (by omega)]
      exact h.left x ((mem_at hk x).2 (.inl hx))
    · show (if pg / 8 = b / 512 then _ else _) + r.length = _
      rw [if_pos e8, ← e8]
      omega
    · have h1 := g.other hk (.inr hx)
      have h2 := h.m8 x ((mem_at hk x).2 (.inr (.inr hx)))
      simp only [] at h1
      rw [if_neg (by omega)]
      exact h.left x ((mem_at hk x).2 (.inr (.inr hx)))
  · rw [lenL_set hk, List.length_set, List.length_append]; simp only [List.length_cons, List.length_nil]; omega
/-- No span is all free. -/
def PartL (c : Nat) (L : List Q) : Prop := ∀ x ∈ L, x.free.length < perN c
theorem GoneInv.done {c n : Nat} {L : List Q} {lf : Nat → Nat} (h : GoneInv c n L [] lf) (p : PartL c L) : L = [] := by
  cases L with
  | nil => rfl
  | cons x t =>
    exfalso
    have hs := h.sum
    have h1 := lenL_le (L := x :: t) (n := perN c - 1) (fun y hy => by have := p y hy; omega)
    have h2 := p x List.mem_cons_self
    simp only [List.length_nil, List.length_cons, Nat.add_mul, Nat.one_mul] at hs h1
    have h3 : t.length * (perN c - 1) ≤ t.length * perN c := Nat.mul_le_mul_left _ (by omega)
    omega
theorem PartL.ofEmpty {c : Nat} {L : List Q} (hc : c < 4) (h : lenL L = 0) : PartL c L := fun x hx => by
  obtain ⟨k, hk⟩ := List.getElem?_of_mem hx
  have := lenL_at hk
  have := per_pos hc
  omega
/-- One that is out is put. -/
theorem GoneInv.puts {c n k a : Nat} {L : List Q} {ol : List Nat} {lf : Nat → Nat} (h : GoneInv c n L ol lf) (g : GoodP 32 c L) (p : PartL c L) (hk : ol[k]? = some a) :
    ∃ i x, L[i]? = some x ∧ atB c x.page (a : Int) = true ∧ a ∉ x.free ∧ x.page = 8 * (a / 512) ∧ a / 512 < 4 ∧ a < 2048 ∧ 0 < lf (a / 512) ∧ lf (a / 512) ≤ 16 ∧ (x.free.length + 1 = perN c ↔ lf (a / 512) - 1 = 0) ∧
      (x.free.length + 1 ≠ perN c → PartL c (L.set i ⟨x.page, a :: x.free⟩) ∧ GoneInv c n (L.set i ⟨x.page, a :: x.free⟩) (ol.take k ++ ol.drop (k + 1)) (updN lf (a / 512) (lf (a / 512) - 1))) ∧
      (x.free.length + 1 = perN c → PartL c (L.take i ++ L.drop (i + 1)) ∧ GoneInv c n (L.take i ++ L.drop (i + 1)) (ol.take k ++ ol.drop (k + 1)) (updN lf (a / 512) (lf (a / 512) - 1))) := by
  obtain ⟨x, hx, ha, hn⟩ := (h.outs a).1 (List.mem_of_getElem? hk)
  obtain ⟨i, hi⟩ := List.getElem?_of_mem hx
  have hr := at_range ha
  have hp := g.inP x hx
  have am := at_mul g.cls ha (h.m8 _ hx)
  have am2 := am.2
  have lx := h.left x hx
  have e8 : x.page / 8 = a / 512 := by omega
  rw [e8] at lx
  have nd : (a :: x.free).Nodup := List.nodup_cons.2 ⟨hn, g.nod x hx⟩
  have hat : ∀ b ∈ a :: x.free, atB c x.page (b : Int) = true := fun b hb => by
    rcases List.mem_cons.1 hb with rfl | hb
    · exact ha
    · exact g.stks x hx b hb
  have fl := free_len g.cls nd hat
  simp only [List.length_cons] at fl
  have pp := per_pos g.cls
  have ln := lenL_at hi
  have hs := h.sum
  have hl := (List.getElem?_eq_some_iff.1 hi).1
  have kl := (List.getElem?_eq_some_iff.1 hk).1
  have nd' := h.nod
  rw [split_at hk, List.nodup_append] at nd'
  obtain ⟨n1, n2, n3⟩ := nd'
  have n4 := List.nodup_cons.1 n2
  have anot : ∀ b, b ∈ ol.take k ++ ol.drop (k + 1) ↔ b ∈ ol ∧ b ≠ a := fun b => by
    rw [List.mem_append, mem_at hk b]
    constructor
    · rintro (hb | hb)
      · exact ⟨.inl hb, n3 b hb a List.mem_cons_self⟩
      · exact ⟨.inr (.inr hb), fun e => n4.1 (e ▸ hb)⟩
    · rintro ⟨hb | hb | hb, ne⟩
      · exact .inl hb
      · exact absurd hb ne
      · exact .inr hb
  have nod2 : (ol.take k ++ ol.drop (k + 1)).Nodup := List.nodup_append.2 ⟨n1, n4.2, fun x hx y hy => n3 x hx y (List.mem_cons_of_mem _ hy)⟩
  have ll : (ol.take k ++ ol.drop (k + 1)).length = ol.length - 1 := by simp; omega
  have apart : ∀ y, (y ∈ L.take i ∨ y ∈ L.drop (i + 1)) → y.page / 8 ≠ a / 512 := fun y hy => by
    have h1 := g.other hi hy
    have h2 := h.m8 y ((mem_at hi y).2 (hy.elim .inl fun z => .inr (.inr z)))
    omega
  refine ⟨i, x, hi, ha, hn, by omega, by omega, by omega, by omega, by omega, by omega, fun nf => ⟨fun y hy => ?_, fun y hy => ?_, fun y hy => ?_, nod2, fun b => ?_, fun y hy => ?_, ?_⟩, fun full => ⟨fun y hy => ?_, fun y hy => ?_, fun y hy => ?_, nod2, fun b => ?_, fun y hy => ?_, ?_⟩⟩
  · rcases (mem_set_at hi y).1 hy with hy | rfl | hy
    · exact p y ((mem_at hi y).2 (.inl hy))
    · show x.free.length + 1 < _; omega
    · exact p y ((mem_at hi y).2 (.inr (.inr hy)))
  · rcases (mem_set_at hi y).1 hy with hy | rfl | hy
    · exact h.m8 y ((mem_at hi y).2 (.inl hy))
    · exact h.m8 x hx
    · exact h.m8 y ((mem_at hi y).2 (.inr (.inr hy)))
  · rcases (mem_set_at hi y).1 hy with hy | rfl | hy
    · exact h.low y ((mem_at hi y).2 (.inl hy))
    · exact h.low x hx
    · exact h.low y ((mem_at hi y).2 (.inr (.inr hy)))
  · rw [anot b, h.outs b]
    constructor
    · rintro ⟨⟨y, hy, hq, hb⟩, ne⟩
      rcases (mem_at hi y).1 hy with hy | rfl | hy
      · exact ⟨y, (mem_set_at hi y).2 (.inl hy), hq, hb⟩
      · exact ⟨_, (mem_set_at hi _).2 (.inr (.inl rfl)), hq, fun m => by rcases List.mem_cons.1 m with m | m; exact ne m; exact hb m⟩
      · exact ⟨y, (mem_set_at hi y).2 (.inr (.inr hy)), hq, hb⟩
    · rintro ⟨y, hy, hq, hb⟩
      rcases (mem_set_at hi y).1 hy with hy1 | rfl | hy1
      · exact ⟨⟨y, (mem_at hi y).2 (.inl hy1), hq, hb⟩, fun e => by have := at_no ha (g.other hi (.inl hy1)); rw [← e, hq] at this; cases this⟩
      · exact ⟨⟨_, hx, hq, fun m => hb (List.mem_cons_of_mem _ m)⟩, fun e => hb (by rw [e]; exact List.mem_cons_self)⟩
      · exact ⟨⟨y, (mem_at hi y).2 (.inr (.inr hy1)), hq, hb⟩, fun e => by have := at_no ha (g.other hi (.inr hy1)); rw [← e, hq] at this; cases this⟩
  · unfold updN
    rcases (mem_set_at hi y).1 hy with hy | rfl | hy
    · rw [if_neg (apart y (.inl hy))]; exact h.left y ((mem_at hi y).2 (.inl hy))
    · show (if x.page / 8 = a / 512 then _ else _) + (x.free.length + 1) = _
      rw [if_pos e8]
      omega
    · rw [if_neg (apart y (.inr hy))]; exact h.left y ((mem_at hi y).2 (.inr (.inr hy)))
  · rw [lenL_set hi, List.length_set, ll]; simp only [List.length_cons]; omega
  · rcases List.mem_append.1 hy with hy | hy
    · exact p y ((mem_at hi y).2 (.inl hy))
    · exact p y ((mem_at hi y).2 (.inr (.inr hy)))
  · rcases List.mem_append.1 hy with hy | hy
    · exact h.m8 y ((mem_at hi y).2 (.inl hy))
    · exact h.m8 y ((mem_at hi y).2 (.inr (.inr hy)))
  · rcases List.mem_append.1 hy with hy | hy
    · exact h.low y ((mem_at hi y).2 (.inl hy))
    · exact h.low y ((mem_at hi y).2 (.inr (.inr hy)))
  · rw [anot b, h.outs b]
    constructor
    · rintro ⟨⟨y, hy, hq, hb⟩, ne⟩
      rcases (mem_at hi y).1 hy with hy | rfl | hy
      · exact ⟨y, List.mem_append.2 (.inl hy), hq, hb⟩
      · exfalso
        have nd2 : (b :: a :: y.free).Nodup := List.nodup_cons.2 ⟨fun m => by rcases List.mem_cons.1 m with m | m; exact ne m; exact hb m, nd⟩
        have := free_len g.cls nd2 (page := y.page) (fun z hz => by
          rcases List.mem_cons.1 hz with rfl | hz
          · exact hq
          · exact hat z hz)
        simp only [List.length_cons] at this
        omega
      · exact ⟨y, List.mem_append.2 (.inr hy), hq, hb⟩
    · rintro ⟨y, hy, hq, hb⟩
      have hy' := List.mem_append.1 hy
      exact ⟨⟨y, (mem_at hi y).2 (hy'.elim .inl fun z => .inr (.inr z)), hq, hb⟩, fun e => by subst e; have := at_no ha (g.other hi hy'); rw [hq] at this; cases this⟩
  · unfold updN
    have hy' := List.mem_append.1 hy
    rw [if_neg (apart y hy')]
    exact h.left y ((mem_at hi y).2 (hy'.elim .inl fun z => .inr (.inr z)))
  · rw [lenL_del, ll]
    have e1 : (L.take i ++ L.drop (i + 1)).length = L.length - 1 := by simp; omega
    rw [e1, Nat.sub_mul, Nat.one_mul]
    have : perN c ≤ L.length * perN c := Nat.le_mul_of_pos_left _ (by omega)
    omega

/-! ### A row of numbers -/
def rowN (n : Nat) (f : Nat → Nat) : List Value := (List.range n).map fun i => .int .i64 (f i : Int)
theorem rowN_get {n : Nat} {f : Nat → Nat} {i : Nat} (h : i < n) : (rowN n f)[i]? = some (.int .i64 (f i : Int)) := by unfold rowN; rw [List.getElem?_map, List.getElem?_range h]; rfl
theorem rowN_set {n : Nat} {f : Nat → Nat} {i : Nat} (b : Nat) : (rowN n f).set i (.int .i64 (b : Int)) = rowN n (updN f i b) := by
  apply List.ext_getElem?
  intro j
  rw [List.getElem?_set]
  by_cases hj : j < n
  · rw [rowN_get hj, rowN_get hj]
    unfold updN
    by_cases e : i = j
    · rw [if_pos e, if_pos e.symm]
      subst e
      rw [if_pos (by unfold rowN; simpa using hj)]
    · rw [if_neg e, if_neg (fun h => e h.symm)]
  · have z : ∀ f, (rowN n f)[j]? = none := fun f => List.getElem?_eq_none (by unfold rowN; simp; omega)
    rw [z, z]
    split
    · rename_i h
      subst h
      rw [if_neg (by unfold rowN; simp; omega)]
    · rfl
/-- Block b is the n numbers of f. -/
def NR (W : World) (b n : Nat) (f : Nat → Nat) : Prop := Blk W b 3 (rowN n f)
theorem NR.cell {W : World} {b n : Nat} {f : Nat → Nat} (h : NR W b n f) {i : Nat} (hi : i < n) : W.cell? ⟨b, i, none⟩ = some (.int .i64 (f i : Int)) := by rw [Blk.cell h, rowN_get hi]
theorem NR.frozen {W : World} {b n : Nat} {f : Nat → Nat} (h : NR W b n f) (i : Nat) : W.frozen? ⟨b, i, none⟩ = false := Blk.frozen h i
theorem NR.kept {D : Nat → Prop} {W W' : World} {b n : Nat} {f : Nat → Nat} (h : NR W b n f) (k : Kept D W W') (hd : ¬ D b) : NR W' b n f := Blk.kept h k hd
theorem NR.put {W : World} {b n : Nat} {f : Nat → Nat} (h : NR W b n f) (i v : Nat) : NR (W.setCell ⟨b, i, none⟩ (.int .i64 (v : Int))) b n (updN f i v) := by
  have := Blk.put h i (.int .i64 (v : Int))
  rw [rowN_set] at this
  exact this
theorem rowN_zeros (n : Nat) : madeCells #[.int .i64 0] n = (rowN n (fun _ => 0)).toArray := by
  apply Array.ext'
  unfold madeCells rowN
  apply List.ext_getElem?
  intro i
  by_cases c : i < n
  · simp [c, Nat.mod_one]
  · simp [c]
theorem make_row (w : World) (n : Nat) (hn : n ≤ 3000) : ∃ w', (Instr.makeSlice 31 (.int .i64 (n : Int)) (.int .i64 (n : Int))).run Try.prog w = .ok (.slice (some ⟨w.heap.size, 0, none⟩) n n) w' ∧ NR w' w.heap.size n (fun _ => 0) ∧ Kept Old w w' ∧ w.heap.size < w'.heap.size := by
  obtain ⟨i0, hi, hz0, hz1, hz2⟩ := info_parts Try.intInfo1
  have hr := run_make (P := Try.prog) w 31 3 i0 _ Try.underlying31 hi hz0 .i64 .i64 n n (by omega) (Int.le_refl _) (by rw [hz2]; omega) (by omega)
  simp only [Int.toNat_natCast, hz1, Nat.mul_one] at hr
  have e : (Value.int .i64 0).cells = #[.int .i64 0] := rfl
  rw [e, rowN_zeros] at hr
  exact ⟨_, hr, Blk.new _ _ _, (Kept.refl _ _).alloc _, by simp⟩
/-- A pool beside a list and a row of numbers. -/
structure GS (w W : World) (p a g c : Nat) (L : List Q) (v : Value) (ol : List Nat) (bl : Nat) (lf : Nat → Nat) : Prop where
  st : StP w W p a g 32 c L (fun b => OwnB v b ∨ b = bl)
  tk : OwI W w.heap.size v ol.length (NI ol)
  lf : NR W bl 4 lf
  lo : w.heap.size ≤ bl
  ne : v.ownBlock ≠ some bl
theorem GS.old {w W W' : World} {p a g c : Nat} {L : List Q} {v : Value} {ol : List Nat} {bl : Nat} {lf : Nat → Nat} (h : GS w W p a g c L v ol bl lf) (k : Kept Old W W') : GS w W' p a g c L v ol bl lf := ⟨h.st.old k, h.tk.old k, h.lf.kept k (fun x => x), h.lo, h.ne⟩
theorem GS.turn {w W W' : World} {p a g c : Nat} {L L' : List Q} {v : Value} {ol : List Nat} {bl : Nat} {lf : Nat → Nat} (h : GS w W p a g c L v ol bl lf) (s : StP w W' p a g 32 c L' (fun b => OwnB v b ∨ b = bl)) (k : Kept (Fr fun b => OwnB v b ∨ b = bl) W W') : GS w W' p a g c L' v ol bl lf := ⟨s, h.tk.kept k (fun _ e z => z (.inl e)), h.lf.kept k (fun z => z (.inr rfl)), h.lo, h.ne⟩
/-- Behind an append. -/
theorem GS.app {w W W' : World} {p a g c : Nat} {L : List Q} {v v' : Value} {ol ol' : List Nat} {bl : Nat} {lf : Nat → Nat} (h : GS w W p a g c L v ol bl lf) (o : OwI W' w.heap.size v' ol'.length (NI ol')) (k : Kept (fun k => some k = v.ownBlock) W W') (hv : v'.ownBlock = v.ownBlock ∨ ∃ b, v'.ownBlock = some b ∧ W.heap.size ≤ b) : GS w W' p a g c L v' ol' bl lf := by
  have lt := (h.lf : Blk _ _ _ _).lt
  refine ⟨h.st.only k (fun b e => ⟨.inl e.symm, (h.tk.own b e).1⟩) (fun b e => ?_), o, h.lf.kept k (fun e => h.ne e.symm), h.lo, ?_⟩
  · rcases e with e | e
    · have e : v'.ownBlock = some b := e
      have l2 := (o.own b e.symm).2
      rcases hv with f | ⟨b', f, hb⟩
      · exact .inl (.inl (by show v.ownBlock = some b; rw [← f]; exact e))
      · rw [e] at f
        injection f with f
        exact .inr ⟨by omega, l2⟩
    · exact .inl (.inr e)
  · rcases hv with f | ⟨b', f, hb⟩
    · rw [f]; exact h.ne
    · rw [f]; intro z; injection z with z; omega
/-- A number is written. -/
theorem GS.put {w W : World} {p a g c : Nat} {L : List Q} {v : Value} {ol : List Nat} {bl : Nat} {lf : Nat → Nat} (h : GS w W p a g c L v ol bl lf) (i x : Nat) : GS w (W.setCell ⟨bl, i, none⟩ (.int .i64 (x : Int))) p a g c L v ol bl (updN lf i x) :=
  ⟨h.st.row (.inr rfl) h.lo i _, h.tk.kept (only_setCell W bl i _) (fun b e f => h.ne (by rw [e, show b = bl from f])), h.lf.put i x, h.lo, h.ne⟩
theorem RsI.dropI {w : World} {g o n : Nat} {l : List Int} (h : RsI w (some ⟨g, o, none⟩) n l) {i : Nat} (A : Option Addr) (hA : i < n → A = some ⟨g, o + i, none⟩) : RsI w A (n - i) (l.drop i) :=
  ⟨by have := h.len; simp; omega, fun x hx => h.fit x (List.mem_of_mem_drop hx), fun h0 => by
    obtain ⟨g', o', e, hg, c⟩ := h.lies (by omega)
    injection e with e
    injection e with e1 e2
    subst e1
    subst e2
    refine ⟨g, o + i, hA (by omega), hg, fun j x hx => ?_⟩
    rw [List.getElem?_drop] at hx
    have := c (i + j) x hx
    rw [show o + i + j = o + (i + j) by omega]
    exact this⟩
theorem NI_drop (l : List Nat) (i : Nat) : NI (l.drop i) = (NI l).drop i := by unfold NI; simp
end Go.Proofs.Ytmkkkifigeaalaa.Prt
