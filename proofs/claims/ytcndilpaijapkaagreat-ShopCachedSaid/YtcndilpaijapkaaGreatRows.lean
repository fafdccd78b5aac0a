/-
  No cell of these rows narrows 'for every input' (looked for: loops, veiled, ifaces, maps, wideKeys, modest, calm, conditions, laid).
  DERIVED. THE GIVEN ROWS OF THIS SEAT. 9 by the template 'for every input the law returns true; each argument reads behind the call as it read before'; 0 by the template 'total and deterministic' (their statements: YtcndilpaijapkaaGreatTotals.lean).
  GIVEN WITH THE SEED: the statements are not yours to turn. If you find one false, say at which input.
  Laid BY PROGRAM, IN A SANDBOX (cutbox-rows.mjs): the forced cells as the released guide's own fill.sh prints them over the translation 8e4f4ae61e0dec9d… (all of the seat's roots in one cut). By AI agents, Wed Nov 11 2026. No macro, syntax, notation, axiom, sorry.
-/
import Derived.Test.YtcndilpaijapkaaGreatChecked
import GoSem.Claim
import GoSem.ClaimJoined
import GoSem.ClaimMapViews
import Derived.JoinedTies
import Derived.KernelRfl
namespace Go.Proofs.YtcndilpaijapkaaGreat
/- THE CELL 'sum', in the pinned program and in every row, IS THE sha256 OF THE DUMP (.gsa) THAT YtcndilpaijapkaaGreatProg.lean LOADS. Nothing in Lean hashes anything: it is a label: what it is worth is what the hold of that sum in a sandbox is worth. -/
noncomputable def Tryz.pinned : Pinned := { name := "ytcndilpaijapkaagreat", sum := "8e4f4ae61e0dec9d9c31eb23bbb95ebbaadc7cadf141232ded7da86e4d9fe889", checked := Tryz.checked }
namespace Rows
def none {H : Type} : Left H := { results := [], args := [] }

/-- 'rickyardlaw15.ShopRuns': WHATEVER THE INPUT: true; the input reads as it did. -/
def shopRunsSpec : ChangeSpec := { name := "shopRuns", fn := fun _ => fun
  | [d1, d2, d3] => { results := [.lit (.bool true)], args := [d1, d2, d3] }
  | _ => none }
def shopRunsRow : OpenClaim := { program := "ytcndilpaijapkaagreat", sum := "8e4f4ae61e0dec9d9c31eb23bbb95ebbaadc7cadf141232ded7da86e4d9fe889", func := "rickyard/rickyardlaw15.ShopRuns", spec := "shopRuns", inPlace := ["slices.overlaps[rickyard/api.Span]", "slices.overlaps[rickyard/pool.part]", "slices.overlaps[rickyard/api.Live]"], unfollowed := true, recurses := true, apart := false }
def ShopRunsSaid : Prop := shopRunsRow.holds Tryz.pinned (OpenSpec.ofChange shopRunsSpec)

/-- ITS FALSE NEIGHBOUR: 'it returns false'. Refute it at one input. -/
def shopRunsWrong : ChangeSpec := { name := "shopRuns", fn := fun _ => fun
  | [d1, d2, d3] => { results := [.lit (.bool false)], args := [d1, d2, d3] }
  | _ => none }
def ShopRunsWrongFalsely : Prop := shopRunsRow.holds Tryz.pinned (OpenSpec.ofChange shopRunsWrong)

/-- 'rickyardlaw15.ShopRaw': WHATEVER THE INPUT: true; the input reads as it did. -/
def shopRawSpec : ChangeSpec := { name := "shopRaw", fn := fun _ => fun
  | [d1, d2, d3] => { results := [.lit (.bool true)], args := [d1, d2, d3] }
  | _ => none }
def shopRawRow : OpenClaim := { program := "ytcndilpaijapkaagreat", sum := "8e4f4ae61e0dec9d9c31eb23bbb95ebbaadc7cadf141232ded7da86e4d9fe889", func := "rickyard/rickyardlaw15.ShopRaw", spec := "shopRaw", inPlace := ["slices.overlaps[rickyard/api.Span]", "slices.overlaps[rickyard/pool.part]", "slices.overlaps[rickyard/api.Live]"], unfollowed := true, recurses := true, apart := false }
def ShopRawSaid : Prop := shopRawRow.holds Tryz.pinned (OpenSpec.ofChange shopRawSpec)

/-- ITS FALSE NEIGHBOUR: 'it returns false'. Refute it at one input. -/
def shopRawWrong : ChangeSpec := { name := "shopRaw", fn := fun _ => fun
  | [d1, d2, d3] => { results := [.lit (.bool false)], args := [d1, d2, d3] }
  | _ => none }
def ShopRawWrongFalsely : Prop := shopRawRow.holds Tryz.pinned (OpenSpec.ofChange shopRawWrong)

/-- 'rickyardlaw15.ShopWhole': WHATEVER THE INPUT: true; the input reads as it did. -/
def shopWholeSpec : ChangeSpec := { name := "shopWhole", fn := fun _ => fun
  | [d1, d2, d3] => { results := [.lit (.bool true)], args := [d1, d2, d3] }
  | _ => none }
def shopWholeRow : OpenClaim := { program := "ytcndilpaijapkaagreat", sum := "8e4f4ae61e0dec9d9c31eb23bbb95ebbaadc7cadf141232ded7da86e4d9fe889", func := "rickyard/rickyardlaw15.ShopWhole", spec := "shopWhole", inPlace := ["slices.overlaps[rickyard/api.Span]", "slices.overlaps[rickyard/pool.part]", "slices.overlaps[rickyard/api.Live]"], unfollowed := true, recurses := true, apart := false }
def ShopWholeSaid : Prop := shopWholeRow.holds Tryz.pinned (OpenSpec.ofChange shopWholeSpec)

/-- ITS FALSE NEIGHBOUR: 'it returns false'. Refute it at one input. -/
def shopWholeWrong : ChangeSpec := { name := "shopWhole", fn := fun _ => fun
  | [d1, d2, d3] => { results := [.lit (.bool false)], args := [d1, d2, d3] }
  | _ => none }
def ShopWholeWrongFalsely : Prop := shopWholeRow.holds Tryz.pinned (OpenSpec.ofChange shopWholeWrong)

/-- 'rickyardlaw15.ShopQuiet': WHATEVER THE INPUT: true; the input reads as it did. -/
def shopQuietSpec : ChangeSpec := { name := "shopQuiet", fn := fun _ => fun
  | [d1, d2, d3, d4, d5] => { results := [.lit (.bool true)], args := [d1, d2, d3, d4, d5] }
  | _ => none }
def shopQuietRow : OpenClaim := { program := "ytcndilpaijapkaagreat", sum := "8e4f4ae61e0dec9d9c31eb23bbb95ebbaadc7cadf141232ded7da86e4d9fe889", func := "rickyard/rickyardlaw15.ShopQuiet", spec := "shopQuiet", inPlace := ["slices.overlaps[rickyard/api.Span]", "slices.overlaps[rickyard/pool.part]", "slices.overlaps[rickyard/api.Live]"], unfollowed := true, recurses := true, apart := false }
def ShopQuietSaid : Prop := shopQuietRow.holds Tryz.pinned (OpenSpec.ofChange shopQuietSpec)

/-- ITS FALSE NEIGHBOUR: 'it returns false'. Refute it at one input. -/
def shopQuietWrong : ChangeSpec := { name := "shopQuiet", fn := fun _ => fun
  | [d1, d2, d3, d4, d5] => { results := [.lit (.bool false)], args := [d1, d2, d3, d4, d5] }
  | _ => none }
def ShopQuietWrongFalsely : Prop := shopQuietRow.holds Tryz.pinned (OpenSpec.ofChange shopQuietWrong)

/-- 'rickyardlaw15.ShopCaps': WHATEVER THE INPUT: true; the input reads as it did. -/
def shopCapsSpec : ChangeSpec := { name := "shopCaps", fn := fun _ => fun
  | [d1, d2, d3] => { results := [.lit (.bool true)], args := [d1, d2, d3] }
  | _ => none }
def shopCapsRow : OpenClaim := { program := "ytcndilpaijapkaagreat", sum := "8e4f4ae61e0dec9d9c31eb23bbb95ebbaadc7cadf141232ded7da86e4d9fe889", func := "rickyard/rickyardlaw15.ShopCaps", spec := "shopCaps", inPlace := ["slices.overlaps[rickyard/api.Span]", "slices.overlaps[rickyard/pool.part]", "slices.overlaps[rickyard/api.Live]"], unfollowed := true, recurses := true, apart := false }
def ShopCapsSaid : Prop := shopCapsRow.holds Tryz.pinned (OpenSpec.ofChange shopCapsSpec)

/-- ITS FALSE NEIGHBOUR: 'it returns false'. Refute it at one input. -/
def shopCapsWrong : ChangeSpec := { name := "shopCaps", fn := fun _ => fun
  | [d1, d2, d3] => { results := [.lit (.bool false)], args := [d1, d2, d3] }
  | _ => none }
def ShopCapsWrongFalsely : Prop := shopCapsRow.holds Tryz.pinned (OpenSpec.ofChange shopCapsWrong)

/-- 'rickyardlaw15.ShopModel': WHATEVER THE INPUT: true; the input reads as it did. -/
def shopModelSpec : ChangeSpec := { name := "shopModel", fn := fun _ => fun
  | [d1, d2, d3] => { results := [.lit (.bool true)], args := [d1, d2, d3] }
  | _ => none }
def shopModelRow : OpenClaim := { program := "ytcndilpaijapkaagreat", sum := "8e4f4ae61e0dec9d9c31eb23bbb95ebbaadc7cadf141232ded7da86e4d9fe889", func := "rickyard/rickyardlaw15.ShopModel", spec := "shopModel", inPlace := ["slices.overlaps[rickyard/api.Span]", "slices.overlaps[rickyard/pool.part]", "slices.overlaps[rickyard/api.Live]"], unfollowed := true, recurses := true, apart := false }
def ShopModelSaid : Prop := shopModelRow.holds Tryz.pinned (OpenSpec.ofChange shopModelSpec)

/-- ITS FALSE NEIGHBOUR: 'it returns false'. Refute it at one input. -/
def shopModelWrong : ChangeSpec := { name := "shopModel", fn := fun _ => fun
  | [d1, d2, d3] => { results := [.lit (.bool false)], args := [d1, d2, d3] }
  | _ => none }
def ShopModelWrongFalsely : Prop := shopModelRow.holds Tryz.pinned (OpenSpec.ofChange shopModelWrong)

/-- 'rickyardlaw15.ShopFull': WHATEVER THE INPUT: true; the input reads as it did. -/
def shopFullSpec : ChangeSpec := { name := "shopFull", fn := fun _ => fun
  | [d1, d2, d3, d4, d5] => { results := [.lit (.bool true)], args := [d1, d2, d3, d4, d5] }
  | _ => none }
def shopFullRow : OpenClaim := { program := "ytcndilpaijapkaagreat", sum := "8e4f4ae61e0dec9d9c31eb23bbb95ebbaadc7cadf141232ded7da86e4d9fe889", func := "rickyard/rickyardlaw15.ShopFull", spec := "shopFull", inPlace := ["slices.overlaps[rickyard/api.Span]", "slices.overlaps[rickyard/pool.part]", "slices.overlaps[rickyard/api.Live]"], unfollowed := true, recurses := true, apart := false }
def ShopFullSaid : Prop := shopFullRow.holds Tryz.pinned (OpenSpec.ofChange shopFullSpec)

/-- ITS FALSE NEIGHBOUR: 'it returns false'. Refute it at one input. -/
def shopFullWrong : ChangeSpec := { name := "shopFull", fn := fun _ => fun
  | [d1, d2, d3, d4, d5] => { results := [.lit (.bool false)], args := [d1, d2, d3, d4, d5] }
  | _ => none }
def ShopFullWrongFalsely : Prop := shopFullRow.holds Tryz.pinned (OpenSpec.ofChange shopFullWrong)

/-- 'rickyardlaw15.ShopCached': WHATEVER THE INPUT: true; the input reads as it did. -/
def shopCachedSpec : ChangeSpec := { name := "shopCached", fn := fun _ => fun
  | [d1, d2, d3, d4, d5] => { results := [.lit (.bool true)], args := [d1, d2, d3, d4, d5] }
  | _ => none }
def shopCachedRow : OpenClaim := { program := "ytcndilpaijapkaagreat", sum := "8e4f4ae61e0dec9d9c31eb23bbb95ebbaadc7cadf141232ded7da86e4d9fe889", func := "rickyard/rickyardlaw15.ShopCached", spec := "shopCached", inPlace := ["slices.overlaps[rickyard/api.Span]", "slices.overlaps[rickyard/pool.part]", "slices.overlaps[rickyard/api.Live]"], unfollowed := true, recurses := true, apart := false }
def ShopCachedSaid : Prop := shopCachedRow.holds Tryz.pinned (OpenSpec.ofChange shopCachedSpec)

/-- ITS FALSE NEIGHBOUR: 'it returns false'. Refute it at one input. -/
def shopCachedWrong : ChangeSpec := { name := "shopCached", fn := fun _ => fun
  | [d1, d2, d3, d4, d5] => { results := [.lit (.bool false)], args := [d1, d2, d3, d4, d5] }
  | _ => none }
def ShopCachedWrongFalsely : Prop := shopCachedRow.holds Tryz.pinned (OpenSpec.ofChange shopCachedWrong)

/-- 'rickyardlaw15.ShopNone': WHATEVER THE INPUT: true; the input reads as it did. -/
def shopNoneSpec : ChangeSpec := { name := "shopNone", fn := fun _ => fun
  | [d1, d2, d3, d4] => { results := [.lit (.bool true)], args := [d1, d2, d3, d4] }
  | _ => none }
def shopNoneRow : OpenClaim := { program := "ytcndilpaijapkaagreat", sum := "8e4f4ae61e0dec9d9c31eb23bbb95ebbaadc7cadf141232ded7da86e4d9fe889", func := "rickyard/rickyardlaw15.ShopNone", spec := "shopNone", inPlace := ["slices.overlaps[rickyard/api.Span]", "slices.overlaps[rickyard/pool.part]", "slices.overlaps[rickyard/api.Live]"], unfollowed := true, recurses := true, apart := false }
def ShopNoneSaid : Prop := shopNoneRow.holds Tryz.pinned (OpenSpec.ofChange shopNoneSpec)

/-- ITS FALSE NEIGHBOUR: 'it returns false'. Refute it at one input. -/
def shopNoneWrong : ChangeSpec := { name := "shopNone", fn := fun _ => fun
  | [d1, d2, d3, d4] => { results := [.lit (.bool false)], args := [d1, d2, d3, d4] }
  | _ => none }
def ShopNoneWrongFalsely : Prop := shopNoneRow.holds Tryz.pinned (OpenSpec.ofChange shopNoneWrong)

/- THE SECOND FORM. 'bulk': how many values and letters a reading holds, each counted each time it is reached (what is shared counts as often as it is met; a slice's spare places count too). A statement '..UptoSaid' is the law's where the arguments, and the package variables that the reading takes, are together of bulk at most 1048576: NARROWER than '..Said'. Prove '..Said' where nothing that the law and all that it calls make is longer than what came in: it says more and counts as full. Else prove '..UptoSaid'. A law counts once. -/
mutual
def uptoBulk {H : Type} : DataW H → Nat
  | .lit (.string bytes) => bytes.length + 1
  | .lit _ => 1
  | .nil => 1
  | .ptr d => uptoBulk d + 1
  | .slice elems spare => uptoBulkAll elems + uptoBulkAll spare + 1
  | .agg parts => uptoBulkAll parts + 1
  | .iface _ d => uptoBulk d + 1
  | .map entries => uptoBulkEntries entries + 1
  | .held _ => 1
def uptoBulkAll {H : Type} : List (DataW H) → Nat
  | [] => 0
  | d :: r => uptoBulk d + uptoBulkAll r
def uptoBulkEntries {H : Type} : List (Lit × DataW H) → Nat
  | [] => 0
  | x :: r => uptoBulkEntry x + uptoBulkEntries r
def uptoBulkEntry {H : Type} : Lit × DataW H → Nat
  | (.string bytes, d) => bytes.length + uptoBulk d + 1
  | (_, d) => uptoBulk d + 1
 end
def uptoSmall : (H : Type) → List (DataW H) → Bool := fun _ ds => decide (uptoBulkAll ds ≤ 1048576)
def OpenSpec.upto (s : _root_.Go.ChangeSpec) : _root_.Go.OpenSpec := { _root_.Go.OpenSpec.ofChange s with cond := some uptoSmall }

/-- 'rickyardlaw15.ShopRuns', WHERE WHAT IT READS IS OF BULK AT MOST 1048576: true; the input reads as it did. -/
def shopRunsUptoRow : OpenClaim := { program := "ytcndilpaijapkaagreat", sum := "8e4f4ae61e0dec9d9c31eb23bbb95ebbaadc7cadf141232ded7da86e4d9fe889", func := "rickyard/rickyardlaw15.ShopRuns", spec := "shopRuns", inPlace := ["slices.overlaps[rickyard/api.Span]", "slices.overlaps[rickyard/pool.part]", "slices.overlaps[rickyard/api.Live]"], unfollowed := true, recurses := true, apart := false, narrowed := true }
def ShopRunsUptoSaid : Prop := shopRunsUptoRow.holds Tryz.pinned (OpenSpec.upto shopRunsSpec)

/-- 'rickyardlaw15.ShopRaw', WHERE WHAT IT READS IS OF BULK AT MOST 1048576: true; the input reads as it did. -/
def shopRawUptoRow : OpenClaim := { program := "ytcndilpaijapkaagreat", sum := "8e4f4ae61e0dec9d9c31eb23bbb95ebbaadc7cadf141232ded7da86e4d9fe889", func := "rickyard/rickyardlaw15.ShopRaw", spec := "shopRaw", inPlace := ["slices.overlaps[rickyard/api.Span]", "slices.overlaps[rickyard/pool.part]", "slices.overlaps[rickyard/api.Live]"], unfollowed := true, recurses := true, apart := false, narrowed := true }
def ShopRawUptoSaid : Prop := shopRawUptoRow.holds Tryz.pinned (OpenSpec.upto shopRawSpec)

/-- 'rickyardlaw15.ShopWhole', WHERE WHAT IT READS IS OF BULK AT MOST 1048576: true; the input reads as it did. -/
def shopWholeUptoRow : OpenClaim := { program := "ytcndilpaijapkaagreat", sum := "8e4f4ae61e0dec9d9c31eb23bbb95ebbaadc7cadf141232ded7da86e4d9fe889", func := "rickyard/rickyardlaw15.ShopWhole", spec := "shopWhole", inPlace := ["slices.overlaps[rickyard/api.Span]", "slices.overlaps[rickyard/pool.part]", "slices.overlaps[rickyard/api.Live]"], unfollowed := true, recurses := true, apart := false, narrowed := true }
def ShopWholeUptoSaid : Prop := shopWholeUptoRow.holds Tryz.pinned (OpenSpec.upto shopWholeSpec)

/-- 'rickyardlaw15.ShopQuiet', WHERE WHAT IT READS IS OF BULK AT MOST 1048576: true; the input reads as it did. -/
def shopQuietUptoRow : OpenClaim := { program := "ytcndilpaijapkaagreat", sum := "8e4f4ae61e0dec9d9c31eb23bbb95ebbaadc7cadf141232ded7da86e4d9fe889", func := "rickyard/rickyardlaw15.ShopQuiet", spec := "shopQuiet", inPlace := ["slices.overlaps[rickyard/api.Span]", "slices.overlaps[rickyard/pool.part]", "slices.overlaps[rickyard/api.Live]"], unfollowed := true, recurses := true, apart := false, narrowed := true }
def ShopQuietUptoSaid : Prop := shopQuietUptoRow.holds Tryz.pinned (OpenSpec.upto shopQuietSpec)

/-- 'rickyardlaw15.ShopCaps', WHERE WHAT IT READS IS OF BULK AT MOST 1048576: true; the input reads as it did. -/
def shopCapsUptoRow : OpenClaim := { program := "ytcndilpaijapkaagreat", sum := "8e4f4ae61e0dec9d9c31eb23bbb95ebbaadc7cadf141232ded7da86e4d9fe889", func := "rickyard/rickyardlaw15.ShopCaps", spec := "shopCaps", inPlace := ["slices.overlaps[rickyard/api.Span]", "slices.overlaps[rickyard/pool.part]", "slices.overlaps[rickyard/api.Live]"], unfollowed := true, recurses := true, apart := false, narrowed := true }
def ShopCapsUptoSaid : Prop := shopCapsUptoRow.holds Tryz.pinned (OpenSpec.upto shopCapsSpec)

/-- 'rickyardlaw15.ShopModel', WHERE WHAT IT READS IS OF BULK AT MOST 1048576: true; the input reads as it did. -/
def shopModelUptoRow : OpenClaim := { program := "ytcndilpaijapkaagreat", sum := "8e4f4ae61e0dec9d9c31eb23bbb95ebbaadc7cadf141232ded7da86e4d9fe889", func := "rickyard/rickyardlaw15.ShopModel", spec := "shopModel", inPlace := ["slices.overlaps[rickyard/api.Span]", "slices.overlaps[rickyard/pool.part]", "slices.overlaps[rickyard/api.Live]"], unfollowed := true, recurses := true, apart := false, narrowed := true }
def ShopModelUptoSaid : Prop := shopModelUptoRow.holds Tryz.pinned (OpenSpec.upto shopModelSpec)

/-- 'rickyardlaw15.ShopFull', WHERE WHAT IT READS IS OF BULK AT MOST 1048576: true; the input reads as it did. -/
def shopFullUptoRow : OpenClaim := { program := "ytcndilpaijapkaagreat", sum := "8e4f4ae61e0dec9d9c31eb23bbb95ebbaadc7cadf141232ded7da86e4d9fe889", func := "rickyard/rickyardlaw15.ShopFull", spec := "shopFull", inPlace := ["slices.overlaps[rickyard/api.Span]", "slices.overlaps[rickyard/pool.part]", "slices.overlaps[rickyard/api.Live]"], unfollowed := true, recurses := true, apart := false, narrowed := true }
def ShopFullUptoSaid : Prop := shopFullUptoRow.holds Tryz.pinned (OpenSpec.upto shopFullSpec)

/-- 'rickyardlaw15.ShopCached', WHERE WHAT IT READS IS OF BULK AT MOST 1048576: true; the input reads as it did. -/
def shopCachedUptoRow : OpenClaim := { program := "ytcndilpaijapkaagreat", sum := "8e4f4ae61e0dec9d9c31eb23bbb95ebbaadc7cadf141232ded7da86e4d9fe889", func := "rickyard/rickyardlaw15.ShopCached", spec := "shopCached", inPlace := ["slices.overlaps[rickyard/api.Span]", "slices.overlaps[rickyard/pool.part]", "slices.overlaps[rickyard/api.Live]"], unfollowed := true, recurses := true, apart := false, narrowed := true }
def ShopCachedUptoSaid : Prop := shopCachedUptoRow.holds Tryz.pinned (OpenSpec.upto shopCachedSpec)

/-- 'rickyardlaw15.ShopNone', WHERE WHAT IT READS IS OF BULK AT MOST 1048576: true; the input reads as it did. -/
def shopNoneUptoRow : OpenClaim := { program := "ytcndilpaijapkaagreat", sum := "8e4f4ae61e0dec9d9c31eb23bbb95ebbaadc7cadf141232ded7da86e4d9fe889", func := "rickyard/rickyardlaw15.ShopNone", spec := "shopNone", inPlace := ["slices.overlaps[rickyard/api.Span]", "slices.overlaps[rickyard/pool.part]", "slices.overlaps[rickyard/api.Live]"], unfollowed := true, recurses := true, apart := false, narrowed := true }
def ShopNoneUptoSaid : Prop := shopNoneUptoRow.holds Tryz.pinned (OpenSpec.upto shopNoneSpec)

end Rows
end Go.Proofs.YtcndilpaijapkaaGreat
