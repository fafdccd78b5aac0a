/-
  No cell of these rows narrows 'for every input' (looked for: loops, veiled, ifaces, maps, wideKeys, modest, calm, conditions, laid).
  DERIVED. THE GIVEN ROWS OF THIS SEAT. 9 by the template 'for every input the law returns true; each argument reads behind the call as it read before'; 0 by the template 'total and deterministic' (their statements: YtjfkmgicbakmgaaGreatTotals.lean).
  GIVEN WITH THE SEED: the statements are not yours to turn. If you find one false, say at which input.
  Laid BY PROGRAM, IN A SANDBOX (cutbox-rows.mjs): the forced cells as the released guide's own fill.sh prints them over the translation d6b1f89ff4eb2c79… (all of the seat's roots in one cut). By AI agents, Wed Nov 11 2026. No macro, syntax, notation, axiom, sorry.
-/
import Derived.Test.YtjfkmgicbakmgaaGreatChecked
import GoSem.Claim
import GoSem.ClaimJoined
import GoSem.ClaimMapViews
import Derived.JoinedTies
import Derived.KernelRfl
namespace Go.Proofs.YtjfkmgicbakmgaaGreat
/- THE CELL 'sum', in the pinned program and in every row, IS THE sha256 OF THE DUMP (.gsa) THAT YtjfkmgicbakmgaaGreatProg.lean LOADS. Nothing in Lean hashes anything: it is a label: what it is worth is what the hold of that sum in a sandbox is worth. -/
noncomputable def Tryz.pinned : Pinned := { name := "ytjfkmgicbakmgaagreat", sum := "d6b1f89ff4eb2c7924c12fa63560c55f7818db4101e3329c9f790bb45eb9df05", checked := Tryz.checked }
namespace Rows
def none {H : Type} : Left H := { results := [], args := [] }

/-- 'rickyardlaw14.StoreRuns': WHATEVER THE INPUT: true; the input reads as it did. -/
def storeRunsSpec : ChangeSpec := { name := "storeRuns", fn := fun _ => fun
  | [d1, d2] => { results := [.lit (.bool true)], args := [d1, d2] }
  | _ => none }
def storeRunsRow : OpenClaim := { program := "ytjfkmgicbakmgaagreat", sum := "d6b1f89ff4eb2c7924c12fa63560c55f7818db4101e3329c9f790bb45eb9df05", func := "rickyard/rickyardlaw14.StoreRuns", spec := "storeRuns", inPlace := ["slices.overlaps[rickyard/api.Span]", "slices.overlaps[rickyard/pool.part]", "slices.overlaps[rickyard/api.Live]"], unfollowed := true, recurses := true, apart := false }
def StoreRunsSaid : Prop := storeRunsRow.holds Tryz.pinned (OpenSpec.ofChange storeRunsSpec)

/-- ITS FALSE NEIGHBOUR: 'it returns false'. Refute it at one input. -/
def storeRunsWrong : ChangeSpec := { name := "storeRuns", fn := fun _ => fun
  | [d1, d2] => { results := [.lit (.bool false)], args := [d1, d2] }
  | _ => none }
def StoreRunsWrongFalsely : Prop := storeRunsRow.holds Tryz.pinned (OpenSpec.ofChange storeRunsWrong)

/-- 'rickyardlaw14.StoreRaw': WHATEVER THE INPUT: true; the input reads as it did. -/
def storeRawSpec : ChangeSpec := { name := "storeRaw", fn := fun _ => fun
  | [d1, d2] => { results := [.lit (.bool true)], args := [d1, d2] }
  | _ => none }
def storeRawRow : OpenClaim := { program := "ytjfkmgicbakmgaagreat", sum := "d6b1f89ff4eb2c7924c12fa63560c55f7818db4101e3329c9f790bb45eb9df05", func := "rickyard/rickyardlaw14.StoreRaw", spec := "storeRaw", inPlace := ["slices.overlaps[rickyard/api.Span]", "slices.overlaps[rickyard/pool.part]", "slices.overlaps[rickyard/api.Live]"], unfollowed := true, recurses := true, apart := false }
def StoreRawSaid : Prop := storeRawRow.holds Tryz.pinned (OpenSpec.ofChange storeRawSpec)

/-- ITS FALSE NEIGHBOUR: 'it returns false'. Refute it at one input. -/
def storeRawWrong : ChangeSpec := { name := "storeRaw", fn := fun _ => fun
  | [d1, d2] => { results := [.lit (.bool false)], args := [d1, d2] }
  | _ => none }
def StoreRawWrongFalsely : Prop := storeRawRow.holds Tryz.pinned (OpenSpec.ofChange storeRawWrong)

/-- 'rickyardlaw14.StoreWhole': WHATEVER THE INPUT: true; the input reads as it did. -/
def storeWholeSpec : ChangeSpec := { name := "storeWhole", fn := fun _ => fun
  | [d1, d2] => { results := [.lit (.bool true)], args := [d1, d2] }
  | _ => none }
def storeWholeRow : OpenClaim := { program := "ytjfkmgicbakmgaagreat", sum := "d6b1f89ff4eb2c7924c12fa63560c55f7818db4101e3329c9f790bb45eb9df05", func := "rickyard/rickyardlaw14.StoreWhole", spec := "storeWhole", inPlace := ["slices.overlaps[rickyard/api.Span]", "slices.overlaps[rickyard/pool.part]", "slices.overlaps[rickyard/api.Live]"], unfollowed := true, recurses := true, apart := false }
def StoreWholeSaid : Prop := storeWholeRow.holds Tryz.pinned (OpenSpec.ofChange storeWholeSpec)

/-- ITS FALSE NEIGHBOUR: 'it returns false'. Refute it at one input. -/
def storeWholeWrong : ChangeSpec := { name := "storeWhole", fn := fun _ => fun
  | [d1, d2] => { results := [.lit (.bool false)], args := [d1, d2] }
  | _ => none }
def StoreWholeWrongFalsely : Prop := storeWholeRow.holds Tryz.pinned (OpenSpec.ofChange storeWholeWrong)

/-- 'rickyardlaw14.StoreQuiet': WHATEVER THE INPUT: true; the input reads as it did. -/
def storeQuietSpec : ChangeSpec := { name := "storeQuiet", fn := fun _ => fun
  | [d1, d2, d3, d4] => { results := [.lit (.bool true)], args := [d1, d2, d3, d4] }
  | _ => none }
def storeQuietRow : OpenClaim := { program := "ytjfkmgicbakmgaagreat", sum := "d6b1f89ff4eb2c7924c12fa63560c55f7818db4101e3329c9f790bb45eb9df05", func := "rickyard/rickyardlaw14.StoreQuiet", spec := "storeQuiet", inPlace := ["slices.overlaps[rickyard/api.Span]", "slices.overlaps[rickyard/pool.part]", "slices.overlaps[rickyard/api.Live]"], unfollowed := true, recurses := true, apart := false }
def StoreQuietSaid : Prop := storeQuietRow.holds Tryz.pinned (OpenSpec.ofChange storeQuietSpec)

/-- ITS FALSE NEIGHBOUR: 'it returns false'. Refute it at one input. -/
def storeQuietWrong : ChangeSpec := { name := "storeQuiet", fn := fun _ => fun
  | [d1, d2, d3, d4] => { results := [.lit (.bool false)], args := [d1, d2, d3, d4] }
  | _ => none }
def StoreQuietWrongFalsely : Prop := storeQuietRow.holds Tryz.pinned (OpenSpec.ofChange storeQuietWrong)

/-- 'rickyardlaw14.StoreFull': WHATEVER THE INPUT: true; the input reads as it did. -/
def storeFullSpec : ChangeSpec := { name := "storeFull", fn := fun _ => fun
  | [d1, d2, d3] => { results := [.lit (.bool true)], args := [d1, d2, d3] }
  | _ => none }
def storeFullRow : OpenClaim := { program := "ytjfkmgicbakmgaagreat", sum := "d6b1f89ff4eb2c7924c12fa63560c55f7818db4101e3329c9f790bb45eb9df05", func := "rickyard/rickyardlaw14.StoreFull", spec := "storeFull", inPlace := ["slices.overlaps[rickyard/api.Span]", "slices.overlaps[rickyard/pool.part]", "slices.overlaps[rickyard/api.Live]"], unfollowed := true, recurses := true, apart := false }
def StoreFullSaid : Prop := storeFullRow.holds Tryz.pinned (OpenSpec.ofChange storeFullSpec)

/-- ITS FALSE NEIGHBOUR: 'it returns false'. Refute it at one input. -/
def storeFullWrong : ChangeSpec := { name := "storeFull", fn := fun _ => fun
  | [d1, d2, d3] => { results := [.lit (.bool false)], args := [d1, d2, d3] }
  | _ => none }
def StoreFullWrongFalsely : Prop := storeFullRow.holds Tryz.pinned (OpenSpec.ofChange storeFullWrong)

/-- 'rickyardlaw14.StoreModel': WHATEVER THE INPUT: true; the input reads as it did. -/
def storeModelSpec : ChangeSpec := { name := "storeModel", fn := fun _ => fun
  | [d1, d2] => { results := [.lit (.bool true)], args := [d1, d2] }
  | _ => none }
def storeModelRow : OpenClaim := { program := "ytjfkmgicbakmgaagreat", sum := "d6b1f89ff4eb2c7924c12fa63560c55f7818db4101e3329c9f790bb45eb9df05", func := "rickyard/rickyardlaw14.StoreModel", spec := "storeModel", inPlace := ["slices.overlaps[rickyard/api.Span]", "slices.overlaps[rickyard/pool.part]", "slices.overlaps[rickyard/api.Live]"], unfollowed := true, recurses := true, apart := false }
def StoreModelSaid : Prop := storeModelRow.holds Tryz.pinned (OpenSpec.ofChange storeModelSpec)

/-- ITS FALSE NEIGHBOUR: 'it returns false'. Refute it at one input. -/
def storeModelWrong : ChangeSpec := { name := "storeModel", fn := fun _ => fun
  | [d1, d2] => { results := [.lit (.bool false)], args := [d1, d2] }
  | _ => none }
def StoreModelWrongFalsely : Prop := storeModelRow.holds Tryz.pinned (OpenSpec.ofChange storeModelWrong)

/-- 'rickyardlaw14.StoreKept': WHATEVER THE INPUT: true; the input reads as it did. -/
def storeKeptSpec : ChangeSpec := { name := "storeKept", fn := fun _ => fun
  | [d1, d2, d3] => { results := [.lit (.bool true)], args := [d1, d2, d3] }
  | _ => none }
def storeKeptRow : OpenClaim := { program := "ytjfkmgicbakmgaagreat", sum := "d6b1f89ff4eb2c7924c12fa63560c55f7818db4101e3329c9f790bb45eb9df05", func := "rickyard/rickyardlaw14.StoreKept", spec := "storeKept", inPlace := ["slices.overlaps[rickyard/api.Span]", "slices.overlaps[rickyard/pool.part]", "slices.overlaps[rickyard/api.Live]"], unfollowed := true, recurses := true, apart := false }
def StoreKeptSaid : Prop := storeKeptRow.holds Tryz.pinned (OpenSpec.ofChange storeKeptSpec)

/-- ITS FALSE NEIGHBOUR: 'it returns false'. Refute it at one input. -/
def storeKeptWrong : ChangeSpec := { name := "storeKept", fn := fun _ => fun
  | [d1, d2, d3] => { results := [.lit (.bool false)], args := [d1, d2, d3] }
  | _ => none }
def StoreKeptWrongFalsely : Prop := storeKeptRow.holds Tryz.pinned (OpenSpec.ofChange storeKeptWrong)

/-- 'rickyardlaw14.StoreAgain': WHATEVER THE INPUT: true; the input reads as it did. -/
def storeAgainSpec : ChangeSpec := { name := "storeAgain", fn := fun _ => fun
  | [d1, d2, d3] => { results := [.lit (.bool true)], args := [d1, d2, d3] }
  | _ => none }
def storeAgainRow : OpenClaim := { program := "ytjfkmgicbakmgaagreat", sum := "d6b1f89ff4eb2c7924c12fa63560c55f7818db4101e3329c9f790bb45eb9df05", func := "rickyard/rickyardlaw14.StoreAgain", spec := "storeAgain", inPlace := ["slices.overlaps[rickyard/api.Span]", "slices.overlaps[rickyard/pool.part]", "slices.overlaps[rickyard/api.Live]"], unfollowed := true, recurses := true, apart := false }
def StoreAgainSaid : Prop := storeAgainRow.holds Tryz.pinned (OpenSpec.ofChange storeAgainSpec)

/-- ITS FALSE NEIGHBOUR: 'it returns false'. Refute it at one input. -/
def storeAgainWrong : ChangeSpec := { name := "storeAgain", fn := fun _ => fun
  | [d1, d2, d3] => { results := [.lit (.bool false)], args := [d1, d2, d3] }
  | _ => none }
def StoreAgainWrongFalsely : Prop := storeAgainRow.holds Tryz.pinned (OpenSpec.ofChange storeAgainWrong)

/-- 'rickyardlaw14.StoreNone': WHATEVER THE INPUT: true; the input reads as it did. -/
def storeNoneSpec : ChangeSpec := { name := "storeNone", fn := fun _ => fun
  | [d1, d2, d3] => { results := [.lit (.bool true)], args := [d1, d2, d3] }
  | _ => none }
def storeNoneRow : OpenClaim := { program := "ytjfkmgicbakmgaagreat", sum := "d6b1f89ff4eb2c7924c12fa63560c55f7818db4101e3329c9f790bb45eb9df05", func := "rickyard/rickyardlaw14.StoreNone", spec := "storeNone", inPlace := ["slices.overlaps[rickyard/api.Span]", "slices.overlaps[rickyard/pool.part]", "slices.overlaps[rickyard/api.Live]"], unfollowed := true, recurses := true, apart := false }
def StoreNoneSaid : Prop := storeNoneRow.holds Tryz.pinned (OpenSpec.ofChange storeNoneSpec)

/-- ITS FALSE NEIGHBOUR: 'it returns false'. Refute it at one input. -/
def storeNoneWrong : ChangeSpec := { name := "storeNone", fn := fun _ => fun
  | [d1, d2, d3] => { results := [.lit (.bool false)], args := [d1, d2, d3] }
  | _ => none }
def StoreNoneWrongFalsely : Prop := storeNoneRow.holds Tryz.pinned (OpenSpec.ofChange storeNoneWrong)

/- THE SECOND FORM. 'bulk': how many values and letters a reading holds, each counted each time it is reached (what is shared counts as often as it is met; a slice's spare places count too). A statement '..UptoSaid' is the law's where the arguments, and the package variables that the reading takes, are together of bulk at most 1048576: NARROWER than '..Said'. Prove '..Said' where nothing that the law and all that it calls make is longer than what came in: it says more and counts as full. Else prove '..UptoSaid'. A law counts once. -/
mutual
def uptoBulk {H : Type} : DataW H → Nat
  | .lit (.string bytes) => bytes.length + 1
  | .lit _ => 1
  | .nil => 1
  | .ptr d => uptoBulk d + 1
  | .slice elems spare => uptoBulkAll elems + uptoBulkAll spare + 1
  | .agg parts => uptoBulkAll parts + 1
  | .iface _ d => uptoBulk d + 1
  | .map entries => uptoBulkEntries entries + 1
  | .held _ => 1
def uptoBulkAll {H : Type} : List (DataW H) → Nat
  | [] => 0
  | d :: r => uptoBulk d + uptoBulkAll r
def uptoBulkEntries {H : Type} : List (Lit × DataW H) → Nat
  | [] => 0
  | x :: r => uptoBulkEntry x + uptoBulkEntries r
def uptoBulkEntry {H : Type} : Lit × DataW H → Nat
  | (.string bytes, d) => bytes.length + uptoBulk d + 1
  | (_, d) => uptoBulk d + 1
 end
def uptoSmall : (H : Type) → List (DataW H) → Bool := fun _ ds => decide (uptoBulkAll ds ≤ 1048576)
def OpenSpec.upto (s : _root_.Go.ChangeSpec) : _root_.Go.OpenSpec := { _root_.Go.OpenSpec.ofChange s with cond := some uptoSmall }

/-- 'rickyardlaw14.StoreRuns', WHERE WHAT IT READS IS OF BULK AT MOST 1048576: true; the input reads as it did. -/
def storeRunsUptoRow : OpenClaim := { program := "ytjfkmgicbakmgaagreat", sum := "d6b1f89ff4eb2c7924c12fa63560c55f7818db4101e3329c9f790bb45eb9df05", func := "rickyard/rickyardlaw14.StoreRuns", spec := "storeRuns", inPlace := ["slices.overlaps[rickyard/api.Span]", "slices.overlaps[rickyard/pool.part]", "slices.overlaps[rickyard/api.Live]"], unfollowed := true, recurses := true, apart := false, narrowed := true }
def StoreRunsUptoSaid : Prop := storeRunsUptoRow.holds Tryz.pinned (OpenSpec.upto storeRunsSpec)

/-- 'rickyardlaw14.StoreRaw', WHERE WHAT IT READS IS OF BULK AT MOST 1048576: true; the input reads as it did. -/
def storeRawUptoRow : OpenClaim := { program := "ytjfkmgicbakmgaagreat", sum := "d6b1f89ff4eb2c7924c12fa63560c55f7818db4101e3329c9f790bb45eb9df05", func := "rickyard/rickyardlaw14.StoreRaw", spec := "storeRaw", inPlace := ["slices.overlaps[rickyard/api.Span]", "slices.overlaps[rickyard/pool.part]", "slices.overlaps[rickyard/api.Live]"], unfollowed := true, recurses := true, apart := false, narrowed := true }
def StoreRawUptoSaid : Prop := storeRawUptoRow.holds Tryz.pinned (OpenSpec.upto storeRawSpec)

/-- 'rickyardlaw14.StoreWhole', WHERE WHAT IT READS IS OF BULK AT MOST 1048576: true; the input reads as it did. -/
def storeWholeUptoRow : OpenClaim := { program := "ytjfkmgicbakmgaagreat", sum := "d6b1f89ff4eb2c7924c12fa63560c55f7818db4101e3329c9f790bb45eb9df05", func := "rickyard/rickyardlaw14.StoreWhole", spec := "storeWhole", inPlace := ["slices.overlaps[rickyard/api.Span]", "slices.overlaps[rickyard/pool.part]", "slices.overlaps[rickyard/api.Live]"], unfollowed := true, recurses := true, apart := false, narrowed := true }
def StoreWholeUptoSaid : Prop := storeWholeUptoRow.holds Tryz.pinned (OpenSpec.upto storeWholeSpec)

/-- 'rickyardlaw14.StoreQuiet', WHERE WHAT IT READS IS OF BULK AT MOST 1048576: true; the input reads as it did. -/
def storeQuietUptoRow : OpenClaim := { program := "ytjfkmgicbakmgaagreat", sum := "d6b1f89ff4eb2c7924c12fa63560c55f7818db4101e3329c9f790bb45eb9df05", func := "rickyard/rickyardlaw14.StoreQuiet", spec := "storeQuiet", inPlace := ["slices.overlaps[rickyard/api.Span]", "slices.overlaps[rickyard/pool.part]", "slices.overlaps[rickyard/api.Live]"], unfollowed := true, recurses := true, apart := false, narrowed := true }
def StoreQuietUptoSaid : Prop := storeQuietUptoRow.holds Tryz.pinned (OpenSpec.upto storeQuietSpec)

/-- 'rickyardlaw14.StoreFull', WHERE WHAT IT READS IS OF BULK AT MOST 1048576: true; the input reads as it did. -/
def storeFullUptoRow : OpenClaim := { program := "ytjfkmgicbakmgaagreat", sum := "d6b1f89ff4eb2c7924c12fa63560c55f7818db4101e3329c9f790bb45eb9df05", func := "rickyard/rickyardlaw14.StoreFull", spec := "storeFull", inPlace := ["slices.overlaps[rickyard/api.Span]", "slices.overlaps[rickyard/pool.part]", "slices.overlaps[rickyard/api.Live]"], unfollowed := true, recurses := true, apart := false, narrowed := true }
def StoreFullUptoSaid : Prop := storeFullUptoRow.holds Tryz.pinned (OpenSpec.upto storeFullSpec)

/-- 'rickyardlaw14.StoreModel', WHERE WHAT IT READS IS OF BULK AT MOST 1048576: true; the input reads as it did. -/
def storeModelUptoRow : OpenClaim := { program := "ytjfkmgicbakmgaagreat", sum := "d6b1f89ff4eb2c7924c12fa63560c55f7818db4101e3329c9f790bb45eb9df05", func := "rickyard/rickyardlaw14.StoreModel", spec := "storeModel", inPlace := ["slices.overlaps[rickyard/api.Span]", "slices.overlaps[rickyard/pool.part]", "slices.overlaps[rickyard/api.Live]"], unfollowed := true, recurses := true, apart := false, narrowed := true }
def StoreModelUptoSaid : Prop := storeModelUptoRow.holds Tryz.pinned (OpenSpec.upto storeModelSpec)

/-- 'rickyardlaw14.StoreKept', WHERE WHAT IT READS IS OF BULK AT MOST 1048576: true; the input reads as it did. -/
def storeKeptUptoRow : OpenClaim := { program := "ytjfkmgicbakmgaagreat", sum := "d6b1f89ff4eb2c7924c12fa63560c55f7818db4101e3329c9f790bb45eb9df05", func := "rickyard/rickyardlaw14.StoreKept", spec := "storeKept", inPlace := ["slices.overlaps[rickyard/api.Span]", "slices.overlaps[rickyard/pool.part]", "slices.overlaps[rickyard/api.Live]"], unfollowed := true, recurses := true, apart := false, narrowed := true }
def StoreKeptUptoSaid : Prop := storeKeptUptoRow.holds Tryz.pinned (OpenSpec.upto storeKeptSpec)

/-- 'rickyardlaw14.StoreAgain', WHERE WHAT IT READS IS OF BULK AT MOST 1048576: true; the input reads as it did. -/
def storeAgainUptoRow : OpenClaim := { program := "ytjfkmgicbakmgaagreat", sum := "d6b1f89ff4eb2c7924c12fa63560c55f7818db4101e3329c9f790bb45eb9df05", func := "rickyard/rickyardlaw14.StoreAgain", spec := "storeAgain", inPlace := ["slices.overlaps[rickyard/api.Span]", "slices.overlaps[rickyard/pool.part]", "slices.overlaps[rickyard/api.Live]"], unfollowed := true, recurses := true, apart := false, narrowed := true }
def StoreAgainUptoSaid : Prop := storeAgainUptoRow.holds Tryz.pinned (OpenSpec.upto storeAgainSpec)

/-- 'rickyardlaw14.StoreNone', WHERE WHAT IT READS IS OF BULK AT MOST 1048576: true; the input reads as it did. -/
def storeNoneUptoRow : OpenClaim := { program := "ytjfkmgicbakmgaagreat", sum := "d6b1f89ff4eb2c7924c12fa63560c55f7818db4101e3329c9f790bb45eb9df05", func := "rickyard/rickyardlaw14.StoreNone", spec := "storeNone", inPlace := ["slices.overlaps[rickyard/api.Span]", "slices.overlaps[rickyard/pool.part]", "slices.overlaps[rickyard/api.Live]"], unfollowed := true, recurses := true, apart := false, narrowed := true }
def StoreNoneUptoSaid : Prop := storeNoneUptoRow.holds Tryz.pinned (OpenSpec.upto storeNoneSpec)

end Rows
end Go.Proofs.YtjfkmgicbakmgaaGreat
