/-
  No cell of these rows narrows 'for every input' (looked for: loops, veiled, ifaces, maps, wideKeys, modest, calm, conditions, laid).
  DERIVED. THE GIVEN ROWS OF THIS SEAT. 6 by the template 'for every input the law returns true; each argument reads behind the call as it read before'; 0 by the template 'total and deterministic' (their statements: YtmajgfpfbieakaaTotals.lean).
  GIVEN WITH THE SEED: the statements are not yours to turn. If you find one false, say at which input.
  Laid BY PROGRAM, IN A SANDBOX (cutbox-rows.mjs): the forced cells as the released guide's own fill.sh prints them over the translation 5e2c8571c7532df3… (all of the seat's roots in one cut). By AI agents, Wed Nov 11 2026. No macro, syntax, notation, axiom, sorry.
-/
import Derived.Test.YtmajgfpfbieakaaChecked
import GoSem.Claim
import GoSem.ClaimJoined
import GoSem.ClaimMapViews
import Derived.JoinedTies
import Derived.KernelRfl
namespace Go.Proofs.Ytmajgfpfbieakaa
/- THE CELL 'sum', in the pinned program and in every row, IS THE sha256 OF THE DUMP (.gsa) THAT YtmajgfpfbieakaaProg.lean LOADS. Nothing in Lean hashes anything: it is a label: what it is worth is what the hold of that sum in a sandbox is worth. -/
noncomputable def Try.pinned : Pinned := { name := "ytmajgfpfbieakaa", sum := "5e2c8571c7532df3ec856f47634fb33984f5fd33bdb1286b17faeccea727fc15", checked := Try.checked }
namespace Rows
def none {H : Type} : Left H := { results := [], args := [] }

/-- 'rickyardlaw13.ModelAll': WHATEVER THE INPUT: true; the input reads as it did. -/
def modelAllSpec : ChangeSpec := { name := "modelAll", fn := fun _ => fun
  | [d1, d2, d3] => { results := [.lit (.bool true)], args := [d1, d2, d3] }
  | _ => none }
def modelAllRow : OpenClaim := { program := "ytmajgfpfbieakaa", sum := "5e2c8571c7532df3ec856f47634fb33984f5fd33bdb1286b17faeccea727fc15", func := "rickyard/rickyardlaw13.ModelAll", spec := "modelAll", unfollowed := true, recurses := true, apart := false }
def ModelAllSaid : Prop := modelAllRow.holds Try.pinned (OpenSpec.ofChange modelAllSpec)

/-- ITS FALSE NEIGHBOUR: 'it returns false'. Refute it at one input. -/
def modelAllWrong : ChangeSpec := { name := "modelAll", fn := fun _ => fun
  | [d1, d2, d3] => { results := [.lit (.bool false)], args := [d1, d2, d3] }
  | _ => none }
def ModelAllWrongFalsely : Prop := modelAllRow.holds Try.pinned (OpenSpec.ofChange modelAllWrong)

/-- 'rickyardlaw13.ModelAccepts': WHATEVER THE INPUT: true; the input reads as it did. -/
def modelAcceptsSpec : ChangeSpec := { name := "modelAccepts", fn := fun _ => fun
  | [d1, d2, d3] => { results := [.lit (.bool true)], args := [d1, d2, d3] }
  | _ => none }
def modelAcceptsRow : OpenClaim := { program := "ytmajgfpfbieakaa", sum := "5e2c8571c7532df3ec856f47634fb33984f5fd33bdb1286b17faeccea727fc15", func := "rickyard/rickyardlaw13.ModelAccepts", spec := "modelAccepts", inPlace := ["slices.overlaps[rickyard/api.Live]"], unfollowed := true, recurses := true, apart := false }
def ModelAcceptsSaid : Prop := modelAcceptsRow.holds Try.pinned (OpenSpec.ofChange modelAcceptsSpec)

/-- ITS FALSE NEIGHBOUR: 'it returns false'. Refute it at one input. -/
def modelAcceptsWrong : ChangeSpec := { name := "modelAccepts", fn := fun _ => fun
  | [d1, d2, d3] => { results := [.lit (.bool false)], args := [d1, d2, d3] }
  | _ => none }
def ModelAcceptsWrongFalsely : Prop := modelAcceptsRow.holds Try.pinned (OpenSpec.ofChange modelAcceptsWrong)

/-- 'rickyardlaw13.ModelApart': WHATEVER THE INPUT: true; the input reads as it did. -/
def modelApartSpec : ChangeSpec := { name := "modelApart", fn := fun _ => fun
  | [d1, d2] => { results := [.lit (.bool true)], args := [d1, d2] }
  | _ => none }
def modelApartRow : OpenClaim := { program := "ytmajgfpfbieakaa", sum := "5e2c8571c7532df3ec856f47634fb33984f5fd33bdb1286b17faeccea727fc15", func := "rickyard/rickyardlaw13.ModelApart", spec := "modelApart", inPlace := ["slices.overlaps[rickyard/api.Live]"], unfollowed := true, recurses := true, apart := false }
def ModelApartSaid : Prop := modelApartRow.holds Try.pinned (OpenSpec.ofChange modelApartSpec)

/-- ITS FALSE NEIGHBOUR: 'it returns false'. Refute it at one input. -/
def modelApartWrong : ChangeSpec := { name := "modelApart", fn := fun _ => fun
  | [d1, d2] => { results := [.lit (.bool false)], args := [d1, d2] }
  | _ => none }
def ModelApartWrongFalsely : Prop := modelApartRow.holds Try.pinned (OpenSpec.ofChange modelApartWrong)

/-- 'rickyardlaw13.ModelBack': WHATEVER THE INPUT: true; the input reads as it did. -/
def modelBackSpec : ChangeSpec := { name := "modelBack", fn := fun _ => fun
  | [d1, d2, d3] => { results := [.lit (.bool true)], args := [d1, d2, d3] }
  | _ => none }
def modelBackRow : OpenClaim := { program := "ytmajgfpfbieakaa", sum := "5e2c8571c7532df3ec856f47634fb33984f5fd33bdb1286b17faeccea727fc15", func := "rickyard/rickyardlaw13.ModelBack", spec := "modelBack", unfollowed := true, recurses := true, apart := false }
def ModelBackSaid : Prop := modelBackRow.holds Try.pinned (OpenSpec.ofChange modelBackSpec)

/-- ITS FALSE NEIGHBOUR: 'it returns false'. Refute it at one input. -/
def modelBackWrong : ChangeSpec := { name := "modelBack", fn := fun _ => fun
  | [d1, d2, d3] => { results := [.lit (.bool false)], args := [d1, d2, d3] }
  | _ => none }
def ModelBackWrongFalsely : Prop := modelBackRow.holds Try.pinned (OpenSpec.ofChange modelBackWrong)

/-- 'rickyardlaw13.ModelCut': WHATEVER THE INPUT: true; the input reads as it did. -/
def modelCutSpec : ChangeSpec := { name := "modelCut", fn := fun _ => fun
  | [d1, d2, d3] => { results := [.lit (.bool true)], args := [d1, d2, d3] }
  | _ => none }
def modelCutRow : OpenClaim := { program := "ytmajgfpfbieakaa", sum := "5e2c8571c7532df3ec856f47634fb33984f5fd33bdb1286b17faeccea727fc15", func := "rickyard/rickyardlaw13.ModelCut", spec := "modelCut", inPlace := ["slices.overlaps[rickyard/api.Live]"], unfollowed := true, recurses := true, apart := false }
def ModelCutSaid : Prop := modelCutRow.holds Try.pinned (OpenSpec.ofChange modelCutSpec)

/-- ITS FALSE NEIGHBOUR: 'it returns false'. Refute it at one input. -/
def modelCutWrong : ChangeSpec := { name := "modelCut", fn := fun _ => fun
  | [d1, d2, d3] => { results := [.lit (.bool false)], args := [d1, d2, d3] }
  | _ => none }
def ModelCutWrongFalsely : Prop := modelCutRow.holds Try.pinned (OpenSpec.ofChange modelCutWrong)

/-- 'rickyardlaw13.ModelOwn': WHATEVER THE INPUT: true; the input reads as it did. -/
def modelOwnSpec : ChangeSpec := { name := "modelOwn", fn := fun _ => fun
  | [d1, d2, d3] => { results := [.lit (.bool true)], args := [d1, d2, d3] }
  | _ => none }
def modelOwnRow : OpenClaim := { program := "ytmajgfpfbieakaa", sum := "5e2c8571c7532df3ec856f47634fb33984f5fd33bdb1286b17faeccea727fc15", func := "rickyard/rickyardlaw13.ModelOwn", spec := "modelOwn", inPlace := ["slices.overlaps[rickyard/api.Live]"], unfollowed := true, recurses := true, apart := false }
def ModelOwnSaid : Prop := modelOwnRow.holds Try.pinned (OpenSpec.ofChange modelOwnSpec)

/-- ITS FALSE NEIGHBOUR: 'it returns false'. Refute it at one input. -/
def modelOwnWrong : ChangeSpec := { name := "modelOwn", fn := fun _ => fun
  | [d1, d2, d3] => { results := [.lit (.bool false)], args := [d1, d2, d3] }
  | _ => none }
def ModelOwnWrongFalsely : Prop := modelOwnRow.holds Try.pinned (OpenSpec.ofChange modelOwnWrong)

/- THE SECOND FORM. 'bulk': how many values and letters a reading holds, each counted each time it is reached (what is shared counts as often as it is met; a slice's spare places count too). A statement '..UptoSaid' is the law's where the arguments, and the package variables that the reading takes, are together of bulk at most 1048576: NARROWER than '..Said'. Prove '..Said' where nothing that the law and all that it calls make is longer than what came in: it says more and counts as full. Else prove '..UptoSaid'. A law counts once. -/
mutual
def uptoBulk {H : Type} : DataW H → Nat
  | .lit (.string bytes) => bytes.length + 1
  | .lit _ => 1
  | .nil => 1
  | .ptr d => uptoBulk d + 1
  | .slice elems spare => uptoBulkAll elems + uptoBulkAll spare + 1
  | .agg parts => uptoBulkAll parts + 1
  | .iface _ d => uptoBulk d + 1
  | .map entries => uptoBulkEntries entries + 1
  | .held _ => 1
def uptoBulkAll {H : Type} : List (DataW H) → Nat
  | [] => 0
  | d :: r => uptoBulk d + uptoBulkAll r
def uptoBulkEntries {H : Type} : List (Lit × DataW H) → Nat
  | [] => 0
  | x :: r => uptoBulkEntry x + uptoBulkEntries r
def uptoBulkEntry {H : Type} : Lit × DataW H → Nat
  | (.string bytes, d) => bytes.length + uptoBulk d + 1
  | (_, d) => uptoBulk d + 1
 end
def uptoSmall : (H : Type) → List (DataW H) → Bool := fun _ ds => decide (uptoBulkAll ds ≤ 1048576)
def OpenSpec.upto (s : _root_.Go.ChangeSpec) : _root_.Go.OpenSpec := { _root_.Go.OpenSpec.ofChange s with cond := some uptoSmall }

/-- 'rickyardlaw13.ModelAll', WHERE WHAT IT READS IS OF BULK AT MOST 1048576: true; the input reads as it did. -/
def modelAllUptoRow : OpenClaim := { program := "ytmajgfpfbieakaa", sum := "5e2c8571c7532df3ec856f47634fb33984f5fd33bdb1286b17faeccea727fc15", func := "rickyard/rickyardlaw13.ModelAll", spec := "modelAll", unfollowed := true, recurses := true, apart := false, narrowed := true }
def ModelAllUptoSaid : Prop := modelAllUptoRow.holds Try.pinned (OpenSpec.upto modelAllSpec)

/-- 'rickyardlaw13.ModelAccepts', WHERE WHAT IT READS IS OF BULK AT MOST 1048576: true; the input reads as it did. -/
def modelAcceptsUptoRow : OpenClaim := { program := "ytmajgfpfbieakaa", sum := "5e2c8571c7532df3ec856f47634fb33984f5fd33bdb1286b17faeccea727fc15", func := "rickyard/rickyardlaw13.ModelAccepts", spec := "modelAccepts", inPlace := ["slices.overlaps[rickyard/api.Live]"], unfollowed := true, recurses := true, apart := false, narrowed := true }
def ModelAcceptsUptoSaid : Prop := modelAcceptsUptoRow.holds Try.pinned (OpenSpec.upto modelAcceptsSpec)

/-- 'rickyardlaw13.ModelApart', WHERE WHAT IT READS IS OF BULK AT MOST 1048576: true; the input reads as it did. -/
def modelApartUptoRow : OpenClaim := { program := "ytmajgfpfbieakaa", sum := "5e2c8571c7532df3ec856f47634fb33984f5fd33bdb1286b17faeccea727fc15", func := "rickyard/rickyardlaw13.ModelApart", spec := "modelApart", inPlace := ["slices.overlaps[rickyard/api.Live]"], unfollowed := true, recurses := true, apart := false, narrowed := true }
def ModelApartUptoSaid : Prop := modelApartUptoRow.holds Try.pinned (OpenSpec.upto modelApartSpec)

/-- 'rickyardlaw13.ModelBack', WHERE WHAT IT READS IS OF BULK AT MOST 1048576: true; the input reads as it did. -/
def modelBackUptoRow : OpenClaim := { program := "ytmajgfpfbieakaa", sum := "5e2c8571c7532df3ec856f47634fb33984f5fd33bdb1286b17faeccea727fc15", func := "rickyard/rickyardlaw13.ModelBack", spec := "modelBack", unfollowed := true, recurses := true, apart := false, narrowed := true }
def ModelBackUptoSaid : Prop := modelBackUptoRow.holds Try.pinned (OpenSpec.upto modelBackSpec)

/-- 'rickyardlaw13.ModelCut', WHERE WHAT IT READS IS OF BULK AT MOST 1048576: true; the input reads as it did. -/
def modelCutUptoRow : OpenClaim := { program := "ytmajgfpfbieakaa", sum := "5e2c8571c7532df3ec856f47634fb33984f5fd33bdb1286b17faeccea727fc15", func := "rickyard/rickyardlaw13.ModelCut", spec := "modelCut", inPlace := ["slices.overlaps[rickyard/api.Live]"], unfollowed := true, recurses := true, apart := false, narrowed := true }
def ModelCutUptoSaid : Prop := modelCutUptoRow.holds Try.pinned (OpenSpec.upto modelCutSpec)

/-- 'rickyardlaw13.ModelOwn', WHERE WHAT IT READS IS OF BULK AT MOST 1048576: true; the input reads as it did. -/
def modelOwnUptoRow : OpenClaim := { program := "ytmajgfpfbieakaa", sum := "5e2c8571c7532df3ec856f47634fb33984f5fd33bdb1286b17faeccea727fc15", func := "rickyard/rickyardlaw13.ModelOwn", spec := "modelOwn", inPlace := ["slices.overlaps[rickyard/api.Live]"], unfollowed := true, recurses := true, apart := false, narrowed := true }
def ModelOwnUptoSaid : Prop := modelOwnUptoRow.holds Try.pinned (OpenSpec.upto modelOwnSpec)

end Rows
end Go.Proofs.Ytmajgfpfbieakaa
