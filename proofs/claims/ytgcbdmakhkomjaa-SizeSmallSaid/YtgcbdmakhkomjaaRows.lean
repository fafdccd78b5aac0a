/-
  No cell of these rows narrows 'for every input' (looked for: loops, veiled, ifaces, maps, wideKeys, modest, calm, conditions, laid).
  DERIVED. THE GIVEN ROWS OF THIS SEAT. 4 by the template 'for every input the law returns true; each argument reads behind the call as it read before'; 0 by the template 'total and deterministic' (their statements: YtgcbdmakhkomjaaTotals.lean).
  GIVEN WITH THE SEED: the statements are not yours to turn. If you find one false, say at which input.
  Laid BY PROGRAM, IN A SANDBOX (cutbox-rows.mjs): the forced cells as the released guide's own fill.sh prints them over the translation ca28704e8619e88f… (all of the seat's roots in one cut). By AI agents, Wed Nov 11 2026. No macro, syntax, notation, axiom, sorry.
-/
import Derived.Test.YtgcbdmakhkomjaaChecked
import GoSem.Claim
import GoSem.ClaimJoined
import GoSem.ClaimMapViews
import Derived.JoinedTies
import Derived.KernelRfl
namespace Go.Proofs.Ytgcbdmakhkomjaa
/- THE CELL 'sum', in the pinned program and in every row, IS THE sha256 OF THE DUMP (.gsa) THAT YtgcbdmakhkomjaaProg.lean LOADS. Nothing in Lean hashes anything: it is a label: what it is worth is what the hold of that sum in a sandbox is worth. -/
noncomputable def Try.pinned : Pinned := { name := "ytgcbdmakhkomjaa", sum := "ca28704e8619e88f603e43e8d2c2b939ec6957160ee67bb4d10ead3097c39918", checked := Try.checked }
namespace Rows
def none {H : Type} : Left H := { results := [], args := [] }

/-- 'rickyardlaw8.SizeAll': WHATEVER THE INPUT: true; the input reads as it did. -/
def sizeAllSpec : ChangeSpec := { name := "sizeAll", fn := fun _ => fun
  | [d1, d2] => { results := [.lit (.bool true)], args := [d1, d2] }
  | _ => none }
def sizeAllRow : OpenClaim := { program := "ytgcbdmakhkomjaa", sum := "ca28704e8619e88f603e43e8d2c2b939ec6957160ee67bb4d10ead3097c39918", func := "rickyard/rickyardlaw8.SizeAll", spec := "sizeAll", apart := false }
def SizeAllSaid : Prop := sizeAllRow.holds Try.pinned (OpenSpec.ofChange sizeAllSpec)

/-- ITS FALSE NEIGHBOUR: 'it returns false'. Refute it at one input. -/
def sizeAllWrong : ChangeSpec := { name := "sizeAll", fn := fun _ => fun
  | [d1, d2] => { results := [.lit (.bool false)], args := [d1, d2] }
  | _ => none }
def SizeAllWrongFalsely : Prop := sizeAllRow.holds Try.pinned (OpenSpec.ofChange sizeAllWrong)

/-- 'rickyardlaw8.SizeLeast': WHATEVER THE INPUT: true; the input reads as it did. -/
def sizeLeastSpec : ChangeSpec := { name := "sizeLeast", fn := fun _ => fun
  | [d] => { results := [.lit (.bool true)], args := [d] }
  | _ => none }
def sizeLeastRow : OpenClaim := { program := "ytgcbdmakhkomjaa", sum := "ca28704e8619e88f603e43e8d2c2b939ec6957160ee67bb4d10ead3097c39918", func := "rickyard/rickyardlaw8.SizeLeast", spec := "sizeLeast", apart := false }
def SizeLeastSaid : Prop := sizeLeastRow.holds Try.pinned (OpenSpec.ofChange sizeLeastSpec)

/-- ITS FALSE NEIGHBOUR: 'it returns false'. Refute it at one input. -/
def sizeLeastWrong : ChangeSpec := { name := "sizeLeast", fn := fun _ => fun
  | [d] => { results := [.lit (.bool false)], args := [d] }
  | _ => none }
def SizeLeastWrongFalsely : Prop := sizeLeastRow.holds Try.pinned (OpenSpec.ofChange sizeLeastWrong)

/-- 'rickyardlaw8.SizeTwice': WHATEVER THE INPUT: true; the input reads as it did. -/
def sizeTwiceSpec : ChangeSpec := { name := "sizeTwice", fn := fun _ => fun
  | [d] => { results := [.lit (.bool true)], args := [d] }
  | _ => none }
def sizeTwiceRow : OpenClaim := { program := "ytgcbdmakhkomjaa", sum := "ca28704e8619e88f603e43e8d2c2b939ec6957160ee67bb4d10ead3097c39918", func := "rickyard/rickyardlaw8.SizeTwice", spec := "sizeTwice", apart := false }
def SizeTwiceSaid : Prop := sizeTwiceRow.holds Try.pinned (OpenSpec.ofChange sizeTwiceSpec)

/-- ITS FALSE NEIGHBOUR: 'it returns false'. Refute it at one input. -/
def sizeTwiceWrong : ChangeSpec := { name := "sizeTwice", fn := fun _ => fun
  | [d] => { results := [.lit (.bool false)], args := [d] }
  | _ => none }
def SizeTwiceWrongFalsely : Prop := sizeTwiceRow.holds Try.pinned (OpenSpec.ofChange sizeTwiceWrong)

/-- 'rickyardlaw8.SizeSmall': WHATEVER THE INPUT: true; the input reads as it did. -/
def sizeSmallSpec : ChangeSpec := { name := "sizeSmall", fn := fun _ => fun
  | [d] => { results := [.lit (.bool true)], args := [d] }
  | _ => none }
def sizeSmallRow : OpenClaim := { program := "ytgcbdmakhkomjaa", sum := "ca28704e8619e88f603e43e8d2c2b939ec6957160ee67bb4d10ead3097c39918", func := "rickyard/rickyardlaw8.SizeSmall", spec := "sizeSmall", apart := false }
def SizeSmallSaid : Prop := sizeSmallRow.holds Try.pinned (OpenSpec.ofChange sizeSmallSpec)

/-- ITS FALSE NEIGHBOUR: 'it returns false'. Refute it at one input. -/
def sizeSmallWrong : ChangeSpec := { name := "sizeSmall", fn := fun _ => fun
  | [d] => { results := [.lit (.bool false)], args := [d] }
  | _ => none }
def SizeSmallWrongFalsely : Prop := sizeSmallRow.holds Try.pinned (OpenSpec.ofChange sizeSmallWrong)

/- THE SECOND FORM. 'bulk': how many values and letters a reading holds, each counted each time it is reached (what is shared counts as often as it is met; a slice's spare places count too). A statement '..UptoSaid' is the law's where the arguments, and the package variables that the reading takes, are together of bulk at most 1048576: NARROWER than '..Said'. Prove '..Said' where nothing that the law and all that it calls make is longer than what came in: it says more and counts as full. Else prove '..UptoSaid'. A law counts once. -/
mutual
def uptoBulk {H : Type} : DataW H → Nat
  | .lit (.string bytes) => bytes.length + 1
  | .lit _ => 1
  | .nil => 1
  | .ptr d => uptoBulk d + 1
  | .slice elems spare => uptoBulkAll elems + uptoBulkAll spare + 1
  | .agg parts => uptoBulkAll parts + 1
  | .iface _ d => uptoBulk d + 1
  | .map entries => uptoBulkEntries entries + 1
  | .held _ => 1
def uptoBulkAll {H : Type} : List (DataW H) → Nat
  | [] => 0
  | d :: r => uptoBulk d + uptoBulkAll r
def uptoBulkEntries {H : Type} : List (Lit × DataW H) → Nat
  | [] => 0
  | x :: r => uptoBulkEntry x + uptoBulkEntries r
def uptoBulkEntry {H : Type} : Lit × DataW H → Nat
  | (.string bytes, d) => bytes.length + uptoBulk d + 1
  | (_, d) => uptoBulk d + 1
 end
def uptoSmall : (H : Type) → List (DataW H) → Bool := fun _ ds => decide (uptoBulkAll ds ≤ 1048576)
def OpenSpec.upto (s : _root_.Go.ChangeSpec) : _root_.Go.OpenSpec := { _root_.Go.OpenSpec.ofChange s with cond := some uptoSmall }

/-- 'rickyardlaw8.SizeAll', WHERE WHAT IT READS IS OF BULK AT MOST 1048576: true; the input reads as it did. -/
def sizeAllUptoRow : OpenClaim := { program := "ytgcbdmakhkomjaa", sum := "ca28704e8619e88f603e43e8d2c2b939ec6957160ee67bb4d10ead3097c39918", func := "rickyard/rickyardlaw8.SizeAll", spec := "sizeAll", apart := false, narrowed := true }
def SizeAllUptoSaid : Prop := sizeAllUptoRow.holds Try.pinned (OpenSpec.upto sizeAllSpec)

/-- 'rickyardlaw8.SizeLeast', WHERE WHAT IT READS IS OF BULK AT MOST 1048576: true; the input reads as it did. -/
def sizeLeastUptoRow : OpenClaim := { program := "ytgcbdmakhkomjaa", sum := "ca28704e8619e88f603e43e8d2c2b939ec6957160ee67bb4d10ead3097c39918", func := "rickyard/rickyardlaw8.SizeLeast", spec := "sizeLeast", apart := false, narrowed := true }
def SizeLeastUptoSaid : Prop := sizeLeastUptoRow.holds Try.pinned (OpenSpec.upto sizeLeastSpec)

/-- 'rickyardlaw8.SizeTwice', WHERE WHAT IT READS IS OF BULK AT MOST 1048576: true; the input reads as it did. -/
def sizeTwiceUptoRow : OpenClaim := { program := "ytgcbdmakhkomjaa", sum := "ca28704e8619e88f603e43e8d2c2b939ec6957160ee67bb4d10ead3097c39918", func := "rickyard/rickyardlaw8.SizeTwice", spec := "sizeTwice", apart := false, narrowed := true }
def SizeTwiceUptoSaid : Prop := sizeTwiceUptoRow.holds Try.pinned (OpenSpec.upto sizeTwiceSpec)

/-- 'rickyardlaw8.SizeSmall', WHERE WHAT IT READS IS OF BULK AT MOST 1048576: true; the input reads as it did. -/
def sizeSmallUptoRow : OpenClaim := { program := "ytgcbdmakhkomjaa", sum := "ca28704e8619e88f603e43e8d2c2b939ec6957160ee67bb4d10ead3097c39918", func := "rickyard/rickyardlaw8.SizeSmall", spec := "sizeSmall", apart := false, narrowed := true }
def SizeSmallUptoSaid : Prop := sizeSmallUptoRow.holds Try.pinned (OpenSpec.upto sizeSmallSpec)

end Rows
end Go.Proofs.Ytgcbdmakhkomjaa
