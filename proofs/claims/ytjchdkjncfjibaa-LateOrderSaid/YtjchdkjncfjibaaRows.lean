/-
  No cell of these rows narrows 'for every input' (looked for: loops, veiled, ifaces, maps, wideKeys, modest, calm, conditions, laid).
  DERIVED. THE GIVEN ROWS OF THIS SEAT. 4 by the template 'for every input the law returns true; each argument reads behind the call as it read before'; 0 by the template 'total and deterministic' (their statements: YtjchdkjncfjibaaTotals.lean).
  GIVEN WITH THE SEED: the statements are not yours to turn. If you find one false, say at which input.
  Laid BY PROGRAM, IN A SANDBOX (cutbox-rows.mjs): the forced cells as the released guide's own fill.sh prints them over the translation c76281b3bc06d575… (all of the seat's roots in one cut). By AI agents, Wed Nov 11 2026. No macro, syntax, notation, axiom, sorry.
-/
import Derived.Test.YtjchdkjncfjibaaChecked
import GoSem.Claim
import GoSem.ClaimJoined
import GoSem.ClaimMapViews
import Derived.JoinedTies
import Derived.KernelRfl
namespace Go.Proofs.Ytjchdkjncfjibaa
/- THE CELL 'sum', in the pinned program and in every row, IS THE sha256 OF THE DUMP (.gsa) THAT YtjchdkjncfjibaaProg.lean LOADS. Nothing in Lean hashes anything: it is a label: what it is worth is what the hold of that sum in a sandbox is worth. -/
noncomputable def Try.pinned : Pinned := { name := "ytjchdkjncfjibaa", sum := "c76281b3bc06d5757b6783f342375590bee56922c8ce7deb3e07b5637828c900", checked := Try.checked }
namespace Rows
def none {H : Type} : Left H := { results := [], args := [] }

/-- 'rickyardlaw12.LateAll': WHATEVER THE INPUT: true; the input reads as it did. -/
def lateAllSpec : ChangeSpec := { name := "lateAll", fn := fun _ => fun
  | [d1, d2, d3] => { results := [.lit (.bool true)], args := [d1, d2, d3] }
  | _ => none }
def lateAllRow : OpenClaim := { program := "ytjchdkjncfjibaa", sum := "c76281b3bc06d5757b6783f342375590bee56922c8ce7deb3e07b5637828c900", func := "rickyard/rickyardlaw12.LateAll", spec := "lateAll", apart := false }
def LateAllSaid : Prop := lateAllRow.holds Try.pinned (OpenSpec.ofChange lateAllSpec)

/-- ITS FALSE NEIGHBOUR: 'it returns false'. Refute it at one input. -/
def lateAllWrong : ChangeSpec := { name := "lateAll", fn := fun _ => fun
  | [d1, d2, d3] => { results := [.lit (.bool false)], args := [d1, d2, d3] }
  | _ => none }
def LateAllWrongFalsely : Prop := lateAllRow.holds Try.pinned (OpenSpec.ofChange lateAllWrong)

/-- 'rickyardlaw12.LateOrder': WHATEVER THE INPUT: true; the input reads as it did. -/
def lateOrderSpec : ChangeSpec := { name := "lateOrder", fn := fun _ => fun
  | [d1, d2] => { results := [.lit (.bool true)], args := [d1, d2] }
  | _ => none }
def lateOrderRow : OpenClaim := { program := "ytjchdkjncfjibaa", sum := "c76281b3bc06d5757b6783f342375590bee56922c8ce7deb3e07b5637828c900", func := "rickyard/rickyardlaw12.LateOrder", spec := "lateOrder", apart := false }
def LateOrderSaid : Prop := lateOrderRow.holds Try.pinned (OpenSpec.ofChange lateOrderSpec)

/-- ITS FALSE NEIGHBOUR: 'it returns false'. Refute it at one input. -/
def lateOrderWrong : ChangeSpec := { name := "lateOrder", fn := fun _ => fun
  | [d1, d2] => { results := [.lit (.bool false)], args := [d1, d2] }
  | _ => none }
def LateOrderWrongFalsely : Prop := lateOrderRow.holds Try.pinned (OpenSpec.ofChange lateOrderWrong)

/-- 'rickyardlaw12.LateApart': WHATEVER THE INPUT: true; the input reads as it did. -/
def lateApartSpec : ChangeSpec := { name := "lateApart", fn := fun _ => fun
  | [d1, d2] => { results := [.lit (.bool true)], args := [d1, d2] }
  | _ => none }
def lateApartRow : OpenClaim := { program := "ytjchdkjncfjibaa", sum := "c76281b3bc06d5757b6783f342375590bee56922c8ce7deb3e07b5637828c900", func := "rickyard/rickyardlaw12.LateApart", spec := "lateApart", apart := false }
def LateApartSaid : Prop := lateApartRow.holds Try.pinned (OpenSpec.ofChange lateApartSpec)

/-- ITS FALSE NEIGHBOUR: 'it returns false'. Refute it at one input. -/
def lateApartWrong : ChangeSpec := { name := "lateApart", fn := fun _ => fun
  | [d1, d2] => { results := [.lit (.bool false)], args := [d1, d2] }
  | _ => none }
def LateApartWrongFalsely : Prop := lateApartRow.holds Try.pinned (OpenSpec.ofChange lateApartWrong)

/-- 'rickyardlaw12.LateOwn': WHATEVER THE INPUT: true; the input reads as it did. -/
def lateOwnSpec : ChangeSpec := { name := "lateOwn", fn := fun _ => fun
  | [d1, d2] => { results := [.lit (.bool true)], args := [d1, d2] }
  | _ => none }
def lateOwnRow : OpenClaim := { program := "ytjchdkjncfjibaa", sum := "c76281b3bc06d5757b6783f342375590bee56922c8ce7deb3e07b5637828c900", func := "rickyard/rickyardlaw12.LateOwn", spec := "lateOwn", apart := false }
def LateOwnSaid : Prop := lateOwnRow.holds Try.pinned (OpenSpec.ofChange lateOwnSpec)

/-- ITS FALSE NEIGHBOUR: 'it returns false'. Refute it at one input. -/
def lateOwnWrong : ChangeSpec := { name := "lateOwn", fn := fun _ => fun
  | [d1, d2] => { results := [.lit (.bool false)], args := [d1, d2] }
  | _ => none }
def LateOwnWrongFalsely : Prop := lateOwnRow.holds Try.pinned (OpenSpec.ofChange lateOwnWrong)

/- THE SECOND FORM. 'bulk': how many values and letters a reading holds, each counted each time it is reached (what is shared counts as often as it is met; a slice's spare places count too). A statement '..UptoSaid' is the law's where the arguments, and the package variables that the reading takes, are together of bulk at most 1048576: NARROWER than '..Said'. Prove '..Said' where nothing that the law and all that it calls make is longer than what came in: it says more and counts as full. Else prove '..UptoSaid'. A law counts once. -/
mutual
def uptoBulk {H : Type} : DataW H → Nat
  | .lit (.string bytes) => bytes.length + 1
  | .lit _ => 1
  | .nil => 1
  | .ptr d => uptoBulk d + 1
  | .slice elems spare => uptoBulkAll elems + uptoBulkAll spare + 1
  | .agg parts => uptoBulkAll parts + 1
  | .iface _ d => uptoBulk d + 1
  | .map entries => uptoBulkEntries entries + 1
  | .held _ => 1
def uptoBulkAll {H : Type} : List (DataW H) → Nat
  | [] => 0
  | d :: r => uptoBulk d + uptoBulkAll r
def uptoBulkEntries {H : Type} : List (Lit × DataW H) → Nat
  | [] => 0
  | x :: r => uptoBulkEntry x + uptoBulkEntries r
def uptoBulkEntry {H : Type} : Lit × DataW H → Nat
  | (.string bytes, d) => bytes.length + uptoBulk d + 1
  | (_, d) => uptoBulk d + 1
 end
def uptoSmall : (H : Type) → List (DataW H) → Bool := fun _ ds => decide (uptoBulkAll ds ≤ 1048576)
def OpenSpec.upto (s : _root_.Go.ChangeSpec) : _root_.Go.OpenSpec := { _root_.Go.OpenSpec.ofChange s with cond := some uptoSmall }

/-- 'rickyardlaw12.LateAll', WHERE WHAT IT READS IS OF BULK AT MOST 1048576: true; the input reads as it did. -/
def lateAllUptoRow : OpenClaim := { program := "ytjchdkjncfjibaa", sum := "c76281b3bc06d5757b6783f342375590bee56922c8ce7deb3e07b5637828c900", func := "rickyard/rickyardlaw12.LateAll", spec := "lateAll", apart := false, narrowed := true }
def LateAllUptoSaid : Prop := lateAllUptoRow.holds Try.pinned (OpenSpec.upto lateAllSpec)

/-- 'rickyardlaw12.LateOrder', WHERE WHAT IT READS IS OF BULK AT MOST 1048576: true; the input reads as it did. -/
def lateOrderUptoRow : OpenClaim := { program := "ytjchdkjncfjibaa", sum := "c76281b3bc06d5757b6783f342375590bee56922c8ce7deb3e07b5637828c900", func := "rickyard/rickyardlaw12.LateOrder", spec := "lateOrder", apart := false, narrowed := true }
def LateOrderUptoSaid : Prop := lateOrderUptoRow.holds Try.pinned (OpenSpec.upto lateOrderSpec)

/-- 'rickyardlaw12.LateApart', WHERE WHAT IT READS IS OF BULK AT MOST 1048576: true; the input reads as it did. -/
def lateApartUptoRow : OpenClaim := { program := "ytjchdkjncfjibaa", sum := "c76281b3bc06d5757b6783f342375590bee56922c8ce7deb3e07b5637828c900", func := "rickyard/rickyardlaw12.LateApart", spec := "lateApart", apart := false, narrowed := true }
def LateApartUptoSaid : Prop := lateApartUptoRow.holds Try.pinned (OpenSpec.upto lateApartSpec)

/-- 'rickyardlaw12.LateOwn', WHERE WHAT IT READS IS OF BULK AT MOST 1048576: true; the input reads as it did. -/
def lateOwnUptoRow : OpenClaim := { program := "ytjchdkjncfjibaa", sum := "c76281b3bc06d5757b6783f342375590bee56922c8ce7deb3e07b5637828c900", func := "rickyard/rickyardlaw12.LateOwn", spec := "lateOwn", apart := false, narrowed := true }
def LateOwnUptoSaid : Prop := lateOwnUptoRow.holds Try.pinned (OpenSpec.upto lateOwnSpec)

end Rows
end Go.Proofs.Ytjchdkjncfjibaa
