/-
  No cell of these rows narrows 'for every input' (looked for: loops, veiled, ifaces, maps, wideKeys, modest, calm, conditions, laid).
  DERIVED. THE GIVEN ROWS OF THIS SEAT. 5 by the template 'for every input the law returns true; each argument reads behind the call as it read before'; 0 by the template 'total and deterministic' (their statements: YtabfjdococmbkaaTotals.lean).
  GIVEN WITH THE SEED: the statements are not yours to turn. If you find one false, say at which input.
  Laid BY PROGRAM, IN A SANDBOX (cutbox-rows.mjs): the forced cells as the released guide's own fill.sh prints them over the translation 1b70762bcaa8cf51… (all of the seat's roots in one cut). By AI agents, Wed Nov 11 2026. No macro, syntax, notation, axiom, sorry.
-/
import Derived.Test.YtabfjdococmbkaaChecked
import GoSem.Claim
import GoSem.ClaimJoined
import GoSem.ClaimMapViews
import Derived.JoinedTies
import Derived.KernelRfl
namespace Go.Proofs.Ytabfjdococmbkaa
/- THE CELL 'sum', in the pinned program and in every row, IS THE sha256 OF THE DUMP (.gsa) THAT YtabfjdococmbkaaProg.lean LOADS. Nothing in Lean hashes anything: it is a label: what it is worth is what the hold of that sum in a sandbox is worth. -/
noncomputable def Try.pinned : Pinned := { name := "ytabfjdococmbkaa", sum := "1b70762bcaa8cf512e0245613a20408aea56688d16fc0f7a34449432a289455e", checked := Try.checked }
namespace Rows
def none {H : Type} : Left H := { results := [], args := [] }

/-- 'rickyardlaw4.CellAll': WHATEVER THE INPUT: true; the input reads as it did. -/
def cellAllSpec : ChangeSpec := { name := "cellAll", fn := fun _ => fun
  | [d1, d2] => { results := [.lit (.bool true)], args := [d1, d2] }
  | _ => none }
def cellAllRow : OpenClaim := { program := "ytabfjdococmbkaa", sum := "1b70762bcaa8cf512e0245613a20408aea56688d16fc0f7a34449432a289455e", func := "rickyard/rickyardlaw4.CellAll", spec := "cellAll", apart := false }
def CellAllSaid : Prop := cellAllRow.holds Try.pinned (OpenSpec.ofChange cellAllSpec)

/-- ITS FALSE NEIGHBOUR: 'it returns false'. Refute it at one input. -/
def cellAllWrong : ChangeSpec := { name := "cellAll", fn := fun _ => fun
  | [d1, d2] => { results := [.lit (.bool false)], args := [d1, d2] }
  | _ => none }
def CellAllWrongFalsely : Prop := cellAllRow.holds Try.pinned (OpenSpec.ofChange cellAllWrong)

/-- 'rickyardlaw4.CellSwap': WHATEVER THE INPUT: true; the input reads as it did. -/
def cellSwapSpec : ChangeSpec := { name := "cellSwap", fn := fun _ => fun
  | [d1, d2, d3, d4] => { results := [.lit (.bool true)], args := [d1, d2, d3, d4] }
  | _ => none }
def cellSwapRow : OpenClaim := { program := "ytabfjdococmbkaa", sum := "1b70762bcaa8cf512e0245613a20408aea56688d16fc0f7a34449432a289455e", func := "rickyard/rickyardlaw4.CellSwap", spec := "cellSwap", apart := false }
def CellSwapSaid : Prop := cellSwapRow.holds Try.pinned (OpenSpec.ofChange cellSwapSpec)

/-- ITS FALSE NEIGHBOUR: 'it returns false'. Refute it at one input. -/
def cellSwapWrong : ChangeSpec := { name := "cellSwap", fn := fun _ => fun
  | [d1, d2, d3, d4] => { results := [.lit (.bool false)], args := [d1, d2, d3, d4] }
  | _ => none }
def CellSwapWrongFalsely : Prop := cellSwapRow.holds Try.pinned (OpenSpec.ofChange cellSwapWrong)

/-- 'rickyardlaw4.CellQueue': WHATEVER THE INPUT: true; the input reads as it did. -/
def cellQueueSpec : ChangeSpec := { name := "cellQueue", fn := fun _ => fun
  | [d] => { results := [.lit (.bool true)], args := [d] }
  | _ => none }
def cellQueueRow : OpenClaim := { program := "ytabfjdococmbkaa", sum := "1b70762bcaa8cf512e0245613a20408aea56688d16fc0f7a34449432a289455e", func := "rickyard/rickyardlaw4.CellQueue", spec := "cellQueue", apart := false }
def CellQueueSaid : Prop := cellQueueRow.holds Try.pinned (OpenSpec.ofChange cellQueueSpec)

/-- ITS FALSE NEIGHBOUR: 'it returns false'. Refute it at one input. -/
def cellQueueWrong : ChangeSpec := { name := "cellQueue", fn := fun _ => fun
  | [d] => { results := [.lit (.bool false)], args := [d] }
  | _ => none }
def CellQueueWrongFalsely : Prop := cellQueueRow.holds Try.pinned (OpenSpec.ofChange cellQueueWrong)

/-- 'rickyardlaw4.CellAlone': WHATEVER THE INPUT: true; the input reads as it did. -/
def cellAloneSpec : ChangeSpec := { name := "cellAlone", fn := fun _ => fun
  | [d1, d2, d3] => { results := [.lit (.bool true)], args := [d1, d2, d3] }
  | _ => none }
def cellAloneRow : OpenClaim := { program := "ytabfjdococmbkaa", sum := "1b70762bcaa8cf512e0245613a20408aea56688d16fc0f7a34449432a289455e", func := "rickyard/rickyardlaw4.CellAlone", spec := "cellAlone", apart := false }
def CellAloneSaid : Prop := cellAloneRow.holds Try.pinned (OpenSpec.ofChange cellAloneSpec)

/-- ITS FALSE NEIGHBOUR: 'it returns false'. Refute it at one input. -/
def cellAloneWrong : ChangeSpec := { name := "cellAlone", fn := fun _ => fun
  | [d1, d2, d3] => { results := [.lit (.bool false)], args := [d1, d2, d3] }
  | _ => none }
def CellAloneWrongFalsely : Prop := cellAloneRow.holds Try.pinned (OpenSpec.ofChange cellAloneWrong)

/-- 'rickyardlaw4.CellBehind': WHATEVER THE INPUT: true; the input reads as it did. -/
def cellBehindSpec : ChangeSpec := { name := "cellBehind", fn := fun _ => fun
  | [d1, d2] => { results := [.lit (.bool true)], args := [d1, d2] }
  | _ => none }
def cellBehindRow : OpenClaim := { program := "ytabfjdococmbkaa", sum := "1b70762bcaa8cf512e0245613a20408aea56688d16fc0f7a34449432a289455e", func := "rickyard/rickyardlaw4.CellBehind", spec := "cellBehind", apart := false }
def CellBehindSaid : Prop := cellBehindRow.holds Try.pinned (OpenSpec.ofChange cellBehindSpec)

/-- ITS FALSE NEIGHBOUR: 'it returns false'. Refute it at one input. -/
def cellBehindWrong : ChangeSpec := { name := "cellBehind", fn := fun _ => fun
  | [d1, d2] => { results := [.lit (.bool false)], args := [d1, d2] }
  | _ => none }
def CellBehindWrongFalsely : Prop := cellBehindRow.holds Try.pinned (OpenSpec.ofChange cellBehindWrong)

/- THE SECOND FORM. 'bulk': how many values and letters a reading holds, each counted each time it is reached (what is shared counts as often as it is met; a slice's spare places count too). A statement '..UptoSaid' is the law's where the arguments, and the package variables that the reading takes, are together of bulk at most 1048576: NARROWER than '..Said'. Prove '..Said' where nothing that the law and all that it calls make is longer than what came in: it says more and counts as full. Else prove '..UptoSaid'. A law counts once. -/
mutual
def uptoBulk {H : Type} : DataW H → Nat
  | .lit (.string bytes) => bytes.length + 1
  | .lit _ => 1
  | .nil => 1
  | .ptr d => uptoBulk d + 1
  | .slice elems spare => uptoBulkAll elems + uptoBulkAll spare + 1
  | .agg parts => uptoBulkAll parts + 1
  | .iface _ d => uptoBulk d + 1
  | .map entries => uptoBulkEntries entries + 1
  | .held _ => 1
def uptoBulkAll {H : Type} : List (DataW H) → Nat
  | [] => 0
  | d :: r => uptoBulk d + uptoBulkAll r
def uptoBulkEntries {H : Type} : List (Lit × DataW H) → Nat
  | [] => 0
  | x :: r => uptoBulkEntry x + uptoBulkEntries r
def uptoBulkEntry {H : Type} : Lit × DataW H → Nat
  | (.string bytes, d) => bytes.length + uptoBulk d + 1
  | (_, d) => uptoBulk d + 1
 end
def uptoSmall : (H : Type) → List (DataW H) → Bool := fun _ ds => decide (uptoBulkAll ds ≤ 1048576)
def OpenSpec.upto (s : _root_.Go.ChangeSpec) : _root_.Go.OpenSpec := { _root_.Go.OpenSpec.ofChange s with cond := some uptoSmall }

/-- 'rickyardlaw4.CellAll', WHERE WHAT IT READS IS OF BULK AT MOST 1048576: true; the input reads as it did. -/
def cellAllUptoRow : OpenClaim := { program := "ytabfjdococmbkaa", sum := "1b70762bcaa8cf512e0245613a20408aea56688d16fc0f7a34449432a289455e", func := "rickyard/rickyardlaw4.CellAll", spec := "cellAll", apart := false, narrowed := true }
def CellAllUptoSaid : Prop := cellAllUptoRow.holds Try.pinned (OpenSpec.upto cellAllSpec)

/-- 'rickyardlaw4.CellSwap', WHERE WHAT IT READS IS OF BULK AT MOST 1048576: true; the input reads as it did. -/
def cellSwapUptoRow : OpenClaim := { program := "ytabfjdococmbkaa", sum := "1b70762bcaa8cf512e0245613a20408aea56688d16fc0f7a34449432a289455e", func := "rickyard/rickyardlaw4.CellSwap", spec := "cellSwap", apart := false, narrowed := true }
def CellSwapUptoSaid : Prop := cellSwapUptoRow.holds Try.pinned (OpenSpec.upto cellSwapSpec)

/-- 'rickyardlaw4.CellQueue', WHERE WHAT IT READS IS OF BULK AT MOST 1048576: true; the input reads as it did. -/
def cellQueueUptoRow : OpenClaim := { program := "ytabfjdococmbkaa", sum := "1b70762bcaa8cf512e0245613a20408aea56688d16fc0f7a34449432a289455e", func := "rickyard/rickyardlaw4.CellQueue", spec := "cellQueue", apart := false, narrowed := true }
def CellQueueUptoSaid : Prop := cellQueueUptoRow.holds Try.pinned (OpenSpec.upto cellQueueSpec)

/-- 'rickyardlaw4.CellAlone', WHERE WHAT IT READS IS OF BULK AT MOST 1048576: true; the input reads as it did. -/
def cellAloneUptoRow : OpenClaim := { program := "ytabfjdococmbkaa", sum := "1b70762bcaa8cf512e0245613a20408aea56688d16fc0f7a34449432a289455e", func := "rickyard/rickyardlaw4.CellAlone", spec := "cellAlone", apart := false, narrowed := true }
def CellAloneUptoSaid : Prop := cellAloneUptoRow.holds Try.pinned (OpenSpec.upto cellAloneSpec)

/-- 'rickyardlaw4.CellBehind', WHERE WHAT IT READS IS OF BULK AT MOST 1048576: true; the input reads as it did. -/
def cellBehindUptoRow : OpenClaim := { program := "ytabfjdococmbkaa", sum := "1b70762bcaa8cf512e0245613a20408aea56688d16fc0f7a34449432a289455e", func := "rickyard/rickyardlaw4.CellBehind", spec := "cellBehind", apart := false, narrowed := true }
def CellBehindUptoSaid : Prop := cellBehindUptoRow.holds Try.pinned (OpenSpec.upto cellBehindSpec)

end Rows
end Go.Proofs.Ytabfjdococmbkaa
