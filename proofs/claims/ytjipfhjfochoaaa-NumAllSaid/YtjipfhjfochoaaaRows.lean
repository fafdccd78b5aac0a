/-
  No cell of these rows narrows 'for every input' (looked for: loops, veiled, ifaces, maps, wideKeys, modest, calm, conditions, laid).
  DERIVED. THE GIVEN ROWS OF THIS SEAT. 7 by the template 'for every input the law returns true; each argument reads behind the call as it read before'; 0 by the template 'total and deterministic' (their statements: YtjipfhjfochoaaaTotals.lean).
  GIVEN WITH THE SEED: the statements are not yours to turn. If you find one false, say at which input.
  Laid BY PROGRAM, IN A SANDBOX (cutbox-rows.mjs): the forced cells as the released guide's own fill.sh prints them over the translation 1b89891d2c23c248… (all of the seat's roots in one cut). By AI agents, Wed Nov 11 2026. No macro, syntax, notation, axiom, sorry.
-/
import Derived.Test.YtjipfhjfochoaaaChecked
import GoSem.Claim
import GoSem.ClaimJoined
import GoSem.ClaimMapViews
import Derived.JoinedTies
import Derived.KernelRfl
namespace Go.Proofs.Ytjipfhjfochoaaa
/- THE CELL 'sum', in the pinned program and in every row, IS THE sha256 OF THE DUMP (.gsa) THAT YtjipfhjfochoaaaProg.lean LOADS. Nothing in Lean hashes anything: it is a label: what it is worth is what the hold of that sum in a sandbox is worth. -/
noncomputable def Try.pinned : Pinned := { name := "ytjipfhjfochoaaa", sum := "1b89891d2c23c248d6c4627045d7949bf6d222d8a8bbf80ba6d7ab797ef46071", checked := Try.checked }
namespace Rows
def none {H : Type} : Left H := { results := [], args := [] }

/-- 'rickyardlaw1.NumAll': WHATEVER THE INPUT: true; the input reads as it did. -/
def numAllSpec : ChangeSpec := { name := "numAll", fn := fun _ => fun
  | [d1, d2] => { results := [.lit (.bool true)], args := [d1, d2] }
  | _ => none }
def numAllRow : OpenClaim := { program := "ytjipfhjfochoaaa", sum := "1b89891d2c23c248d6c4627045d7949bf6d222d8a8bbf80ba6d7ab797ef46071", func := "rickyard/rickyardlaw1.NumAll", spec := "numAll", apart := false }
def NumAllSaid : Prop := numAllRow.holds Try.pinned (OpenSpec.ofChange numAllSpec)

/-- ITS FALSE NEIGHBOUR: 'it returns false'. Refute it at one input. -/
def numAllWrong : ChangeSpec := { name := "numAll", fn := fun _ => fun
  | [d1, d2] => { results := [.lit (.bool false)], args := [d1, d2] }
  | _ => none }
def NumAllWrongFalsely : Prop := numAllRow.holds Try.pinned (OpenSpec.ofChange numAllWrong)

/-- 'rickyardlaw1.NumOver': WHATEVER THE INPUT: true; the input reads as it did. -/
def numOverSpec : ChangeSpec := { name := "numOver", fn := fun _ => fun
  | [d1, d2, d3, d4] => { results := [.lit (.bool true)], args := [d1, d2, d3, d4] }
  | _ => none }
def numOverRow : OpenClaim := { program := "ytjipfhjfochoaaa", sum := "1b89891d2c23c248d6c4627045d7949bf6d222d8a8bbf80ba6d7ab797ef46071", func := "rickyard/rickyardlaw1.NumOver", spec := "numOver", apart := false }
def NumOverSaid : Prop := numOverRow.holds Try.pinned (OpenSpec.ofChange numOverSpec)

/-- ITS FALSE NEIGHBOUR: 'it returns false'. Refute it at one input. -/
def numOverWrong : ChangeSpec := { name := "numOver", fn := fun _ => fun
  | [d1, d2, d3, d4] => { results := [.lit (.bool false)], args := [d1, d2, d3, d4] }
  | _ => none }
def NumOverWrongFalsely : Prop := numOverRow.holds Try.pinned (OpenSpec.ofChange numOverWrong)

/-- 'rickyardlaw1.NumLeast': WHATEVER THE INPUT: true; the input reads as it did. -/
def numLeastSpec : ChangeSpec := { name := "numLeast", fn := fun _ => fun
  | [d] => { results := [.lit (.bool true)], args := [d] }
  | _ => none }
def numLeastRow : OpenClaim := { program := "ytjipfhjfochoaaa", sum := "1b89891d2c23c248d6c4627045d7949bf6d222d8a8bbf80ba6d7ab797ef46071", func := "rickyard/rickyardlaw1.NumLeast", spec := "numLeast", apart := false }
def NumLeastSaid : Prop := numLeastRow.holds Try.pinned (OpenSpec.ofChange numLeastSpec)

/-- ITS FALSE NEIGHBOUR: 'it returns false'. Refute it at one input. -/
def numLeastWrong : ChangeSpec := { name := "numLeast", fn := fun _ => fun
  | [d] => { results := [.lit (.bool false)], args := [d] }
  | _ => none }
def NumLeastWrongFalsely : Prop := numLeastRow.holds Try.pinned (OpenSpec.ofChange numLeastWrong)

/-- 'rickyardlaw1.NumCeil': WHATEVER THE INPUT: true; the input reads as it did. -/
def numCeilSpec : ChangeSpec := { name := "numCeil", fn := fun _ => fun
  | [d1, d2] => { results := [.lit (.bool true)], args := [d1, d2] }
  | _ => none }
def numCeilRow : OpenClaim := { program := "ytjipfhjfochoaaa", sum := "1b89891d2c23c248d6c4627045d7949bf6d222d8a8bbf80ba6d7ab797ef46071", func := "rickyard/rickyardlaw1.NumCeil", spec := "numCeil", apart := false }
def NumCeilSaid : Prop := numCeilRow.holds Try.pinned (OpenSpec.ofChange numCeilSpec)

/-- ITS FALSE NEIGHBOUR: 'it returns false'. Refute it at one input. -/
def numCeilWrong : ChangeSpec := { name := "numCeil", fn := fun _ => fun
  | [d1, d2] => { results := [.lit (.bool false)], args := [d1, d2] }
  | _ => none }
def NumCeilWrongFalsely : Prop := numCeilRow.holds Try.pinned (OpenSpec.ofChange numCeilWrong)

/-- 'rickyardlaw1.NumWords': WHATEVER THE INPUT: true; the input reads as it did. -/
def numWordsSpec : ChangeSpec := { name := "numWords", fn := fun _ => fun
  | [d1, d2, d3, d4] => { results := [.lit (.bool true)], args := [d1, d2, d3, d4] }
  | _ => none }
def numWordsRow : OpenClaim := { program := "ytjipfhjfochoaaa", sum := "1b89891d2c23c248d6c4627045d7949bf6d222d8a8bbf80ba6d7ab797ef46071", func := "rickyard/rickyardlaw1.NumWords", spec := "numWords", apart := false }
def NumWordsSaid : Prop := numWordsRow.holds Try.pinned (OpenSpec.ofChange numWordsSpec)

/-- ITS FALSE NEIGHBOUR: 'it returns false'. Refute it at one input. -/
def numWordsWrong : ChangeSpec := { name := "numWords", fn := fun _ => fun
  | [d1, d2, d3, d4] => { results := [.lit (.bool false)], args := [d1, d2, d3, d4] }
  | _ => none }
def NumWordsWrongFalsely : Prop := numWordsRow.holds Try.pinned (OpenSpec.ofChange numWordsWrong)

/-- 'rickyardlaw1.NumPages': WHATEVER THE INPUT: true; the input reads as it did. -/
def numPagesSpec : ChangeSpec := { name := "numPages", fn := fun _ => fun
  | [d1, d2, d3] => { results := [.lit (.bool true)], args := [d1, d2, d3] }
  | _ => none }
def numPagesRow : OpenClaim := { program := "ytjipfhjfochoaaa", sum := "1b89891d2c23c248d6c4627045d7949bf6d222d8a8bbf80ba6d7ab797ef46071", func := "rickyard/rickyardlaw1.NumPages", spec := "numPages", apart := false }
def NumPagesSaid : Prop := numPagesRow.holds Try.pinned (OpenSpec.ofChange numPagesSpec)

/-- ITS FALSE NEIGHBOUR: 'it returns false'. Refute it at one input. -/
def numPagesWrong : ChangeSpec := { name := "numPages", fn := fun _ => fun
  | [d1, d2, d3] => { results := [.lit (.bool false)], args := [d1, d2, d3] }
  | _ => none }
def NumPagesWrongFalsely : Prop := numPagesRow.holds Try.pinned (OpenSpec.ofChange numPagesWrong)

/-- 'rickyardlaw1.NumAlign': WHATEVER THE INPUT: true; the input reads as it did. -/
def numAlignSpec : ChangeSpec := { name := "numAlign", fn := fun _ => fun
  | [d1, d2] => { results := [.lit (.bool true)], args := [d1, d2] }
  | _ => none }
def numAlignRow : OpenClaim := { program := "ytjipfhjfochoaaa", sum := "1b89891d2c23c248d6c4627045d7949bf6d222d8a8bbf80ba6d7ab797ef46071", func := "rickyard/rickyardlaw1.NumAlign", spec := "numAlign", apart := false }
def NumAlignSaid : Prop := numAlignRow.holds Try.pinned (OpenSpec.ofChange numAlignSpec)

/-- ITS FALSE NEIGHBOUR: 'it returns false'. Refute it at one input. -/
def numAlignWrong : ChangeSpec := { name := "numAlign", fn := fun _ => fun
  | [d1, d2] => { results := [.lit (.bool false)], args := [d1, d2] }
  | _ => none }
def NumAlignWrongFalsely : Prop := numAlignRow.holds Try.pinned (OpenSpec.ofChange numAlignWrong)

/- THE SECOND FORM. 'bulk': how many values and letters a reading holds, each counted each time it is reached (what is shared counts as often as it is met; a slice's spare places count too). A statement '..UptoSaid' is the law's where the arguments, and the package variables that the reading takes, are together of bulk at most 1048576: NARROWER than '..Said'. Prove '..Said' where nothing that the law and all that it calls make is longer than what came in: it says more and counts as full. Else prove '..UptoSaid'. A law counts once. -/
mutual
def uptoBulk {H : Type} : DataW H → Nat
  | .lit (.string bytes) => bytes.length + 1
  | .lit _ => 1
  | .nil => 1
  | .ptr d => uptoBulk d + 1
  | .slice elems spare => uptoBulkAll elems + uptoBulkAll spare + 1
  | .agg parts => uptoBulkAll parts + 1
  | .iface _ d => uptoBulk d + 1
  | .map entries => uptoBulkEntries entries + 1
  | .held _ => 1
def uptoBulkAll {H : Type} : List (DataW H) → Nat
  | [] => 0
  | d :: r => uptoBulk d + uptoBulkAll r
def uptoBulkEntries {H : Type} : List (Lit × DataW H) → Nat
  | [] => 0
  | x :: r => uptoBulkEntry x + uptoBulkEntries r
def uptoBulkEntry {H : Type} : Lit × DataW H → Nat
  | (.string bytes, d) => bytes.length + uptoBulk d + 1
  | (_, d) => uptoBulk d + 1
 end
def uptoSmall : (H : Type) → List (DataW H) → Bool := fun _ ds => decide (uptoBulkAll ds ≤ 1048576)
def OpenSpec.upto (s : _root_.Go.ChangeSpec) : _root_.Go.OpenSpec := { _root_.Go.OpenSpec.ofChange s with cond := some uptoSmall }

/-- 'rickyardlaw1.NumAll', WHERE WHAT IT READS IS OF BULK AT MOST 1048576: true; the input reads as it did. -/
def numAllUptoRow : OpenClaim := { program := "ytjipfhjfochoaaa", sum := "1b89891d2c23c248d6c4627045d7949bf6d222d8a8bbf80ba6d7ab797ef46071", func := "rickyard/rickyardlaw1.NumAll", spec := "numAll", apart := false, narrowed := true }
def NumAllUptoSaid : Prop := numAllUptoRow.holds Try.pinned (OpenSpec.upto numAllSpec)

/-- 'rickyardlaw1.NumOver', WHERE WHAT IT READS IS OF BULK AT MOST 1048576: true; the input reads as it did. -/
def numOverUptoRow : OpenClaim := { program := "ytjipfhjfochoaaa", sum := "1b89891d2c23c248d6c4627045d7949bf6d222d8a8bbf80ba6d7ab797ef46071", func := "rickyard/rickyardlaw1.NumOver", spec := "numOver", apart := false, narrowed := true }
def NumOverUptoSaid : Prop := numOverUptoRow.holds Try.pinned (OpenSpec.upto numOverSpec)

/-- 'rickyardlaw1.NumLeast', WHERE WHAT IT READS IS OF BULK AT MOST 1048576: true; the input reads as it did. -/
def numLeastUptoRow : OpenClaim := { program := "ytjipfhjfochoaaa", sum := "1b89891d2c23c248d6c4627045d7949bf6d222d8a8bbf80ba6d7ab797ef46071", func := "rickyard/rickyardlaw1.NumLeast", spec := "numLeast", apart := false, narrowed := true }
def NumLeastUptoSaid : Prop := numLeastUptoRow.holds Try.pinned (OpenSpec.upto numLeastSpec)

/-- 'rickyardlaw1.NumCeil', WHERE WHAT IT READS IS OF BULK AT MOST 1048576: true; the input reads as it did. -/
def numCeilUptoRow : OpenClaim := { program := "ytjipfhjfochoaaa", sum := "1b89891d2c23c248d6c4627045d7949bf6d222d8a8bbf80ba6d7ab797ef46071", func := "rickyard/rickyardlaw1.NumCeil", spec := "numCeil", apart := false, narrowed := true }
def NumCeilUptoSaid : Prop := numCeilUptoRow.holds Try.pinned (OpenSpec.upto numCeilSpec)

/-- 'rickyardlaw1.NumWords', WHERE WHAT IT READS IS OF BULK AT MOST 1048576: true; the input reads as it did. -/
def numWordsUptoRow : OpenClaim := { program := "ytjipfhjfochoaaa", sum := "1b89891d2c23c248d6c4627045d7949bf6d222d8a8bbf80ba6d7ab797ef46071", func := "rickyard/rickyardlaw1.NumWords", spec := "numWords", apart := false, narrowed := true }
def NumWordsUptoSaid : Prop := numWordsUptoRow.holds Try.pinned (OpenSpec.upto numWordsSpec)

/-- 'rickyardlaw1.NumPages', WHERE WHAT IT READS IS OF BULK AT MOST 1048576: true; the input reads as it did. -/
def numPagesUptoRow : OpenClaim := { program := "ytjipfhjfochoaaa", sum := "1b89891d2c23c248d6c4627045d7949bf6d222d8a8bbf80ba6d7ab797ef46071", func := "rickyard/rickyardlaw1.NumPages", spec := "numPages", apart := false, narrowed := true }
def NumPagesUptoSaid : Prop := numPagesUptoRow.holds Try.pinned (OpenSpec.upto numPagesSpec)

/-- 'rickyardlaw1.NumAlign', WHERE WHAT IT READS IS OF BULK AT MOST 1048576: true; the input reads as it did. -/
def numAlignUptoRow : OpenClaim := { program := "ytjipfhjfochoaaa", sum := "1b89891d2c23c248d6c4627045d7949bf6d222d8a8bbf80ba6d7ab797ef46071", func := "rickyard/rickyardlaw1.NumAlign", spec := "numAlign", apart := false, narrowed := true }
def NumAlignUptoSaid : Prop := numAlignUptoRow.holds Try.pinned (OpenSpec.upto numAlignSpec)

end Rows
end Go.Proofs.Ytjipfhjfochoaaa
