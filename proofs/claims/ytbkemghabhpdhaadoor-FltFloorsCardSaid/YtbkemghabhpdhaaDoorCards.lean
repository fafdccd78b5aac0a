/-
  DERIVED. GIVEN WITH THE SEED: THE CARDS: each row of YtbkemghabhpdhaaDoorRows.lean that lists a variable, with what it lists TIED to the program's text (the seventh form; the later family's looks); each row that meets fmt, with fmt's text TOLD by the authors' own Lean function (tested against real Go, not proved from fmt's source: count such statements apart). THE CARD IS WHAT COUNTS. Prove the row's statement (the work); the ties are given (YtbkemghabhpdhaaDoorTie.lean); close each card by the builder's one call (the guide's Derived/Test/ToyasCard.lean, 'card_holds'). Laid BY PROGRAM, IN A SANDBOX (cutbox-door.mjs). By AI agents, Wed Nov 11 2026. No macro, syntax, notation, axiom, sorry.
-/
import Derived.Test.YtbkemghabhpdhaaDoorRows
import GoSem.ClaimSeven
namespace Go.Proofs.YtbkemghabhpdhaaDoor
namespace Rows

/-- THE TIED CARD OF 'rickyardlaw2.FltAll'. -/
def fltAllCard : Claim7 := { stood := { row := fltAllRow, standIns := [], harness := (true, "8b3116b1b0295d110da8f839a6971b2127ffecfa5bcfe83fba259578590803dc"), looks := false }, kinds := [], alts := [], laidByText := true, laidKinds := [.data, .data, .data], laidTests := true, laidLooks := .later }
def FltAllCardSaid : Prop := Claim7.holds Tryd.pinned (.plain (OpenSpec.ofChange fltAllSpec)) fltAllCard

/-- THE TIED CARD OF 'rickyardlaw2.FltWords'. -/
def fltWordsCard : Claim7 := { stood := { row := fltWordsRow, standIns := [], harness := (true, "8b3116b1b0295d110da8f839a6971b2127ffecfa5bcfe83fba259578590803dc"), looks := false }, kinds := [], alts := [], laidByText := true, laidKinds := [.data, .data, .data], laidTests := true, laidLooks := .later }
def FltWordsCardSaid : Prop := Claim7.holds Tryd.pinned (.plain (OpenSpec.ofChange fltWordsSpec)) fltWordsCard

/-- THE TIED CARD OF 'rickyardlaw2.FltNone'. -/
def fltNoneCard : Claim7 := { stood := { row := fltNoneRow, standIns := [], harness := (true, "8b3116b1b0295d110da8f839a6971b2127ffecfa5bcfe83fba259578590803dc"), looks := false }, kinds := [], alts := [], laidByText := true, laidKinds := [.data, .data, .data], laidTests := true, laidLooks := .later }
def FltNoneCardSaid : Prop := Claim7.holds Tryd.pinned (.plain (OpenSpec.ofChange fltNoneSpec)) fltNoneCard

/-- THE TIED CARD OF 'rickyardlaw2.FltOrder'. -/
def fltOrderCard : Claim7 := { stood := { row := fltOrderRow, standIns := [], harness := (true, "8b3116b1b0295d110da8f839a6971b2127ffecfa5bcfe83fba259578590803dc"), looks := false }, kinds := [], alts := [], laidByText := true, laidKinds := [.data, .data, .data], laidTests := true, laidLooks := .later }
def FltOrderCardSaid : Prop := Claim7.holds Tryd.pinned (.plain (OpenSpec.ofChange fltOrderSpec)) fltOrderCard

/-- THE TIED CARD OF 'rickyardlaw2.FltApart'. -/
def fltApartCard : Claim7 := { stood := { row := fltApartRow, standIns := [], harness := (true, "8b3116b1b0295d110da8f839a6971b2127ffecfa5bcfe83fba259578590803dc"), looks := false }, kinds := [], alts := [], laidByText := true, laidKinds := [.data, .data, .data], laidTests := true, laidLooks := .later }
def FltApartCardSaid : Prop := Claim7.holds Tryd.pinned (.plain (OpenSpec.ofChange fltApartSpec)) fltApartCard

/-- THE TIED CARD OF 'rickyardlaw2.FltWhole'. -/
def fltWholeCard : Claim7 := { stood := { row := fltWholeRow, standIns := [], harness := (true, "8b3116b1b0295d110da8f839a6971b2127ffecfa5bcfe83fba259578590803dc"), looks := false }, kinds := [], alts := [], laidByText := true, laidKinds := [.data, .data, .data], laidTests := true, laidLooks := .later }
def FltWholeCardSaid : Prop := Claim7.holds Tryd.pinned (.plain (OpenSpec.ofChange fltWholeSpec)) fltWholeCard

/-- THE TIED CARD OF 'rickyardlaw2.FltSigns'. -/
def fltSignsCard : Claim7 := { stood := { row := fltSignsRow, standIns := [], harness := (true, "8b3116b1b0295d110da8f839a6971b2127ffecfa5bcfe83fba259578590803dc"), looks := false }, kinds := [], alts := [], laidByText := true, laidKinds := [.data, .data, .data], laidTests := true, laidLooks := .later }
def FltSignsCardSaid : Prop := Claim7.holds Tryd.pinned (.plain (OpenSpec.ofChange fltSignsSpec)) fltSignsCard

/-- THE TIED CARD OF 'rickyardlaw2.FltFloors'. -/
def fltFloorsCard : Claim7 := { stood := { row := fltFloorsRow, standIns := [], harness := (true, "8b3116b1b0295d110da8f839a6971b2127ffecfa5bcfe83fba259578590803dc"), looks := false }, kinds := [], alts := [], laidByText := true, laidKinds := [.data, .data, .data], laidTests := true, laidLooks := .later }
def FltFloorsCardSaid : Prop := Claim7.holds Tryd.pinned (.plain (OpenSpec.ofChange fltFloorsSpec)) fltFloorsCard

/-- THE SECOND FORM's CARD OF 'rickyardlaw2.FltAll'. -/
def fltAllUptoCard : Claim7 := { stood := { row := fltAllUptoRow, standIns := [], harness := (true, "8b3116b1b0295d110da8f839a6971b2127ffecfa5bcfe83fba259578590803dc"), looks := false }, kinds := [], alts := [], laidByText := true, laidKinds := [.data, .data, .data], laidTests := true, laidLooks := .later }
def FltAllUptoCardSaid : Prop := Claim7.holds Tryd.pinned (.plain (OpenSpec.upto fltAllSpec)) fltAllUptoCard

/-- THE SECOND FORM's CARD OF 'rickyardlaw2.FltWords'. -/
def fltWordsUptoCard : Claim7 := { stood := { row := fltWordsUptoRow, standIns := [], harness := (true, "8b3116b1b0295d110da8f839a6971b2127ffecfa5bcfe83fba259578590803dc"), looks := false }, kinds := [], alts := [], laidByText := true, laidKinds := [.data, .data, .data], laidTests := true, laidLooks := .later }
def FltWordsUptoCardSaid : Prop := Claim7.holds Tryd.pinned (.plain (OpenSpec.upto fltWordsSpec)) fltWordsUptoCard

/-- THE SECOND FORM's CARD OF 'rickyardlaw2.FltNone'. -/
def fltNoneUptoCard : Claim7 := { stood := { row := fltNoneUptoRow, standIns := [], harness := (true, "8b3116b1b0295d110da8f839a6971b2127ffecfa5bcfe83fba259578590803dc"), looks := false }, kinds := [], alts := [], laidByText := true, laidKinds := [.data, .data, .data], laidTests := true, laidLooks := .later }
def FltNoneUptoCardSaid : Prop := Claim7.holds Tryd.pinned (.plain (OpenSpec.upto fltNoneSpec)) fltNoneUptoCard

/-- THE SECOND FORM's CARD OF 'rickyardlaw2.FltOrder'. -/
def fltOrderUptoCard : Claim7 := { stood := { row := fltOrderUptoRow, standIns := [], harness := (true, "8b3116b1b0295d110da8f839a6971b2127ffecfa5bcfe83fba259578590803dc"), looks := false }, kinds := [], alts := [], laidByText := true, laidKinds := [.data, .data, .data], laidTests := true, laidLooks := .later }
def FltOrderUptoCardSaid : Prop := Claim7.holds Tryd.pinned (.plain (OpenSpec.upto fltOrderSpec)) fltOrderUptoCard

/-- THE SECOND FORM's CARD OF 'rickyardlaw2.FltApart'. -/
def fltApartUptoCard : Claim7 := { stood := { row := fltApartUptoRow, standIns := [], harness := (true, "8b3116b1b0295d110da8f839a6971b2127ffecfa5bcfe83fba259578590803dc"), looks := false }, kinds := [], alts := [], laidByText := true, laidKinds := [.data, .data, .data], laidTests := true, laidLooks := .later }
def FltApartUptoCardSaid : Prop := Claim7.holds Tryd.pinned (.plain (OpenSpec.upto fltApartSpec)) fltApartUptoCard

/-- THE SECOND FORM's CARD OF 'rickyardlaw2.FltWhole'. -/
def fltWholeUptoCard : Claim7 := { stood := { row := fltWholeUptoRow, standIns := [], harness := (true, "8b3116b1b0295d110da8f839a6971b2127ffecfa5bcfe83fba259578590803dc"), looks := false }, kinds := [], alts := [], laidByText := true, laidKinds := [.data, .data, .data], laidTests := true, laidLooks := .later }
def FltWholeUptoCardSaid : Prop := Claim7.holds Tryd.pinned (.plain (OpenSpec.upto fltWholeSpec)) fltWholeUptoCard

/-- THE SECOND FORM's CARD OF 'rickyardlaw2.FltSigns'. -/
def fltSignsUptoCard : Claim7 := { stood := { row := fltSignsUptoRow, standIns := [], harness := (true, "8b3116b1b0295d110da8f839a6971b2127ffecfa5bcfe83fba259578590803dc"), looks := false }, kinds := [], alts := [], laidByText := true, laidKinds := [.data, .data, .data], laidTests := true, laidLooks := .later }
def FltSignsUptoCardSaid : Prop := Claim7.holds Tryd.pinned (.plain (OpenSpec.upto fltSignsSpec)) fltSignsUptoCard

/-- THE SECOND FORM's CARD OF 'rickyardlaw2.FltFloors'. -/
def fltFloorsUptoCard : Claim7 := { stood := { row := fltFloorsUptoRow, standIns := [], harness := (true, "8b3116b1b0295d110da8f839a6971b2127ffecfa5bcfe83fba259578590803dc"), looks := false }, kinds := [], alts := [], laidByText := true, laidKinds := [.data, .data, .data], laidTests := true, laidLooks := .later }
def FltFloorsUptoCardSaid : Prop := Claim7.holds Tryd.pinned (.plain (OpenSpec.upto fltFloorsSpec)) fltFloorsUptoCard
end Rows
end Go.Proofs.YtbkemghabhpdhaaDoor
