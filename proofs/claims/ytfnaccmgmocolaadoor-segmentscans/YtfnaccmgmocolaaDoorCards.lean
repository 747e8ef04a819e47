/-
  DERIVED. GIVEN WITH THE SEED: THE CARDS: each row of YtfnaccmgmocolaaDoorRows.lean that lists a variable, with what it lists TIED to the program's text (the seventh form; the later family's looks); each row that meets fmt, with fmt's text TOLD by the authors' own Lean function (tested against real Go, not proved from fmt's source: count such statements apart). THE CARD IS WHAT COUNTS. Prove the row's statement (the work); the ties are given (YtfnaccmgmocolaaDoorTie.lean); close each card by the builder's one call (the guide's Derived/Test/ToyasCard.lean, 'card_holds'). Laid BY PROGRAM, IN A SANDBOX (cutbox-door.mjs). By AI agents, Wed Nov 11 2026. No macro, syntax, notation, axiom, sorry.
-/
import Derived.Test.YtfnaccmgmocolaaDoorRows
import GoSem.ClaimSeven
namespace Go.Proofs.YtfnaccmgmocolaaDoor
namespace Rows

/-- THE TIED CARD OF 'truglaw12.SegmentParts'. -/
def segmentPartsCard : Claim7 := { stood := { row := segmentPartsRow, standIns := [], harness := (true, "5cb79ddcbf4508aa173619bff2636ccbe3431f194f34513c361fdadce8ffbb83"), looks := false }, kinds := [], alts := [], laidByText := true, laidKinds := [.data], laidTests := true, laidLooks := .later }
def SegmentPartsCardSaid : Prop := Claim7.holds Tryd.pinned (.plain (OpenSpec.ofChange segmentPartsSpec)) segmentPartsCard

/-- THE TIED CARD OF 'truglaw12.SegmentScans'. -/
def segmentScansCard : Claim7 := { stood := { row := segmentScansRow, standIns := [], harness := (true, "5cb79ddcbf4508aa173619bff2636ccbe3431f194f34513c361fdadce8ffbb83"), looks := false }, kinds := [], alts := [], laidByText := true, laidKinds := [.data], laidTests := true, laidLooks := .later }
def SegmentScansCardSaid : Prop := Claim7.holds Tryd.pinned (.plain (OpenSpec.ofChange segmentScansSpec)) segmentScansCard

/-- THE TIED CARD OF 'truglaw12.SegmentBack'. -/
def segmentBackCard : Claim7 := { stood := { row := segmentBackRow, standIns := [], harness := (true, "5cb79ddcbf4508aa173619bff2636ccbe3431f194f34513c361fdadce8ffbb83"), looks := false }, kinds := [], alts := [], laidByText := true, laidKinds := [.data], laidTests := true, laidLooks := .later }
def SegmentBackCardSaid : Prop := Claim7.holds Tryd.pinned (.plain (OpenSpec.ofChange segmentBackSpec)) segmentBackCard

/-- THE TIED CARD OF 'truglaw12.SegmentTail'. -/
def segmentTailCard : Claim7 := { stood := { row := segmentTailRow, standIns := [], harness := (true, "5cb79ddcbf4508aa173619bff2636ccbe3431f194f34513c361fdadce8ffbb83"), looks := false }, kinds := [], alts := [], laidByText := true, laidKinds := [.data], laidTests := true, laidLooks := .later }
def SegmentTailCardSaid : Prop := Claim7.holds Tryd.pinned (.plain (OpenSpec.ofChange segmentTailSpec)) segmentTailCard

/-- THE TIED CARD OF 'truglaw12.SegmentPlaces'. -/
def segmentPlacesCard : Claim7 := { stood := { row := segmentPlacesRow, standIns := [], harness := (true, "5cb79ddcbf4508aa173619bff2636ccbe3431f194f34513c361fdadce8ffbb83"), looks := false }, kinds := [], alts := [], laidByText := true, laidKinds := [.data], laidTests := true, laidLooks := .later }
def SegmentPlacesCardSaid : Prop := Claim7.holds Tryd.pinned (.plain (OpenSpec.ofChange segmentPlacesSpec)) segmentPlacesCard

/-- THE TIED CARD OF 'truglaw12.SegmentNew'. -/
def segmentNewCard : Claim7 := { stood := { row := segmentNewRow, standIns := [], harness := (true, "5cb79ddcbf4508aa173619bff2636ccbe3431f194f34513c361fdadce8ffbb83"), looks := false }, kinds := [], alts := [], laidByText := true, laidKinds := [.data], laidTests := true, laidLooks := .later }
def SegmentNewCardSaid : Prop := Claim7.holds Tryd.pinned (.plain (OpenSpec.ofChange segmentNewSpec)) segmentNewCard

/-- THE SECOND FORM's CARD OF 'truglaw12.SegmentParts'. -/
def segmentPartsUptoCard : Claim7 := { stood := { row := segmentPartsUptoRow, standIns := [], harness := (true, "5cb79ddcbf4508aa173619bff2636ccbe3431f194f34513c361fdadce8ffbb83"), looks := false }, kinds := [], alts := [], laidByText := true, laidKinds := [.data], laidTests := true, laidLooks := .later }
def SegmentPartsUptoCardSaid : Prop := Claim7.holds Tryd.pinned (.plain (OpenSpec.upto segmentPartsSpec)) segmentPartsUptoCard

/-- THE SECOND FORM's CARD OF 'truglaw12.SegmentScans'. -/
def segmentScansUptoCard : Claim7 := { stood := { row := segmentScansUptoRow, standIns := [], harness := (true, "5cb79ddcbf4508aa173619bff2636ccbe3431f194f34513c361fdadce8ffbb83"), looks := false }, kinds := [], alts := [], laidByText := true, laidKinds := [.data], laidTests := true, laidLooks := .later }
def SegmentScansUptoCardSaid : Prop := Claim7.holds Tryd.pinned (.plain (OpenSpec.upto segmentScansSpec)) segmentScansUptoCard

/-- THE SECOND FORM's CARD OF 'truglaw12.SegmentBack'. -/
def segmentBackUptoCard : Claim7 := { stood := { row := segmentBackUptoRow, standIns := [], harness := (true, "5cb79ddcbf4508aa173619bff2636ccbe3431f194f34513c361fdadce8ffbb83"), looks := false }, kinds := [], alts := [], laidByText := true, laidKinds := [.data], laidTests := true, laidLooks := .later }
def SegmentBackUptoCardSaid : Prop := Claim7.holds Tryd.pinned (.plain (OpenSpec.upto segmentBackSpec)) segmentBackUptoCard

/-- THE SECOND FORM's CARD OF 'truglaw12.SegmentTail'. -/
def segmentTailUptoCard : Claim7 := { stood := { row := segmentTailUptoRow, standIns := [], harness := (true, "5cb79ddcbf4508aa173619bff2636ccbe3431f194f34513c361fdadce8ffbb83"), looks := false }, kinds := [], alts := [], laidByText := true, laidKinds := [.data], laidTests := true, laidLooks := .later }
def SegmentTailUptoCardSaid : Prop := Claim7.holds Tryd.pinned (.plain (OpenSpec.upto segmentTailSpec)) segmentTailUptoCard

/-- THE SECOND FORM's CARD OF 'truglaw12.SegmentPlaces'. -/
def segmentPlacesUptoCard : Claim7 := { stood := { row := segmentPlacesUptoRow, standIns := [], harness := (true, "5cb79ddcbf4508aa173619bff2636ccbe3431f194f34513c361fdadce8ffbb83"), looks := false }, kinds := [], alts := [], laidByText := true, laidKinds := [.data], laidTests := true, laidLooks := .later }
def SegmentPlacesUptoCardSaid : Prop := Claim7.holds Tryd.pinned (.plain (OpenSpec.upto segmentPlacesSpec)) segmentPlacesUptoCard

/-- THE SECOND FORM's CARD OF 'truglaw12.SegmentNew'. -/
def segmentNewUptoCard : Claim7 := { stood := { row := segmentNewUptoRow, standIns := [], harness := (true, "5cb79ddcbf4508aa173619bff2636ccbe3431f194f34513c361fdadce8ffbb83"), looks := false }, kinds := [], alts := [], laidByText := true, laidKinds := [.data], laidTests := true, laidLooks := .later }
def SegmentNewUptoCardSaid : Prop := Claim7.holds Tryd.pinned (.plain (OpenSpec.upto segmentNewSpec)) segmentNewUptoCard
end Rows
end Go.Proofs.YtfnaccmgmocolaaDoor
