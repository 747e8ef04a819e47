/-
  DERIVED. GIVEN WITH THE SEED: THE CARDS: each row of YtcgbkfnjohbglaaDoorRows.lean that lists a variable, with what it lists TIED to the program's text (the seventh form; the later family's looks); each row that meets fmt, with fmt's text TOLD by the authors' own Lean function (tested against real Go, not proved from fmt's source: count such statements apart). THE CARD IS WHAT COUNTS. Prove the row's statement (the work); the ties are given (YtcgbkfnjohbglaaDoorTie.lean); close each card by the builder's one call (the guide's Derived/Test/ToyasCard.lean, 'card_holds'). Laid BY PROGRAM, IN A SANDBOX (cutbox-door.mjs). By AI agents, Wed Nov 11 2026. No macro, syntax, notation, axiom, sorry.
-/
import Derived.Test.YtcgbkfnjohbglaaDoorRows
import GoSem.ClaimSeven
namespace Go.Proofs.YtcgbkfnjohbglaaDoor
namespace Rows

/-- THE TIED CARD OF 'truglaw13.PageRights'. -/
def pageRightsCard : Claim7 := { stood := { row := pageRightsRow, standIns := [], harness := (true, "b90d5132cacc69b8af3e47d8b89c9f2e9ff94c7b619f5af158f7875afb797316"), looks := false }, kinds := [], alts := [], laidByText := true, laidKinds := [.data], laidTests := true, laidLooks := .later }
def PageRightsCardSaid : Prop := Claim7.holds Tryd.pinned (.plain (OpenSpec.ofChange pageRightsSpec)) pageRightsCard

/-- THE TIED CARD OF 'truglaw13.PageBytes'. -/
def pageBytesCard : Claim7 := { stood := { row := pageBytesRow, standIns := [], harness := (true, "b90d5132cacc69b8af3e47d8b89c9f2e9ff94c7b619f5af158f7875afb797316"), looks := false }, kinds := [], alts := [], laidByText := true, laidKinds := [.data], laidTests := true, laidLooks := .later }
def PageBytesCardSaid : Prop := Claim7.holds Tryd.pinned (.plain (OpenSpec.ofChange pageBytesSpec)) pageBytesCard

/-- THE TIED CARD OF 'truglaw13.PageBack'. -/
def pageBackCard : Claim7 := { stood := { row := pageBackRow, standIns := [], harness := (true, "b90d5132cacc69b8af3e47d8b89c9f2e9ff94c7b619f5af158f7875afb797316"), looks := false }, kinds := [], alts := [], laidByText := true, laidKinds := [.data], laidTests := true, laidLooks := .later }
def PageBackCardSaid : Prop := Claim7.holds Tryd.pinned (.plain (OpenSpec.ofChange pageBackSpec)) pageBackCard

/-- THE TIED CARD OF 'truglaw13.PageOrder'. -/
def pageOrderCard : Claim7 := { stood := { row := pageOrderRow, standIns := [], harness := (true, "b90d5132cacc69b8af3e47d8b89c9f2e9ff94c7b619f5af158f7875afb797316"), looks := false }, kinds := [], alts := [], laidByText := true, laidKinds := [.data], laidTests := true, laidLooks := .later }
def PageOrderCardSaid : Prop := Claim7.holds Tryd.pinned (.plain (OpenSpec.ofChange pageOrderSpec)) pageOrderCard

/-- THE TIED CARD OF 'truglaw13.PageFinds'. -/
def pageFindsCard : Claim7 := { stood := { row := pageFindsRow, standIns := [], harness := (true, "b90d5132cacc69b8af3e47d8b89c9f2e9ff94c7b619f5af158f7875afb797316"), looks := false }, kinds := [], alts := [], laidByText := true, laidKinds := [.data], laidTests := true, laidLooks := .later }
def PageFindsCardSaid : Prop := Claim7.holds Tryd.pinned (.plain (OpenSpec.ofChange pageFindsSpec)) pageFindsCard

/-- THE TIED CARD OF 'truglaw13.PageApart'. -/
def pageApartCard : Claim7 := { stood := { row := pageApartRow, standIns := [], harness := (true, "b90d5132cacc69b8af3e47d8b89c9f2e9ff94c7b619f5af158f7875afb797316"), looks := false }, kinds := [], alts := [], laidByText := true, laidKinds := [.data], laidTests := true, laidLooks := .later }
def PageApartCardSaid : Prop := Claim7.holds Tryd.pinned (.plain (OpenSpec.ofChange pageApartSpec)) pageApartCard

/-- THE SECOND FORM's CARD OF 'truglaw13.PageRights'. -/
def pageRightsUptoCard : Claim7 := { stood := { row := pageRightsUptoRow, standIns := [], harness := (true, "b90d5132cacc69b8af3e47d8b89c9f2e9ff94c7b619f5af158f7875afb797316"), looks := false }, kinds := [], alts := [], laidByText := true, laidKinds := [.data], laidTests := true, laidLooks := .later }
def PageRightsUptoCardSaid : Prop := Claim7.holds Tryd.pinned (.plain (OpenSpec.upto pageRightsSpec)) pageRightsUptoCard

/-- THE SECOND FORM's CARD OF 'truglaw13.PageBytes'. -/
def pageBytesUptoCard : Claim7 := { stood := { row := pageBytesUptoRow, standIns := [], harness := (true, "b90d5132cacc69b8af3e47d8b89c9f2e9ff94c7b619f5af158f7875afb797316"), looks := false }, kinds := [], alts := [], laidByText := true, laidKinds := [.data], laidTests := true, laidLooks := .later }
def PageBytesUptoCardSaid : Prop := Claim7.holds Tryd.pinned (.plain (OpenSpec.upto pageBytesSpec)) pageBytesUptoCard

/-- THE SECOND FORM's CARD OF 'truglaw13.PageBack'. -/
def pageBackUptoCard : Claim7 := { stood := { row := pageBackUptoRow, standIns := [], harness := (true, "b90d5132cacc69b8af3e47d8b89c9f2e9ff94c7b619f5af158f7875afb797316"), looks := false }, kinds := [], alts := [], laidByText := true, laidKinds := [.data], laidTests := true, laidLooks := .later }
def PageBackUptoCardSaid : Prop := Claim7.holds Tryd.pinned (.plain (OpenSpec.upto pageBackSpec)) pageBackUptoCard

/-- THE SECOND FORM's CARD OF 'truglaw13.PageOrder'. -/
def pageOrderUptoCard : Claim7 := { stood := { row := pageOrderUptoRow, standIns := [], harness := (true, "b90d5132cacc69b8af3e47d8b89c9f2e9ff94c7b619f5af158f7875afb797316"), looks := false }, kinds := [], alts := [], laidByText := true, laidKinds := [.data], laidTests := true, laidLooks := .later }
def PageOrderUptoCardSaid : Prop := Claim7.holds Tryd.pinned (.plain (OpenSpec.upto pageOrderSpec)) pageOrderUptoCard

/-- THE SECOND FORM's CARD OF 'truglaw13.PageFinds'. -/
def pageFindsUptoCard : Claim7 := { stood := { row := pageFindsUptoRow, standIns := [], harness := (true, "b90d5132cacc69b8af3e47d8b89c9f2e9ff94c7b619f5af158f7875afb797316"), looks := false }, kinds := [], alts := [], laidByText := true, laidKinds := [.data], laidTests := true, laidLooks := .later }
def PageFindsUptoCardSaid : Prop := Claim7.holds Tryd.pinned (.plain (OpenSpec.upto pageFindsSpec)) pageFindsUptoCard

/-- THE SECOND FORM's CARD OF 'truglaw13.PageApart'. -/
def pageApartUptoCard : Claim7 := { stood := { row := pageApartUptoRow, standIns := [], harness := (true, "b90d5132cacc69b8af3e47d8b89c9f2e9ff94c7b619f5af158f7875afb797316"), looks := false }, kinds := [], alts := [], laidByText := true, laidKinds := [.data], laidTests := true, laidLooks := .later }
def PageApartUptoCardSaid : Prop := Claim7.holds Tryd.pinned (.plain (OpenSpec.upto pageApartSpec)) pageApartUptoCard
end Rows
end Go.Proofs.YtcgbkfnjohbglaaDoor
