/-
  DERIVED. GIVEN WITH THE SEED: THE CARDS: each row of YtbapgdhcbfpdoaaGreatDoorRows.lean that lists a variable, with what it lists TIED to the program's text (the seventh form; the later family's looks); each row that meets fmt, with fmt's text TOLD by the authors' own Lean function (tested against real Go, not proved from fmt's source: count such statements apart). THE CARD IS WHAT COUNTS. Prove the row's statement (the work); the ties are given (YtbapgdhcbfpdoaaGreatDoorTie.lean); close each card by the builder's one call (the guide's Derived/Test/ToyasCard.lean, 'card_holds'). Laid BY PROGRAM, IN A SANDBOX (cutbox-door.mjs). By AI agents, Wed Nov 11 2026. No macro, syntax, notation, axiom, sorry.
-/
import Derived.Test.YtbapgdhcbfpdoaaGreatDoorRows
import GoSem.ClaimSeven
namespace Go.Proofs.YtbapgdhcbfpdoaaGreatDoor
namespace Rows

/-- THE TIED CARD OF 'windrowlaw05.ShowRights'. -/
def showRightsCard : Claim7 := { stood := { row := showRightsRow, standIns := [], harness := (true, "d22a47e01699d9a80c3c896832c6a896da29ef7a65accca15c74c4610f62948a"), looks := true }, kinds := [], alts := [], laidByText := true, laidKinds := [.data, .data, .data, .sentinel, .sentinel, .data], laidTests := true, laidLooks := .later }
def ShowRightsCardSaid : Prop := Claim7.holds Tryz.pinned (.plain (OpenSpec.ofChange showRightsSpec)) showRightsCard

/-- THE TIED CARD OF 'windrowlaw05.ShowTexts'. -/
def showTextsCard : Claim7 := { stood := { row := showTextsRow, standIns := [], harness := (true, "d22a47e01699d9a80c3c896832c6a896da29ef7a65accca15c74c4610f62948a"), looks := true }, kinds := [], alts := [], laidByText := true, laidKinds := [.data, .data, .data, .sentinel, .sentinel, .data], laidTests := true, laidLooks := .later }
def ShowTextsCardSaid : Prop := Claim7.holds Tryz.pinned (.plain (OpenSpec.ofChange showTextsSpec)) showTextsCard

/-- THE TIED CARD OF 'windrowlaw05.ShowPlaces'. -/
def showPlacesCard : Claim7 := { stood := { row := showPlacesRow, standIns := [], harness := (true, "d22a47e01699d9a80c3c896832c6a896da29ef7a65accca15c74c4610f62948a"), looks := true }, kinds := [], alts := [], laidByText := true, laidKinds := [.data, .data, .data, .sentinel, .sentinel, .data], laidTests := true, laidLooks := .later }
def ShowPlacesCardSaid : Prop := Claim7.holds Tryz.pinned (.plain (OpenSpec.ofChange showPlacesSpec)) showPlacesCard

/-- THE SECOND FORM's CARD OF 'windrowlaw05.ShowRights'. -/
def showRightsUptoCard : Claim7 := { stood := { row := showRightsUptoRow, standIns := [], harness := (true, "d22a47e01699d9a80c3c896832c6a896da29ef7a65accca15c74c4610f62948a"), looks := true }, kinds := [], alts := [], laidByText := true, laidKinds := [.data, .data, .data, .sentinel, .sentinel, .data], laidTests := true, laidLooks := .later }
def ShowRightsUptoCardSaid : Prop := Claim7.holds Tryz.pinned (.plain (OpenSpec.upto showRightsSpec)) showRightsUptoCard

/-- THE SECOND FORM's CARD OF 'windrowlaw05.ShowTexts'. -/
def showTextsUptoCard : Claim7 := { stood := { row := showTextsUptoRow, standIns := [], harness := (true, "d22a47e01699d9a80c3c896832c6a896da29ef7a65accca15c74c4610f62948a"), looks := true }, kinds := [], alts := [], laidByText := true, laidKinds := [.data, .data, .data, .sentinel, .sentinel, .data], laidTests := true, laidLooks := .later }
def ShowTextsUptoCardSaid : Prop := Claim7.holds Tryz.pinned (.plain (OpenSpec.upto showTextsSpec)) showTextsUptoCard

/-- THE SECOND FORM's CARD OF 'windrowlaw05.ShowPlaces'. -/
def showPlacesUptoCard : Claim7 := { stood := { row := showPlacesUptoRow, standIns := [], harness := (true, "d22a47e01699d9a80c3c896832c6a896da29ef7a65accca15c74c4610f62948a"), looks := true }, kinds := [], alts := [], laidByText := true, laidKinds := [.data, .data, .data, .sentinel, .sentinel, .data], laidTests := true, laidLooks := .later }
def ShowPlacesUptoCardSaid : Prop := Claim7.holds Tryz.pinned (.plain (OpenSpec.upto showPlacesSpec)) showPlacesUptoCard
end Rows
end Go.Proofs.YtbapgdhcbfpdoaaGreatDoor
