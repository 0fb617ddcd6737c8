/-
  DERIVED. GIVEN WITH THE SEED: THE CARDS: each row of YtfllomfjhkgaoaaDoorRows.lean that lists a variable, with what it lists TIED to the program's text (the seventh form; the later family's looks); each row that meets fmt, with fmt's text TOLD by the authors' own Lean function (tested against real Go, not proved from fmt's source: count such statements apart). THE CARD IS WHAT COUNTS. Prove the row's statement (the work); the ties are given (YtfllomfjhkgaoaaDoorTie.lean); close each card by the builder's one call (the guide's Derived/Test/ToyasCard.lean, 'card_holds'). Laid BY PROGRAM, IN A SANDBOX (cutbox-door.mjs). By AI agents, Wed Nov 11 2026. No macro, syntax, notation, axiom, sorry.
-/
import Derived.Test.YtfllomfjhkgaoaaDoorRows
import GoSem.ClaimSeven
namespace Go.Proofs.YtfllomfjhkgaoaaDoor
namespace Rows

/-- THE TIED CARD OF 'vellumlaw06.BuildParts'. -/
def buildPartsCard : Claim7 := { stood := { row := buildPartsRow, standIns := [], harness := (true, "d1f4bd705a5b01c547271f5120a5d0c68591b5fdf4a63a166e4071f597ec5732"), looks := true }, kinds := [], alts := [], laidByText := true, laidKinds := [.data, .sentinel, .sentinel, .sentinel, .sentinel, .sentinel, .sentinel, .sentinel, .sentinel, .pinned], laidTests := true, laidLooks := .later }
def BuildPartsCardSaid : Prop := Claim7.holds Tryd.pinned (.plain (OpenSpec.ofChange buildPartsSpec)) buildPartsCard

/-- THE TIED CARD OF 'vellumlaw06.BuildPieces'. -/
def buildPiecesCard : Claim7 := { stood := { row := buildPiecesRow, standIns := [], harness := (true, "d1f4bd705a5b01c547271f5120a5d0c68591b5fdf4a63a166e4071f597ec5732"), looks := true }, kinds := [], alts := [], laidByText := true, laidKinds := [.data, .sentinel, .sentinel, .sentinel, .sentinel, .sentinel, .sentinel, .sentinel, .sentinel, .pinned], laidTests := true, laidLooks := .later }
def BuildPiecesCardSaid : Prop := Claim7.holds Tryd.pinned (.plain (OpenSpec.ofChange buildPiecesSpec)) buildPiecesCard

/-- THE TIED CARD OF 'vellumlaw06.BuildTypes'. -/
def buildTypesCard : Claim7 := { stood := { row := buildTypesRow, standIns := [], harness := (true, "d1f4bd705a5b01c547271f5120a5d0c68591b5fdf4a63a166e4071f597ec5732"), looks := true }, kinds := [], alts := [], laidByText := true, laidKinds := [.data, .sentinel, .sentinel, .sentinel, .sentinel, .sentinel, .sentinel, .sentinel, .sentinel, .pinned], laidTests := true, laidLooks := .later }
def BuildTypesCardSaid : Prop := Claim7.holds Tryd.pinned (.plain (OpenSpec.ofChange buildTypesSpec)) buildTypesCard

/-- THE SECOND FORM's CARD OF 'vellumlaw06.BuildParts'. -/
def buildPartsUptoCard : Claim7 := { stood := { row := buildPartsUptoRow, standIns := [], harness := (true, "d1f4bd705a5b01c547271f5120a5d0c68591b5fdf4a63a166e4071f597ec5732"), looks := true }, kinds := [], alts := [], laidByText := true, laidKinds := [.data, .sentinel, .sentinel, .sentinel, .sentinel, .sentinel, .sentinel, .sentinel, .sentinel, .pinned], laidTests := true, laidLooks := .later }
def BuildPartsUptoCardSaid : Prop := Claim7.holds Tryd.pinned (.plain (OpenSpec.upto buildPartsSpec)) buildPartsUptoCard

/-- THE SECOND FORM's CARD OF 'vellumlaw06.BuildPieces'. -/
def buildPiecesUptoCard : Claim7 := { stood := { row := buildPiecesUptoRow, standIns := [], harness := (true, "d1f4bd705a5b01c547271f5120a5d0c68591b5fdf4a63a166e4071f597ec5732"), looks := true }, kinds := [], alts := [], laidByText := true, laidKinds := [.data, .sentinel, .sentinel, .sentinel, .sentinel, .sentinel, .sentinel, .sentinel, .sentinel, .pinned], laidTests := true, laidLooks := .later }
def BuildPiecesUptoCardSaid : Prop := Claim7.holds Tryd.pinned (.plain (OpenSpec.upto buildPiecesSpec)) buildPiecesUptoCard

/-- THE SECOND FORM's CARD OF 'vellumlaw06.BuildTypes'. -/
def buildTypesUptoCard : Claim7 := { stood := { row := buildTypesUptoRow, standIns := [], harness := (true, "d1f4bd705a5b01c547271f5120a5d0c68591b5fdf4a63a166e4071f597ec5732"), looks := true }, kinds := [], alts := [], laidByText := true, laidKinds := [.data, .sentinel, .sentinel, .sentinel, .sentinel, .sentinel, .sentinel, .sentinel, .sentinel, .pinned], laidTests := true, laidLooks := .later }
def BuildTypesUptoCardSaid : Prop := Claim7.holds Tryd.pinned (.plain (OpenSpec.upto buildTypesSpec)) buildTypesUptoCard
end Rows
end Go.Proofs.YtfllomfjhkgaoaaDoor
