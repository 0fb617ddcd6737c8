/-
  DERIVED. GIVEN WITH THE SEED: THE CARDS: each row of YtfllomfjhkgaoaaGreatDoorRows.lean that lists a variable, with what it lists TIED to the program's text (the seventh form; the later family's looks); each row that meets fmt, with fmt's text TOLD by the authors' own Lean function (tested against real Go, not proved from fmt's source: count such statements apart). THE CARD IS WHAT COUNTS. Prove the row's statement (the work); the ties are given (YtfllomfjhkgaoaaGreatDoorTie.lean); close each card by the builder's one call (the guide's Derived/Test/ToyasCard.lean, 'card_holds'). Laid BY PROGRAM, IN A SANDBOX (cutbox-door.mjs). By AI agents, Wed Nov 11 2026. No macro, syntax, notation, axiom, sorry.
-/
import Derived.Test.YtfllomfjhkgaoaaGreatDoorRows
import GoSem.ClaimSeven
namespace Go.Proofs.YtfllomfjhkgaoaaGreatDoor
namespace Rows

/-- THE TIED CARD OF 'vellumlaw06.BuildOf'. -/
def buildOfCard : Claim7 := { stood := { row := buildOfRow, standIns := [], harness := (true, "5c31a30dc3eb708079446fbc90fb202984b4c26747437ebe983dafe22ca57075"), looks := true }, kinds := [], alts := [], laidByText := true, laidKinds := [.data, .sentinel, .sentinel, .sentinel, .sentinel, .sentinel, .sentinel, .sentinel, .sentinel, .sentinel, .sentinel, .sentinel, .sentinel, .sentinel, .sentinel, .sentinel, .sentinel, .sentinel, .sentinel, .sentinel, .pinned], laidTests := true, laidLooks := .later }
def BuildOfCardSaid : Prop := Claim7.holds Tryz.pinned (.plain (OpenSpec.ofChange buildOfSpec)) buildOfCard

/-- THE TIED CARD OF 'vellumlaw06.BuildPlays'. -/
def buildPlaysCard : Claim7 := { stood := { row := buildPlaysRow, standIns := [], harness := (true, "5c31a30dc3eb708079446fbc90fb202984b4c26747437ebe983dafe22ca57075"), looks := true }, kinds := [], alts := [], laidByText := true, laidKinds := [.data, .sentinel, .sentinel, .sentinel, .sentinel, .sentinel, .sentinel, .sentinel, .sentinel, .sentinel, .sentinel, .sentinel, .sentinel, .sentinel, .sentinel, .sentinel, .sentinel, .sentinel, .sentinel, .sentinel, .pinned], laidTests := true, laidLooks := .later }
def BuildPlaysCardSaid : Prop := Claim7.holds Tryz.pinned (.plain (OpenSpec.ofChange buildPlaysSpec)) buildPlaysCard

/-- THE TIED CARD OF 'vellumlaw06.BuildCanon'. -/
def buildCanonCard : Claim7 := { stood := { row := buildCanonRow, standIns := [], harness := (true, "5c31a30dc3eb708079446fbc90fb202984b4c26747437ebe983dafe22ca57075"), looks := true }, kinds := [], alts := [], laidByText := true, laidKinds := [.data, .sentinel, .sentinel, .sentinel, .sentinel, .sentinel, .sentinel, .sentinel, .sentinel, .pinned], laidTests := true, laidLooks := .later }
def BuildCanonCardSaid : Prop := Claim7.holds Tryz.pinned (.plain (OpenSpec.ofChange buildCanonSpec)) buildCanonCard

/-- THE SECOND FORM's CARD OF 'vellumlaw06.BuildOf'. -/
def buildOfUptoCard : Claim7 := { stood := { row := buildOfUptoRow, standIns := [], harness := (true, "5c31a30dc3eb708079446fbc90fb202984b4c26747437ebe983dafe22ca57075"), looks := true }, kinds := [], alts := [], laidByText := true, laidKinds := [.data, .sentinel, .sentinel, .sentinel, .sentinel, .sentinel, .sentinel, .sentinel, .sentinel, .sentinel, .sentinel, .sentinel, .sentinel, .sentinel, .sentinel, .sentinel, .sentinel, .sentinel, .sentinel, .sentinel, .pinned], laidTests := true, laidLooks := .later }
def BuildOfUptoCardSaid : Prop := Claim7.holds Tryz.pinned (.plain (OpenSpec.upto buildOfSpec)) buildOfUptoCard

/-- THE SECOND FORM's CARD OF 'vellumlaw06.BuildPlays'. -/
def buildPlaysUptoCard : Claim7 := { stood := { row := buildPlaysUptoRow, standIns := [], harness := (true, "5c31a30dc3eb708079446fbc90fb202984b4c26747437ebe983dafe22ca57075"), looks := true }, kinds := [], alts := [], laidByText := true, laidKinds := [.data, .sentinel, .sentinel, .sentinel, .sentinel, .sentinel, .sentinel, .sentinel, .sentinel, .sentinel, .sentinel, .sentinel, .sentinel, .sentinel, .sentinel, .sentinel, .sentinel, .sentinel, .sentinel, .sentinel, .pinned], laidTests := true, laidLooks := .later }
def BuildPlaysUptoCardSaid : Prop := Claim7.holds Tryz.pinned (.plain (OpenSpec.upto buildPlaysSpec)) buildPlaysUptoCard

/-- THE SECOND FORM's CARD OF 'vellumlaw06.BuildCanon'. -/
def buildCanonUptoCard : Claim7 := { stood := { row := buildCanonUptoRow, standIns := [], harness := (true, "5c31a30dc3eb708079446fbc90fb202984b4c26747437ebe983dafe22ca57075"), looks := true }, kinds := [], alts := [], laidByText := true, laidKinds := [.data, .sentinel, .sentinel, .sentinel, .sentinel, .sentinel, .sentinel, .sentinel, .sentinel, .pinned], laidTests := true, laidLooks := .later }
def BuildCanonUptoCardSaid : Prop := Claim7.holds Tryz.pinned (.plain (OpenSpec.upto buildCanonSpec)) buildCanonUptoCard
end Rows
end Go.Proofs.YtfllomfjhkgaoaaGreatDoor
