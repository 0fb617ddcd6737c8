/-
  DERIVED. GIVEN WITH THE SEED: THE CARDS: each row of YtfllomfjhkgaoabGreatDoorRows.lean that lists a variable, with what it lists TIED to the program's text (the seventh form; the later family's looks); each row that meets fmt, with fmt's text TOLD by the authors' own Lean function (tested against real Go, not proved from fmt's source: count such statements apart). THE CARD IS WHAT COUNTS. Prove the row's statement (the work); the ties are given (YtfllomfjhkgaoabGreatDoorTie.lean); close each card by the builder's one call (the guide's Derived/Test/ToyasCard.lean, 'card_holds'). Laid BY PROGRAM, IN A SANDBOX (cutbox-door.mjs). By AI agents, Wed Nov 11 2026. No macro, syntax, notation, axiom, sorry.
-/
import Derived.Test.YtfllomfjhkgaoabGreatDoorRows
import GoSem.ClaimSeven
namespace Go.Proofs.YtfllomfjhkgaoabGreatDoor
namespace Rows

/-- THE TIED CARD OF 'vellumlaw06.BuildOwns'. -/
def buildOwnsCard : Claim7 := { stood := { row := buildOwnsRow, standIns := [], harness := (true, "18064bb21cb6af422396265dc61d6e839272946f9aabc126d242cfe7ca90f990"), looks := true }, kinds := [], alts := [], laidByText := true, laidKinds := [.data, .sentinel, .sentinel, .sentinel, .sentinel, .sentinel, .sentinel, .sentinel, .sentinel, .pinned], laidTests := true, laidLooks := .later }
def BuildOwnsCardSaid : Prop := Claim7.holds Tryz.pinned (.plain (OpenSpec.ofChange buildOwnsSpec)) buildOwnsCard

/-- THE SECOND FORM's CARD OF 'vellumlaw06.BuildOwns'. -/
def buildOwnsUptoCard : Claim7 := { stood := { row := buildOwnsUptoRow, standIns := [], harness := (true, "18064bb21cb6af422396265dc61d6e839272946f9aabc126d242cfe7ca90f990"), looks := true }, kinds := [], alts := [], laidByText := true, laidKinds := [.data, .sentinel, .sentinel, .sentinel, .sentinel, .sentinel, .sentinel, .sentinel, .sentinel, .pinned], laidTests := true, laidLooks := .later }
def BuildOwnsUptoCardSaid : Prop := Claim7.holds Tryz.pinned (.plain (OpenSpec.upto buildOwnsSpec)) buildOwnsUptoCard
end Rows
end Go.Proofs.YtfllomfjhkgaoabGreatDoor
