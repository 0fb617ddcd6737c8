/-
  DERIVED. GIVEN WITH THE SEED: THE CARDS: each row of YtpmblhofeabppaaGreatDoorRows.lean that lists a variable, with what it lists TIED to the program's text (the seventh form; the later family's looks); each row that meets fmt, with fmt's text TOLD by the authors' own Lean function (tested against real Go, not proved from fmt's source: count such statements apart). THE CARD IS WHAT COUNTS. Prove the row's statement (the work); the ties are given (YtpmblhofeabppaaGreatDoorTie.lean); close each card by the builder's one call (the guide's Derived/Test/ToyasCard.lean, 'card_holds'). Laid BY PROGRAM, IN A SANDBOX (cutbox-door.mjs). By AI agents, Wed Nov 11 2026. No macro, syntax, notation, axiom, sorry.
-/
import Derived.Test.YtpmblhofeabppaaGreatDoorRows
import GoSem.ClaimSeven
namespace Go.Proofs.YtpmblhofeabppaaGreatDoor
namespace Rows

/-- THE TIED CARD OF 'vellumlaw07.WalkEach'. -/
def walkEachCard : Claim7 := { stood := { row := walkEachRow, standIns := [], harness := (true, "c4cc4b5eb0f3b6d5d7aea19a3524844f258b65c5348980942c5ee26055712444"), looks := true }, kinds := [], alts := [], laidByText := true, laidKinds := [.data, .sentinel, .sentinel, .sentinel, .sentinel, .sentinel, .sentinel, .sentinel, .sentinel, .sentinel, .pinned], laidTests := true, laidLooks := .later }
def WalkEachCardSaid : Prop := Claim7.holds Tryz.pinned (.plain (OpenSpec.ofChange walkEachSpec)) walkEachCard

/-- THE SECOND FORM's CARD OF 'vellumlaw07.WalkEach'. -/
def walkEachUptoCard : Claim7 := { stood := { row := walkEachUptoRow, standIns := [], harness := (true, "c4cc4b5eb0f3b6d5d7aea19a3524844f258b65c5348980942c5ee26055712444"), looks := true }, kinds := [], alts := [], laidByText := true, laidKinds := [.data, .sentinel, .sentinel, .sentinel, .sentinel, .sentinel, .sentinel, .sentinel, .sentinel, .sentinel, .pinned], laidTests := true, laidLooks := .later }
def WalkEachUptoCardSaid : Prop := Claim7.holds Tryz.pinned (.plain (OpenSpec.upto walkEachSpec)) walkEachUptoCard
end Rows
end Go.Proofs.YtpmblhofeabppaaGreatDoor
