/-
  DERIVED. GIVEN WITH THE SEED: THE CARDS: each row of YthfpmhnnjjikcabGreatDoorRows.lean that lists a variable, with what it lists TIED to the program's text (the seventh form; the later family's looks); each row that meets fmt, with fmt's text TOLD by the authors' own Lean function (tested against real Go, not proved from fmt's source: count such statements apart). THE CARD IS WHAT COUNTS. Prove the row's statement (the work); the ties are given (YthfpmhnnjjikcabGreatDoorTie.lean); close each card by the builder's one call (the guide's Derived/Test/ToyasCard.lean, 'card_holds'). Laid BY PROGRAM, IN A SANDBOX (cutbox-door.mjs). By AI agents, Wed Nov 11 2026. No macro, syntax, notation, axiom, sorry.
-/
import Derived.Test.YthfpmhnnjjikcabGreatDoorRows
import GoSem.ClaimSeven
namespace Go.Proofs.YthfpmhnnjjikcabGreatDoor
namespace Rows

/-- THE TIED CARD OF 'vellumlaw09.CellsOwns'. -/
def cellsOwnsCard : Claim7 := { stood := { row := cellsOwnsRow, standIns := [], harness := (true, "7a4fcd146c99c37050c79d307585aeabd14482b401d8f5397e0c7e72ebdd4517"), looks := true }, kinds := [], alts := [], laidByText := true, laidKinds := [.data, .sentinel, .sentinel, .sentinel, .sentinel, .sentinel, .sentinel, .sentinel, .sentinel, .sentinel, .pinned], laidTests := true, laidLooks := .later }
def CellsOwnsCardSaid : Prop := Claim7.holds Tryz.pinned (.plain (OpenSpec.ofChange cellsOwnsSpec)) cellsOwnsCard

/-- THE TIED CARD OF 'vellumlaw10.ApplyPlays'. -/
def applyPlaysCard : Claim7 := { stood := { row := applyPlaysRow, standIns := [], harness := (true, "7a4fcd146c99c37050c79d307585aeabd14482b401d8f5397e0c7e72ebdd4517"), looks := true }, kinds := [], alts := [], laidByText := true, laidKinds := [.data, .sentinel, .sentinel, .sentinel, .sentinel, .sentinel, .sentinel, .sentinel, .sentinel, .sentinel, .sentinel, .sentinel, .sentinel, .sentinel, .sentinel, .sentinel, .sentinel, .sentinel, .sentinel, .sentinel, .pinned], laidTests := true, laidLooks := .later }
def ApplyPlaysCardSaid : Prop := Claim7.holds Tryz.pinned (.plain (OpenSpec.ofChange applyPlaysSpec)) applyPlaysCard

/-- THE TIED CARD OF 'vellumlaw10.ApplyKept'. -/
def applyKeptCard : Claim7 := { stood := { row := applyKeptRow, standIns := [], harness := (true, "7a4fcd146c99c37050c79d307585aeabd14482b401d8f5397e0c7e72ebdd4517"), looks := true }, kinds := [], alts := [], laidByText := true, laidKinds := [.data, .sentinel, .sentinel, .sentinel, .sentinel, .sentinel, .sentinel, .sentinel, .sentinel, .sentinel, .sentinel, .sentinel, .sentinel, .sentinel, .sentinel, .sentinel, .sentinel, .sentinel, .sentinel, .sentinel, .pinned], laidTests := true, laidLooks := .later }
def ApplyKeptCardSaid : Prop := Claim7.holds Tryz.pinned (.plain (OpenSpec.ofChange applyKeptSpec)) applyKeptCard

/-- THE TIED CARD OF 'vellumlaw10.ApplyCells'. -/
def applyCellsCard : Claim7 := { stood := { row := applyCellsRow, standIns := [], harness := (true, "7a4fcd146c99c37050c79d307585aeabd14482b401d8f5397e0c7e72ebdd4517"), looks := true }, kinds := [], alts := [], laidByText := true, laidKinds := [.data, .sentinel, .sentinel, .sentinel, .sentinel, .sentinel, .sentinel, .sentinel, .sentinel, .sentinel, .pinned], laidTests := true, laidLooks := .later }
def ApplyCellsCardSaid : Prop := Claim7.holds Tryz.pinned (.plain (OpenSpec.ofChange applyCellsSpec)) applyCellsCard

/-- THE TIED CARD OF 'vellumlaw10.ApplyFront'. -/
def applyFrontCard : Claim7 := { stood := { row := applyFrontRow, standIns := [], harness := (true, "7a4fcd146c99c37050c79d307585aeabd14482b401d8f5397e0c7e72ebdd4517"), looks := true }, kinds := [], alts := [], laidByText := true, laidKinds := [.data, .sentinel, .sentinel, .sentinel, .sentinel, .sentinel, .sentinel, .sentinel, .sentinel, .sentinel, .sentinel, .sentinel, .sentinel, .sentinel, .sentinel, .sentinel, .sentinel, .sentinel, .sentinel, .sentinel, .pinned], laidTests := true, laidLooks := .later }
def ApplyFrontCardSaid : Prop := Claim7.holds Tryz.pinned (.plain (OpenSpec.ofChange applyFrontSpec)) applyFrontCard

/-- THE SECOND FORM's CARD OF 'vellumlaw09.CellsOwns'. -/
def cellsOwnsUptoCard : Claim7 := { stood := { row := cellsOwnsUptoRow, standIns := [], harness := (true, "7a4fcd146c99c37050c79d307585aeabd14482b401d8f5397e0c7e72ebdd4517"), looks := true }, kinds := [], alts := [], laidByText := true, laidKinds := [.data, .sentinel, .sentinel, .sentinel, .sentinel, .sentinel, .sentinel, .sentinel, .sentinel, .sentinel, .pinned], laidTests := true, laidLooks := .later }
def CellsOwnsUptoCardSaid : Prop := Claim7.holds Tryz.pinned (.plain (OpenSpec.upto cellsOwnsSpec)) cellsOwnsUptoCard

/-- THE SECOND FORM's CARD OF 'vellumlaw10.ApplyPlays'. -/
def applyPlaysUptoCard : Claim7 := { stood := { row := applyPlaysUptoRow, standIns := [], harness := (true, "7a4fcd146c99c37050c79d307585aeabd14482b401d8f5397e0c7e72ebdd4517"), looks := true }, kinds := [], alts := [], laidByText := true, laidKinds := [.data, .sentinel, .sentinel, .sentinel, .sentinel, .sentinel, .sentinel, .sentinel, .sentinel, .sentinel, .sentinel, .sentinel, .sentinel, .sentinel, .sentinel, .sentinel, .sentinel, .sentinel, .sentinel, .sentinel, .pinned], laidTests := true, laidLooks := .later }
def ApplyPlaysUptoCardSaid : Prop := Claim7.holds Tryz.pinned (.plain (OpenSpec.upto applyPlaysSpec)) applyPlaysUptoCard

/-- THE SECOND FORM's CARD OF 'vellumlaw10.ApplyKept'. -/
def applyKeptUptoCard : Claim7 := { stood := { row := applyKeptUptoRow, standIns := [], harness := (true, "7a4fcd146c99c37050c79d307585aeabd14482b401d8f5397e0c7e72ebdd4517"), looks := true }, kinds := [], alts := [], laidByText := true, laidKinds := [.data, .sentinel, .sentinel, .sentinel, .sentinel, .sentinel, .sentinel, .sentinel, .sentinel, .sentinel, .sentinel, .sentinel, .sentinel, .sentinel, .sentinel, .sentinel, .sentinel, .sentinel, .sentinel, .sentinel, .pinned], laidTests := true, laidLooks := .later }
def ApplyKeptUptoCardSaid : Prop := Claim7.holds Tryz.pinned (.plain (OpenSpec.upto applyKeptSpec)) applyKeptUptoCard

/-- THE SECOND FORM's CARD OF 'vellumlaw10.ApplyCells'. -/
def applyCellsUptoCard : Claim7 := { stood := { row := applyCellsUptoRow, standIns := [], harness := (true, "7a4fcd146c99c37050c79d307585aeabd14482b401d8f5397e0c7e72ebdd4517"), looks := true }, kinds := [], alts := [], laidByText := true, laidKinds := [.data, .sentinel, .sentinel, .sentinel, .sentinel, .sentinel, .sentinel, .sentinel, .sentinel, .sentinel, .pinned], laidTests := true, laidLooks := .later }
def ApplyCellsUptoCardSaid : Prop := Claim7.holds Tryz.pinned (.plain (OpenSpec.upto applyCellsSpec)) applyCellsUptoCard

/-- THE SECOND FORM's CARD OF 'vellumlaw10.ApplyFront'. -/
def applyFrontUptoCard : Claim7 := { stood := { row := applyFrontUptoRow, standIns := [], harness := (true, "7a4fcd146c99c37050c79d307585aeabd14482b401d8f5397e0c7e72ebdd4517"), looks := true }, kinds := [], alts := [], laidByText := true, laidKinds := [.data, .sentinel, .sentinel, .sentinel, .sentinel, .sentinel, .sentinel, .sentinel, .sentinel, .sentinel, .sentinel, .sentinel, .sentinel, .sentinel, .sentinel, .sentinel, .sentinel, .sentinel, .sentinel, .sentinel, .pinned], laidTests := true, laidLooks := .later }
def ApplyFrontUptoCardSaid : Prop := Claim7.holds Tryz.pinned (.plain (OpenSpec.upto applyFrontSpec)) applyFrontUptoCard
end Rows
end Go.Proofs.YthfpmhnnjjikcabGreatDoor
