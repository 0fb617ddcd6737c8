/-
  DERIVED. GIVEN WITH THE SEED: THE CARDS: each row of YtalfdjglbbmjcabGreatDoorRows.lean that lists a variable, with what it lists TIED to the program's text (the seventh form; the later family's looks); each row that meets fmt, with fmt's text TOLD by the authors' own Lean function (tested against real Go, not proved from fmt's source: count such statements apart). THE CARD IS WHAT COUNTS. Prove the row's statement (the work); the ties are given (YtalfdjglbbmjcabGreatDoorTie.lean); close each card by the builder's one call (the guide's Derived/Test/ToyasCard.lean, 'card_holds'). Laid BY PROGRAM, IN A SANDBOX (cutbox-door.mjs). By AI agents, Wed Nov 11 2026. No macro, syntax, notation, axiom, sorry.
-/
import Derived.Test.YtalfdjglbbmjcabGreatDoorRows
import GoSem.ClaimSeven
namespace Go.Proofs.YtalfdjglbbmjcabGreatDoor
namespace Rows

/-- THE TIED CARD OF 'vellumlaw09.CellsOf'. -/
def cellsOfCard : Claim7 := { stood := { row := cellsOfRow, standIns := [], harness := (true, "0b3861e9da68419d92aacee678d0fc54271ed9da284c761590ca383de34b2db5"), looks := true }, kinds := [], alts := [], laidByText := true, laidKinds := [.data, .sentinel, .sentinel, .sentinel, .sentinel, .sentinel, .sentinel, .sentinel, .sentinel, .sentinel, .sentinel, .sentinel, .sentinel, .sentinel, .sentinel, .sentinel, .sentinel, .sentinel, .sentinel, .sentinel, .pinned], laidTests := true, laidLooks := .later }
def CellsOfCardSaid : Prop := Claim7.holds Tryz.pinned (.plain (OpenSpec.ofChange cellsOfSpec)) cellsOfCard

/-- THE TIED CARD OF 'vellumlaw09.CellsList'. -/
def cellsListCard : Claim7 := { stood := { row := cellsListRow, standIns := [], harness := (true, "0b3861e9da68419d92aacee678d0fc54271ed9da284c761590ca383de34b2db5"), looks := true }, kinds := [], alts := [], laidByText := true, laidKinds := [.data, .sentinel, .sentinel, .sentinel, .sentinel, .sentinel, .sentinel, .sentinel, .sentinel, .sentinel, .sentinel, .sentinel, .sentinel, .sentinel, .sentinel, .sentinel, .sentinel, .sentinel, .sentinel, .sentinel, .pinned], laidTests := true, laidLooks := .later }
def CellsListCardSaid : Prop := Claim7.holds Tryz.pinned (.plain (OpenSpec.ofChange cellsListSpec)) cellsListCard

/-- THE TIED CARD OF 'vellumlaw09.CellsBack'. -/
def cellsBackCard : Claim7 := { stood := { row := cellsBackRow, standIns := [], harness := (true, "0b3861e9da68419d92aacee678d0fc54271ed9da284c761590ca383de34b2db5"), looks := true }, kinds := [], alts := [], laidByText := true, laidKinds := [.data, .sentinel, .sentinel, .sentinel, .sentinel, .sentinel, .sentinel, .sentinel, .sentinel, .pinned], laidTests := true, laidLooks := .later }
def CellsBackCardSaid : Prop := Claim7.holds Tryz.pinned (.plain (OpenSpec.ofChange cellsBackSpec)) cellsBackCard

/-- THE TIED CARD OF 'vellumlaw09.CellsOwns'. -/
def cellsOwnsCard : Claim7 := { stood := { row := cellsOwnsRow, standIns := [], harness := (true, "0b3861e9da68419d92aacee678d0fc54271ed9da284c761590ca383de34b2db5"), looks := true }, kinds := [], alts := [], laidByText := true, laidKinds := [.data, .sentinel, .sentinel, .sentinel, .sentinel, .sentinel, .sentinel, .sentinel, .sentinel, .sentinel, .pinned], laidTests := true, laidLooks := .later }
def CellsOwnsCardSaid : Prop := Claim7.holds Tryz.pinned (.plain (OpenSpec.ofChange cellsOwnsSpec)) cellsOwnsCard

/-- THE SECOND FORM's CARD OF 'vellumlaw09.CellsOf'. -/
def cellsOfUptoCard : Claim7 := { stood := { row := cellsOfUptoRow, standIns := [], harness := (true, "0b3861e9da68419d92aacee678d0fc54271ed9da284c761590ca383de34b2db5"), looks := true }, kinds := [], alts := [], laidByText := true, laidKinds := [.data, .sentinel, .sentinel, .sentinel, .sentinel, .sentinel, .sentinel, .sentinel, .sentinel, .sentinel, .sentinel, .sentinel, .sentinel, .sentinel, .sentinel, .sentinel, .sentinel, .sentinel, .sentinel, .sentinel, .pinned], laidTests := true, laidLooks := .later }
def CellsOfUptoCardSaid : Prop := Claim7.holds Tryz.pinned (.plain (OpenSpec.upto cellsOfSpec)) cellsOfUptoCard

/-- THE SECOND FORM's CARD OF 'vellumlaw09.CellsList'. -/
def cellsListUptoCard : Claim7 := { stood := { row := cellsListUptoRow, standIns := [], harness := (true, "0b3861e9da68419d92aacee678d0fc54271ed9da284c761590ca383de34b2db5"), looks := true }, kinds := [], alts := [], laidByText := true, laidKinds := [.data, .sentinel, .sentinel, .sentinel, .sentinel, .sentinel, .sentinel, .sentinel, .sentinel, .sentinel, .sentinel, .sentinel, .sentinel, .sentinel, .sentinel, .sentinel, .sentinel, .sentinel, .sentinel, .sentinel, .pinned], laidTests := true, laidLooks := .later }
def CellsListUptoCardSaid : Prop := Claim7.holds Tryz.pinned (.plain (OpenSpec.upto cellsListSpec)) cellsListUptoCard

/-- THE SECOND FORM's CARD OF 'vellumlaw09.CellsBack'. -/
def cellsBackUptoCard : Claim7 := { stood := { row := cellsBackUptoRow, standIns := [], harness := (true, "0b3861e9da68419d92aacee678d0fc54271ed9da284c761590ca383de34b2db5"), looks := true }, kinds := [], alts := [], laidByText := true, laidKinds := [.data, .sentinel, .sentinel, .sentinel, .sentinel, .sentinel, .sentinel, .sentinel, .sentinel, .pinned], laidTests := true, laidLooks := .later }
def CellsBackUptoCardSaid : Prop := Claim7.holds Tryz.pinned (.plain (OpenSpec.upto cellsBackSpec)) cellsBackUptoCard

/-- THE SECOND FORM's CARD OF 'vellumlaw09.CellsOwns'. -/
def cellsOwnsUptoCard : Claim7 := { stood := { row := cellsOwnsUptoRow, standIns := [], harness := (true, "0b3861e9da68419d92aacee678d0fc54271ed9da284c761590ca383de34b2db5"), looks := true }, kinds := [], alts := [], laidByText := true, laidKinds := [.data, .sentinel, .sentinel, .sentinel, .sentinel, .sentinel, .sentinel, .sentinel, .sentinel, .sentinel, .pinned], laidTests := true, laidLooks := .later }
def CellsOwnsUptoCardSaid : Prop := Claim7.holds Tryz.pinned (.plain (OpenSpec.upto cellsOwnsSpec)) cellsOwnsUptoCard
end Rows
end Go.Proofs.YtalfdjglbbmjcabGreatDoor
