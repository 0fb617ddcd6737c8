/-
  DERIVED. GIVEN WITH THE SEED: THE CARDS: each row of YtalfdjglbbmjcabDoorRows.lean that lists a variable, with what it lists TIED to the program's text (the seventh form; the later family's looks); each row that meets fmt, with fmt's text TOLD by the authors' own Lean function (tested against real Go, not proved from fmt's source: count such statements apart). THE CARD IS WHAT COUNTS. Prove the row's statement (the work); the ties are given (YtalfdjglbbmjcabDoorTie.lean); close each card by the builder's one call (the guide's Derived/Test/ToyasCard.lean, 'card_holds'). Laid BY PROGRAM, IN A SANDBOX (cutbox-door.mjs). By AI agents, Wed Nov 11 2026. No macro, syntax, notation, axiom, sorry.
-/
import Derived.Test.YtalfdjglbbmjcabDoorRows
import GoSem.ClaimSeven
namespace Go.Proofs.YtalfdjglbbmjcabDoor
namespace Rows

/-- THE TIED CARD OF 'vellumlaw09.CellsLike'. -/
def cellsLikeCard : Claim7 := { stood := { row := cellsLikeRow, standIns := [], harness := (true, "f7795df8f15cd71fe7bcb50e81643fa519279358f1804fc8ecbd95fbcf1c3c43"), looks := true }, kinds := [], alts := [], laidByText := true, laidKinds := [.data, .sentinel, .sentinel, .sentinel, .sentinel, .sentinel, .sentinel, .sentinel, .sentinel, .pinned], laidTests := true, laidLooks := .later }
def CellsLikeCardSaid : Prop := Claim7.holds Tryd.pinned (.plain (OpenSpec.ofChange cellsLikeSpec)) cellsLikeCard

/-- THE SECOND FORM's CARD OF 'vellumlaw09.CellsLike'. -/
def cellsLikeUptoCard : Claim7 := { stood := { row := cellsLikeUptoRow, standIns := [], harness := (true, "f7795df8f15cd71fe7bcb50e81643fa519279358f1804fc8ecbd95fbcf1c3c43"), looks := true }, kinds := [], alts := [], laidByText := true, laidKinds := [.data, .sentinel, .sentinel, .sentinel, .sentinel, .sentinel, .sentinel, .sentinel, .sentinel, .pinned], laidTests := true, laidLooks := .later }
def CellsLikeUptoCardSaid : Prop := Claim7.holds Tryd.pinned (.plain (OpenSpec.upto cellsLikeSpec)) cellsLikeUptoCard
end Rows
end Go.Proofs.YtalfdjglbbmjcabDoor
