/-
  DERIVED. GIVEN WITH THE SEED: THE CARDS: each row of YtkgflmbhkbeakaaDoorRows.lean that lists a variable, with what it lists TIED to the program's text (the seventh form; the later family's looks); each row that meets fmt, with fmt's text TOLD by the authors' own Lean function (tested against real Go, not proved from fmt's source: count such statements apart). THE CARD IS WHAT COUNTS. Prove the row's statement (the work); the ties are given (YtkgflmbhkbeakaaDoorTie.lean); close each card by the builder's one call (the guide's Derived/Test/ToyasCard.lean, 'card_holds'). Laid BY PROGRAM, IN A SANDBOX (cutbox-door.mjs). By AI agents, Wed Nov 11 2026. No macro, syntax, notation, axiom, sorry.
-/
import Derived.Test.YtkgflmbhkbeakaaDoorRows
import GoSem.ClaimSeven
namespace Go.Proofs.YtkgflmbhkbeakaaDoor
namespace Rows

/-- THE TIED CARD OF 'vellumlaw03.AttrsAsks'. -/
def attrsAsksCard : Claim7 := { stood := { row := attrsAsksRow, standIns := [], harness := (true, "baf467d9780a7977c94d04b9a5c273d6afd5d529a2af35d0f542c96eb3b9e135"), looks := true }, kinds := [], alts := [], laidByText := true, laidKinds := [.data, .sentinel, .sentinel, .sentinel, .sentinel, .sentinel, .sentinel, .sentinel, .sentinel, .sentinel, .sentinel, .sentinel, .sentinel, .sentinel, .sentinel, .sentinel, .sentinel, .sentinel, .sentinel, .sentinel, .pinned], laidTests := true, laidLooks := .later }
def AttrsAsksCardSaid : Prop := Claim7.holds Tryd.pinned (.plain (OpenSpec.ofChange attrsAsksSpec)) attrsAsksCard

/-- THE TIED CARD OF 'vellumlaw03.AttrsJoins'. -/
def attrsJoinsCard : Claim7 := { stood := { row := attrsJoinsRow, standIns := [], harness := (true, "baf467d9780a7977c94d04b9a5c273d6afd5d529a2af35d0f542c96eb3b9e135"), looks := true }, kinds := [], alts := [], laidByText := true, laidKinds := [.data, .sentinel, .sentinel, .sentinel, .sentinel, .sentinel, .sentinel, .sentinel, .sentinel, .sentinel, .sentinel, .sentinel, .sentinel, .sentinel, .sentinel, .sentinel, .sentinel, .sentinel, .sentinel, .sentinel, .pinned], laidTests := true, laidLooks := .later }
def AttrsJoinsCardSaid : Prop := Claim7.holds Tryd.pinned (.plain (OpenSpec.ofChange attrsJoinsSpec)) attrsJoinsCard

/-- THE TIED CARD OF 'vellumlaw03.AttrsOwns'. -/
def attrsOwnsCard : Claim7 := { stood := { row := attrsOwnsRow, standIns := [], harness := (true, "baf467d9780a7977c94d04b9a5c273d6afd5d529a2af35d0f542c96eb3b9e135"), looks := true }, kinds := [], alts := [], laidByText := true, laidKinds := [.data, .sentinel, .sentinel, .sentinel, .sentinel, .sentinel, .sentinel, .pinned], laidTests := true, laidLooks := .later }
def AttrsOwnsCardSaid : Prop := Claim7.holds Tryd.pinned (.plain (OpenSpec.ofChange attrsOwnsSpec)) attrsOwnsCard

/-- THE TIED CARD OF 'vellumlaw05.OpsPlays'. -/
def opsPlaysCard : Claim7 := { stood := { row := opsPlaysRow, standIns := [], harness := (true, "baf467d9780a7977c94d04b9a5c273d6afd5d529a2af35d0f542c96eb3b9e135"), looks := true }, kinds := [], alts := [], laidByText := true, laidKinds := [.data, .sentinel, .sentinel, .sentinel, .sentinel, .sentinel, .sentinel, .sentinel, .sentinel, .sentinel, .sentinel, .sentinel, .sentinel, .sentinel, .sentinel, .sentinel, .sentinel, .sentinel, .sentinel, .sentinel, .pinned], laidTests := true, laidLooks := .later }
def OpsPlaysCardSaid : Prop := Claim7.holds Tryd.pinned (.plain (OpenSpec.ofChange opsPlaysSpec)) opsPlaysCard

/-- THE TIED CARD OF 'vellumlaw05.OpsPieces'. -/
def opsPiecesCard : Claim7 := { stood := { row := opsPiecesRow, standIns := [], harness := (true, "baf467d9780a7977c94d04b9a5c273d6afd5d529a2af35d0f542c96eb3b9e135"), looks := true }, kinds := [], alts := [], laidByText := true, laidKinds := [.data, .sentinel, .sentinel, .sentinel, .sentinel, .sentinel, .sentinel, .sentinel, .sentinel, .sentinel, .sentinel, .sentinel, .sentinel, .sentinel, .sentinel, .sentinel, .sentinel, .sentinel, .sentinel, .sentinel, .pinned], laidTests := true, laidLooks := .later }
def OpsPiecesCardSaid : Prop := Claim7.holds Tryd.pinned (.plain (OpenSpec.ofChange opsPiecesSpec)) opsPiecesCard

/-- THE TIED CARD OF 'vellumlaw05.OpsTypes'. -/
def opsTypesCard : Claim7 := { stood := { row := opsTypesRow, standIns := [], harness := (true, "baf467d9780a7977c94d04b9a5c273d6afd5d529a2af35d0f542c96eb3b9e135"), looks := true }, kinds := [], alts := [], laidByText := true, laidKinds := [.data, .sentinel, .sentinel, .sentinel, .sentinel, .sentinel, .sentinel, .sentinel, .sentinel, .pinned], laidTests := true, laidLooks := .later }
def OpsTypesCardSaid : Prop := Claim7.holds Tryd.pinned (.plain (OpenSpec.ofChange opsTypesSpec)) opsTypesCard

/-- THE SECOND FORM's CARD OF 'vellumlaw03.AttrsAsks'. -/
def attrsAsksUptoCard : Claim7 := { stood := { row := attrsAsksUptoRow, standIns := [], harness := (true, "baf467d9780a7977c94d04b9a5c273d6afd5d529a2af35d0f542c96eb3b9e135"), looks := true }, kinds := [], alts := [], laidByText := true, laidKinds := [.data, .sentinel, .sentinel, .sentinel, .sentinel, .sentinel, .sentinel, .sentinel, .sentinel, .sentinel, .sentinel, .sentinel, .sentinel, .sentinel, .sentinel, .sentinel, .sentinel, .sentinel, .sentinel, .sentinel, .pinned], laidTests := true, laidLooks := .later }
def AttrsAsksUptoCardSaid : Prop := Claim7.holds Tryd.pinned (.plain (OpenSpec.upto attrsAsksSpec)) attrsAsksUptoCard

/-- THE SECOND FORM's CARD OF 'vellumlaw03.AttrsJoins'. -/
def attrsJoinsUptoCard : Claim7 := { stood := { row := attrsJoinsUptoRow, standIns := [], harness := (true, "baf467d9780a7977c94d04b9a5c273d6afd5d529a2af35d0f542c96eb3b9e135"), looks := true }, kinds := [], alts := [], laidByText := true, laidKinds := [.data, .sentinel, .sentinel, .sentinel, .sentinel, .sentinel, .sentinel, .sentinel, .sentinel, .sentinel, .sentinel, .sentinel, .sentinel, .sentinel, .sentinel, .sentinel, .sentinel, .sentinel, .sentinel, .sentinel, .pinned], laidTests := true, laidLooks := .later }
def AttrsJoinsUptoCardSaid : Prop := Claim7.holds Tryd.pinned (.plain (OpenSpec.upto attrsJoinsSpec)) attrsJoinsUptoCard

/-- THE SECOND FORM's CARD OF 'vellumlaw03.AttrsOwns'. -/
def attrsOwnsUptoCard : Claim7 := { stood := { row := attrsOwnsUptoRow, standIns := [], harness := (true, "baf467d9780a7977c94d04b9a5c273d6afd5d529a2af35d0f542c96eb3b9e135"), looks := true }, kinds := [], alts := [], laidByText := true, laidKinds := [.data, .sentinel, .sentinel, .sentinel, .sentinel, .sentinel, .sentinel, .pinned], laidTests := true, laidLooks := .later }
def AttrsOwnsUptoCardSaid : Prop := Claim7.holds Tryd.pinned (.plain (OpenSpec.upto attrsOwnsSpec)) attrsOwnsUptoCard

/-- THE SECOND FORM's CARD OF 'vellumlaw05.OpsPlays'. -/
def opsPlaysUptoCard : Claim7 := { stood := { row := opsPlaysUptoRow, standIns := [], harness := (true, "baf467d9780a7977c94d04b9a5c273d6afd5d529a2af35d0f542c96eb3b9e135"), looks := true }, kinds := [], alts := [], laidByText := true, laidKinds := [.data, .sentinel, .sentinel, .sentinel, .sentinel, .sentinel, .sentinel, .sentinel, .sentinel, .sentinel, .sentinel, .sentinel, .sentinel, .sentinel, .sentinel, .sentinel, .sentinel, .sentinel, .sentinel, .sentinel, .pinned], laidTests := true, laidLooks := .later }
def OpsPlaysUptoCardSaid : Prop := Claim7.holds Tryd.pinned (.plain (OpenSpec.upto opsPlaysSpec)) opsPlaysUptoCard

/-- THE SECOND FORM's CARD OF 'vellumlaw05.OpsPieces'. -/
def opsPiecesUptoCard : Claim7 := { stood := { row := opsPiecesUptoRow, standIns := [], harness := (true, "baf467d9780a7977c94d04b9a5c273d6afd5d529a2af35d0f542c96eb3b9e135"), looks := true }, kinds := [], alts := [], laidByText := true, laidKinds := [.data, .sentinel, .sentinel, .sentinel, .sentinel, .sentinel, .sentinel, .sentinel, .sentinel, .sentinel, .sentinel, .sentinel, .sentinel, .sentinel, .sentinel, .sentinel, .sentinel, .sentinel, .sentinel, .sentinel, .pinned], laidTests := true, laidLooks := .later }
def OpsPiecesUptoCardSaid : Prop := Claim7.holds Tryd.pinned (.plain (OpenSpec.upto opsPiecesSpec)) opsPiecesUptoCard

/-- THE SECOND FORM's CARD OF 'vellumlaw05.OpsTypes'. -/
def opsTypesUptoCard : Claim7 := { stood := { row := opsTypesUptoRow, standIns := [], harness := (true, "baf467d9780a7977c94d04b9a5c273d6afd5d529a2af35d0f542c96eb3b9e135"), looks := true }, kinds := [], alts := [], laidByText := true, laidKinds := [.data, .sentinel, .sentinel, .sentinel, .sentinel, .sentinel, .sentinel, .sentinel, .sentinel, .pinned], laidTests := true, laidLooks := .later }
def OpsTypesUptoCardSaid : Prop := Claim7.holds Tryd.pinned (.plain (OpenSpec.upto opsTypesSpec)) opsTypesUptoCard
end Rows
end Go.Proofs.YtkgflmbhkbeakaaDoor
