/-
  DERIVED. GIVEN WITH THE SEED: THE CARDS: each row of YtecmdlecfddeeaaDoorRows.lean that lists a variable, with what it lists TIED to the program's text (the seventh form; the later family's looks); each row that meets fmt, with fmt's text TOLD by the authors' own Lean function (tested against real Go, not proved from fmt's source: count such statements apart). THE CARD IS WHAT COUNTS. Prove the row's statement (the work); the ties are given (YtecmdlecfddeeaaDoorTie.lean); close each card by the builder's one call (the guide's Derived/Test/ToyasCard.lean, 'card_holds'). Laid BY PROGRAM, IN A SANDBOX (cutbox-door.mjs). By AI agents, Wed Nov 11 2026. No macro, syntax, notation, axiom, sorry.
-/
import Derived.Test.YtecmdlecfddeeaaDoorRows
import GoSem.ClaimSeven
namespace Go.Proofs.YtecmdlecfddeeaaDoor
namespace Rows

/-- THE TIED CARD OF 'vellumlaw04.ContentAsks'. -/
def contentAsksCard : Claim7 := { stood := { row := contentAsksRow, standIns := [], harness := (true, "695ed22f8bbc27fc407e36510cdd28203d186214aae387cf330228ba91545db9"), looks := true }, kinds := [], alts := [], laidByText := true, laidKinds := [.data, .sentinel, .sentinel, .sentinel, .sentinel, .sentinel, .sentinel, .sentinel, .sentinel, .sentinel, .sentinel, .sentinel, .sentinel, .sentinel, .sentinel, .sentinel, .sentinel, .sentinel, .sentinel, .sentinel, .pinned], laidTests := true, laidLooks := .later }
def ContentAsksCardSaid : Prop := Claim7.holds Tryd.pinned (.plain (OpenSpec.ofChange contentAsksSpec)) contentAsksCard

/-- THE TIED CARD OF 'vellumlaw04.ContentCuts'. -/
def contentCutsCard : Claim7 := { stood := { row := contentCutsRow, standIns := [], harness := (true, "695ed22f8bbc27fc407e36510cdd28203d186214aae387cf330228ba91545db9"), looks := true }, kinds := [], alts := [], laidByText := true, laidKinds := [.data, .sentinel, .sentinel, .sentinel, .sentinel, .sentinel, .sentinel, .sentinel, .sentinel, .sentinel, .sentinel, .sentinel, .sentinel, .sentinel, .sentinel, .sentinel, .sentinel, .sentinel, .sentinel, .sentinel, .pinned], laidTests := true, laidLooks := .later }
def ContentCutsCardSaid : Prop := Claim7.holds Tryd.pinned (.plain (OpenSpec.ofChange contentCutsSpec)) contentCutsCard

/-- THE TIED CARD OF 'vellumlaw04.ContentJoins'. -/
def contentJoinsCard : Claim7 := { stood := { row := contentJoinsRow, standIns := [], harness := (true, "695ed22f8bbc27fc407e36510cdd28203d186214aae387cf330228ba91545db9"), looks := true }, kinds := [], alts := [], laidByText := true, laidKinds := [.data, .sentinel, .sentinel, .sentinel, .sentinel, .sentinel, .sentinel, .sentinel, .sentinel, .sentinel, .sentinel, .sentinel, .sentinel, .sentinel, .sentinel, .sentinel, .sentinel, .sentinel, .sentinel, .sentinel, .pinned], laidTests := true, laidLooks := .later }
def ContentJoinsCardSaid : Prop := Claim7.holds Tryd.pinned (.plain (OpenSpec.ofChange contentJoinsSpec)) contentJoinsCard

/-- THE TIED CARD OF 'vellumlaw04.ContentBack'. -/
def contentBackCard : Claim7 := { stood := { row := contentBackRow, standIns := [], harness := (true, "695ed22f8bbc27fc407e36510cdd28203d186214aae387cf330228ba91545db9"), looks := true }, kinds := [], alts := [], laidByText := true, laidKinds := [.data, .sentinel, .sentinel, .sentinel, .sentinel, .sentinel, .sentinel, .sentinel, .sentinel, .pinned], laidTests := true, laidLooks := .later }
def ContentBackCardSaid : Prop := Claim7.holds Tryd.pinned (.plain (OpenSpec.ofChange contentBackSpec)) contentBackCard

/-- THE TIED CARD OF 'vellumlaw04.ContentThree'. -/
def contentThreeCard : Claim7 := { stood := { row := contentThreeRow, standIns := [], harness := (true, "695ed22f8bbc27fc407e36510cdd28203d186214aae387cf330228ba91545db9"), looks := true }, kinds := [], alts := [], laidByText := true, laidKinds := [.data, .sentinel, .sentinel, .sentinel, .sentinel, .sentinel, .sentinel, .sentinel, .sentinel, .pinned], laidTests := true, laidLooks := .later }
def ContentThreeCardSaid : Prop := Claim7.holds Tryd.pinned (.plain (OpenSpec.ofChange contentThreeSpec)) contentThreeCard

/-- THE TIED CARD OF 'vellumlaw04.ContentPieces'. -/
def contentPiecesCard : Claim7 := { stood := { row := contentPiecesRow, standIns := [], harness := (true, "695ed22f8bbc27fc407e36510cdd28203d186214aae387cf330228ba91545db9"), looks := true }, kinds := [], alts := [], laidByText := true, laidKinds := [.data, .sentinel, .sentinel, .sentinel, .sentinel, .sentinel, .sentinel, .sentinel, .sentinel, .pinned], laidTests := true, laidLooks := .later }
def ContentPiecesCardSaid : Prop := Claim7.holds Tryd.pinned (.plain (OpenSpec.ofChange contentPiecesSpec)) contentPiecesCard

/-- THE SECOND FORM's CARD OF 'vellumlaw04.ContentAsks'. -/
def contentAsksUptoCard : Claim7 := { stood := { row := contentAsksUptoRow, standIns := [], harness := (true, "695ed22f8bbc27fc407e36510cdd28203d186214aae387cf330228ba91545db9"), looks := true }, kinds := [], alts := [], laidByText := true, laidKinds := [.data, .sentinel, .sentinel, .sentinel, .sentinel, .sentinel, .sentinel, .sentinel, .sentinel, .sentinel, .sentinel, .sentinel, .sentinel, .sentinel, .sentinel, .sentinel, .sentinel, .sentinel, .sentinel, .sentinel, .pinned], laidTests := true, laidLooks := .later }
def ContentAsksUptoCardSaid : Prop := Claim7.holds Tryd.pinned (.plain (OpenSpec.upto contentAsksSpec)) contentAsksUptoCard

/-- THE SECOND FORM's CARD OF 'vellumlaw04.ContentCuts'. -/
def contentCutsUptoCard : Claim7 := { stood := { row := contentCutsUptoRow, standIns := [], harness := (true, "695ed22f8bbc27fc407e36510cdd28203d186214aae387cf330228ba91545db9"), looks := true }, kinds := [], alts := [], laidByText := true, laidKinds := [.data, .sentinel, .sentinel, .sentinel, .sentinel, .sentinel, .sentinel, .sentinel, .sentinel, .sentinel, .sentinel, .sentinel, .sentinel, .sentinel, .sentinel, .sentinel, .sentinel, .sentinel, .sentinel, .sentinel, .pinned], laidTests := true, laidLooks := .later }
def ContentCutsUptoCardSaid : Prop := Claim7.holds Tryd.pinned (.plain (OpenSpec.upto contentCutsSpec)) contentCutsUptoCard

/-- THE SECOND FORM's CARD OF 'vellumlaw04.ContentJoins'. -/
def contentJoinsUptoCard : Claim7 := { stood := { row := contentJoinsUptoRow, standIns := [], harness := (true, "695ed22f8bbc27fc407e36510cdd28203d186214aae387cf330228ba91545db9"), looks := true }, kinds := [], alts := [], laidByText := true, laidKinds := [.data, .sentinel, .sentinel, .sentinel, .sentinel, .sentinel, .sentinel, .sentinel, .sentinel, .sentinel, .sentinel, .sentinel, .sentinel, .sentinel, .sentinel, .sentinel, .sentinel, .sentinel, .sentinel, .sentinel, .pinned], laidTests := true, laidLooks := .later }
def ContentJoinsUptoCardSaid : Prop := Claim7.holds Tryd.pinned (.plain (OpenSpec.upto contentJoinsSpec)) contentJoinsUptoCard

/-- THE SECOND FORM's CARD OF 'vellumlaw04.ContentBack'. -/
def contentBackUptoCard : Claim7 := { stood := { row := contentBackUptoRow, standIns := [], harness := (true, "695ed22f8bbc27fc407e36510cdd28203d186214aae387cf330228ba91545db9"), looks := true }, kinds := [], alts := [], laidByText := true, laidKinds := [.data, .sentinel, .sentinel, .sentinel, .sentinel, .sentinel, .sentinel, .sentinel, .sentinel, .pinned], laidTests := true, laidLooks := .later }
def ContentBackUptoCardSaid : Prop := Claim7.holds Tryd.pinned (.plain (OpenSpec.upto contentBackSpec)) contentBackUptoCard

/-- THE SECOND FORM's CARD OF 'vellumlaw04.ContentThree'. -/
def contentThreeUptoCard : Claim7 := { stood := { row := contentThreeUptoRow, standIns := [], harness := (true, "695ed22f8bbc27fc407e36510cdd28203d186214aae387cf330228ba91545db9"), looks := true }, kinds := [], alts := [], laidByText := true, laidKinds := [.data, .sentinel, .sentinel, .sentinel, .sentinel, .sentinel, .sentinel, .sentinel, .sentinel, .pinned], laidTests := true, laidLooks := .later }
def ContentThreeUptoCardSaid : Prop := Claim7.holds Tryd.pinned (.plain (OpenSpec.upto contentThreeSpec)) contentThreeUptoCard

/-- THE SECOND FORM's CARD OF 'vellumlaw04.ContentPieces'. -/
def contentPiecesUptoCard : Claim7 := { stood := { row := contentPiecesUptoRow, standIns := [], harness := (true, "695ed22f8bbc27fc407e36510cdd28203d186214aae387cf330228ba91545db9"), looks := true }, kinds := [], alts := [], laidByText := true, laidKinds := [.data, .sentinel, .sentinel, .sentinel, .sentinel, .sentinel, .sentinel, .sentinel, .sentinel, .pinned], laidTests := true, laidLooks := .later }
def ContentPiecesUptoCardSaid : Prop := Claim7.holds Tryd.pinned (.plain (OpenSpec.upto contentPiecesSpec)) contentPiecesUptoCard
end Rows
end Go.Proofs.YtecmdlecfddeeaaDoor
