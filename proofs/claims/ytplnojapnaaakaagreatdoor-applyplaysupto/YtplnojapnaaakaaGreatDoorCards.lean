/-
  DERIVED. GIVEN WITH THE SEED: THE CARDS: each row of YtplnojapnaaakaaGreatDoorRows.lean that lists a variable, with what it lists TIED to the program's text (the seventh form; the later family's looks); each row that meets fmt, with fmt's text TOLD by the authors' own Lean function (tested against real Go, not proved from fmt's source: count such statements apart). THE CARD IS WHAT COUNTS. Prove the row's statement (the work); the ties are given (YtplnojapnaaakaaGreatDoorTie.lean); close each card by the builder's one call (the guide's Derived/Test/ToyasCard.lean, 'card_holds'). Laid BY PROGRAM, IN A SANDBOX (cutbox-door.mjs). By AI agents, Wed Nov 11 2026. No macro, syntax, notation, axiom, sorry.
-/
import Derived.Test.YtplnojapnaaakaaGreatDoorRows
import GoSem.ClaimSeven
namespace Go.Proofs.YtplnojapnaaakaaGreatDoor
namespace Rows

/-- THE TIED CARD OF 'vellumlaw06.BuildPlays'. -/
def buildPlaysCard : Claim7 := { stood := { row := buildPlaysRow, standIns := [], harness := (true, "7974c1038e11bbc928635e2e77e5fa4f2382f769f1de65f663acbc8d5f108e63"), looks := true }, kinds := [], alts := [], laidByText := true, laidKinds := [.data, .sentinel, .sentinel, .sentinel, .sentinel, .sentinel, .sentinel, .sentinel, .sentinel, .sentinel, .sentinel, .sentinel, .sentinel, .sentinel, .sentinel, .sentinel, .sentinel, .sentinel, .sentinel, .sentinel, .pinned], laidTests := true, laidLooks := .later }
def BuildPlaysCardSaid : Prop := Claim7.holds Tryz.pinned (.plain (OpenSpec.ofChange buildPlaysSpec)) buildPlaysCard

/-- THE TIED CARD OF 'vellumlaw07.WalkSteps'. -/
def walkStepsCard : Claim7 := { stood := { row := walkStepsRow, standIns := [], harness := (true, "7974c1038e11bbc928635e2e77e5fa4f2382f769f1de65f663acbc8d5f108e63"), looks := true }, kinds := [], alts := [], laidByText := true, laidKinds := [.data, .sentinel, .sentinel, .sentinel, .sentinel, .sentinel, .sentinel, .sentinel, .sentinel, .sentinel, .pinned], laidTests := true, laidLooks := .later }
def WalkStepsCardSaid : Prop := Claim7.holds Tryz.pinned (.plain (OpenSpec.ofChange walkStepsSpec)) walkStepsCard

/-- THE TIED CARD OF 'vellumlaw07.WalkBack'. -/
def walkBackCard : Claim7 := { stood := { row := walkBackRow, standIns := [], harness := (true, "7974c1038e11bbc928635e2e77e5fa4f2382f769f1de65f663acbc8d5f108e63"), looks := true }, kinds := [], alts := [], laidByText := true, laidKinds := [.data, .sentinel, .sentinel, .sentinel, .sentinel, .sentinel, .sentinel, .sentinel, .sentinel, .sentinel, .pinned], laidTests := true, laidLooks := .later }
def WalkBackCardSaid : Prop := Claim7.holds Tryz.pinned (.plain (OpenSpec.ofChange walkBackSpec)) walkBackCard

/-- THE TIED CARD OF 'vellumlaw07.WalkSides'. -/
def walkSidesCard : Claim7 := { stood := { row := walkSidesRow, standIns := [], harness := (true, "7974c1038e11bbc928635e2e77e5fa4f2382f769f1de65f663acbc8d5f108e63"), looks := true }, kinds := [], alts := [], laidByText := true, laidKinds := [.data, .sentinel, .sentinel, .sentinel, .sentinel, .sentinel, .sentinel, .sentinel, .sentinel, .sentinel, .pinned], laidTests := true, laidLooks := .later }
def WalkSidesCardSaid : Prop := Claim7.holds Tryz.pinned (.plain (OpenSpec.ofChange walkSidesSpec)) walkSidesCard

/-- THE TIED CARD OF 'vellumlaw10.ApplyPlays'. -/
def applyPlaysCard : Claim7 := { stood := { row := applyPlaysRow, standIns := [], harness := (true, "7974c1038e11bbc928635e2e77e5fa4f2382f769f1de65f663acbc8d5f108e63"), looks := true }, kinds := [], alts := [], laidByText := true, laidKinds := [.data, .sentinel, .sentinel, .sentinel, .sentinel, .sentinel, .sentinel, .sentinel, .sentinel, .sentinel, .sentinel, .sentinel, .sentinel, .sentinel, .sentinel, .sentinel, .sentinel, .sentinel, .sentinel, .sentinel, .pinned], laidTests := true, laidLooks := .later }
def ApplyPlaysCardSaid : Prop := Claim7.holds Tryz.pinned (.plain (OpenSpec.ofChange applyPlaysSpec)) applyPlaysCard

/-- THE SECOND FORM's CARD OF 'vellumlaw06.BuildPlays'. -/
def buildPlaysUptoCard : Claim7 := { stood := { row := buildPlaysUptoRow, standIns := [], harness := (true, "7974c1038e11bbc928635e2e77e5fa4f2382f769f1de65f663acbc8d5f108e63"), looks := true }, kinds := [], alts := [], laidByText := true, laidKinds := [.data, .sentinel, .sentinel, .sentinel, .sentinel, .sentinel, .sentinel, .sentinel, .sentinel, .sentinel, .sentinel, .sentinel, .sentinel, .sentinel, .sentinel, .sentinel, .sentinel, .sentinel, .sentinel, .sentinel, .pinned], laidTests := true, laidLooks := .later }
def BuildPlaysUptoCardSaid : Prop := Claim7.holds Tryz.pinned (.plain (OpenSpec.upto buildPlaysSpec)) buildPlaysUptoCard

/-- THE SECOND FORM's CARD OF 'vellumlaw07.WalkSteps'. -/
def walkStepsUptoCard : Claim7 := { stood := { row := walkStepsUptoRow, standIns := [], harness := (true, "7974c1038e11bbc928635e2e77e5fa4f2382f769f1de65f663acbc8d5f108e63"), looks := true }, kinds := [], alts := [], laidByText := true, laidKinds := [.data, .sentinel, .sentinel, .sentinel, .sentinel, .sentinel, .sentinel, .sentinel, .sentinel, .sentinel, .pinned], laidTests := true, laidLooks := .later }
def WalkStepsUptoCardSaid : Prop := Claim7.holds Tryz.pinned (.plain (OpenSpec.upto walkStepsSpec)) walkStepsUptoCard

/-- THE SECOND FORM's CARD OF 'vellumlaw07.WalkBack'. -/
def walkBackUptoCard : Claim7 := { stood := { row := walkBackUptoRow, standIns := [], harness := (true, "7974c1038e11bbc928635e2e77e5fa4f2382f769f1de65f663acbc8d5f108e63"), looks := true }, kinds := [], alts := [], laidByText := true, laidKinds := [.data, .sentinel, .sentinel, .sentinel, .sentinel, .sentinel, .sentinel, .sentinel, .sentinel, .sentinel, .pinned], laidTests := true, laidLooks := .later }
def WalkBackUptoCardSaid : Prop := Claim7.holds Tryz.pinned (.plain (OpenSpec.upto walkBackSpec)) walkBackUptoCard

/-- THE SECOND FORM's CARD OF 'vellumlaw07.WalkSides'. -/
def walkSidesUptoCard : Claim7 := { stood := { row := walkSidesUptoRow, standIns := [], harness := (true, "7974c1038e11bbc928635e2e77e5fa4f2382f769f1de65f663acbc8d5f108e63"), looks := true }, kinds := [], alts := [], laidByText := true, laidKinds := [.data, .sentinel, .sentinel, .sentinel, .sentinel, .sentinel, .sentinel, .sentinel, .sentinel, .sentinel, .pinned], laidTests := true, laidLooks := .later }
def WalkSidesUptoCardSaid : Prop := Claim7.holds Tryz.pinned (.plain (OpenSpec.upto walkSidesSpec)) walkSidesUptoCard

/-- THE SECOND FORM's CARD OF 'vellumlaw10.ApplyPlays'. -/
def applyPlaysUptoCard : Claim7 := { stood := { row := applyPlaysUptoRow, standIns := [], harness := (true, "7974c1038e11bbc928635e2e77e5fa4f2382f769f1de65f663acbc8d5f108e63"), looks := true }, kinds := [], alts := [], laidByText := true, laidKinds := [.data, .sentinel, .sentinel, .sentinel, .sentinel, .sentinel, .sentinel, .sentinel, .sentinel, .sentinel, .sentinel, .sentinel, .sentinel, .sentinel, .sentinel, .sentinel, .sentinel, .sentinel, .sentinel, .sentinel, .pinned], laidTests := true, laidLooks := .later }
def ApplyPlaysUptoCardSaid : Prop := Claim7.holds Tryz.pinned (.plain (OpenSpec.upto applyPlaysSpec)) applyPlaysUptoCard
end Rows
end Go.Proofs.YtplnojapnaaakaaGreatDoor
