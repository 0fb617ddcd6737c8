/-
  DERIVED. GIVEN WITH THE SEED: THE CARDS: each row of YtkgflmbhkbeakabDoorRows.lean that lists a variable, with what it lists TIED to the program's text (the seventh form; the later family's looks); each row that meets fmt, with fmt's text TOLD by the authors' own Lean function (tested against real Go, not proved from fmt's source: count such statements apart). THE CARD IS WHAT COUNTS. Prove the row's statement (the work); the ties are given (YtkgflmbhkbeakabDoorTie.lean); close each card by the builder's one call (the guide's Derived/Test/ToyasCard.lean, 'card_holds'). Laid BY PROGRAM, IN A SANDBOX (cutbox-door.mjs). By AI agents, Wed Nov 11 2026. No macro, syntax, notation, axiom, sorry.
-/
import Derived.Test.YtkgflmbhkbeakabDoorRows
import GoSem.ClaimSeven
namespace Go.Proofs.YtkgflmbhkbeakabDoor
namespace Rows

/-- THE TIED CARD OF 'vellumlaw05.OpsSums'. -/
def opsSumsCard : Claim7 := { stood := { row := opsSumsRow, standIns := [], harness := (true, "e379e6a94489d6209e9bc2eb594127b6abf94fdb819532e10ea880baa80a2d0f"), looks := true }, kinds := [], alts := [], laidByText := true, laidKinds := [.data, .sentinel, .sentinel, .sentinel, .sentinel, .sentinel, .sentinel, .sentinel, .sentinel, .sentinel, .sentinel, .sentinel, .sentinel, .sentinel, .sentinel, .sentinel, .sentinel, .sentinel, .sentinel, .sentinel, .pinned], laidTests := true, laidLooks := .later }
def OpsSumsCardSaid : Prop := Claim7.holds Tryd.pinned (.plain (OpenSpec.ofChange opsSumsSpec)) opsSumsCard

/-- THE TIED CARD OF 'vellumlaw05.OpsBeginnings'. -/
def opsBeginningsCard : Claim7 := { stood := { row := opsBeginningsRow, standIns := [], harness := (true, "e379e6a94489d6209e9bc2eb594127b6abf94fdb819532e10ea880baa80a2d0f"), looks := true }, kinds := [], alts := [], laidByText := true, laidKinds := [.data, .sentinel, .sentinel, .sentinel, .sentinel, .sentinel, .sentinel, .sentinel, .sentinel, .pinned], laidTests := true, laidLooks := .later }
def OpsBeginningsCardSaid : Prop := Claim7.holds Tryd.pinned (.plain (OpenSpec.ofChange opsBeginningsSpec)) opsBeginningsCard

/-- THE TIED CARD OF 'vellumlaw05.OpsMemory'. -/
def opsMemoryCard : Claim7 := { stood := { row := opsMemoryRow, standIns := [], harness := (true, "e379e6a94489d6209e9bc2eb594127b6abf94fdb819532e10ea880baa80a2d0f"), looks := true }, kinds := [], alts := [], laidByText := true, laidKinds := [.data, .sentinel, .sentinel, .sentinel, .sentinel, .sentinel, .sentinel, .sentinel, .sentinel, .sentinel, .sentinel, .sentinel, .sentinel, .sentinel, .sentinel, .sentinel, .sentinel, .sentinel, .sentinel, .sentinel, .pinned], laidTests := true, laidLooks := .later }
def OpsMemoryCardSaid : Prop := Claim7.holds Tryd.pinned (.plain (OpenSpec.ofChange opsMemorySpec)) opsMemoryCard

/-- THE SECOND FORM's CARD OF 'vellumlaw05.OpsSums'. -/
def opsSumsUptoCard : Claim7 := { stood := { row := opsSumsUptoRow, standIns := [], harness := (true, "e379e6a94489d6209e9bc2eb594127b6abf94fdb819532e10ea880baa80a2d0f"), looks := true }, kinds := [], alts := [], laidByText := true, laidKinds := [.data, .sentinel, .sentinel, .sentinel, .sentinel, .sentinel, .sentinel, .sentinel, .sentinel, .sentinel, .sentinel, .sentinel, .sentinel, .sentinel, .sentinel, .sentinel, .sentinel, .sentinel, .sentinel, .sentinel, .pinned], laidTests := true, laidLooks := .later }
def OpsSumsUptoCardSaid : Prop := Claim7.holds Tryd.pinned (.plain (OpenSpec.upto opsSumsSpec)) opsSumsUptoCard

/-- THE SECOND FORM's CARD OF 'vellumlaw05.OpsBeginnings'. -/
def opsBeginningsUptoCard : Claim7 := { stood := { row := opsBeginningsUptoRow, standIns := [], harness := (true, "e379e6a94489d6209e9bc2eb594127b6abf94fdb819532e10ea880baa80a2d0f"), looks := true }, kinds := [], alts := [], laidByText := true, laidKinds := [.data, .sentinel, .sentinel, .sentinel, .sentinel, .sentinel, .sentinel, .sentinel, .sentinel, .pinned], laidTests := true, laidLooks := .later }
def OpsBeginningsUptoCardSaid : Prop := Claim7.holds Tryd.pinned (.plain (OpenSpec.upto opsBeginningsSpec)) opsBeginningsUptoCard

/-- THE SECOND FORM's CARD OF 'vellumlaw05.OpsMemory'. -/
def opsMemoryUptoCard : Claim7 := { stood := { row := opsMemoryUptoRow, standIns := [], harness := (true, "e379e6a94489d6209e9bc2eb594127b6abf94fdb819532e10ea880baa80a2d0f"), looks := true }, kinds := [], alts := [], laidByText := true, laidKinds := [.data, .sentinel, .sentinel, .sentinel, .sentinel, .sentinel, .sentinel, .sentinel, .sentinel, .sentinel, .sentinel, .sentinel, .sentinel, .sentinel, .sentinel, .sentinel, .sentinel, .sentinel, .sentinel, .sentinel, .pinned], laidTests := true, laidLooks := .later }
def OpsMemoryUptoCardSaid : Prop := Claim7.holds Tryd.pinned (.plain (OpenSpec.upto opsMemorySpec)) opsMemoryUptoCard
end Rows
end Go.Proofs.YtkgflmbhkbeakabDoor
