/-
  DERIVED. GIVEN WITH THE SEED: THE CARDS: each row of YtgimcloadjjefabGreatDoorRows.lean that lists a variable, with what it lists TIED to the program's text (the seventh form; the later family's looks); each row that meets fmt, with fmt's text TOLD by the authors' own Lean function (tested against real Go, not proved from fmt's source: count such statements apart). THE CARD IS WHAT COUNTS. Prove the row's statement (the work); the ties are given (YtgimcloadjjefabGreatDoorTie.lean); close each card by the builder's one call (the guide's Derived/Test/ToyasCard.lean, 'card_holds'). Laid BY PROGRAM, IN A SANDBOX (cutbox-door.mjs). By AI agents, Wed Nov 11 2026. No macro, syntax, notation, axiom, sorry.
-/
import Derived.Test.YtgimcloadjjefabGreatDoorRows
import GoSem.ClaimSeven
namespace Go.Proofs.YtgimcloadjjefabGreatDoor
namespace Rows

/-- THE TIED CARD OF 'vellumlaw08.MeasureSums'. -/
def measureSumsCard : Claim7 := { stood := { row := measureSumsRow, standIns := [], harness := (true, "7d48b19bae6d62610f230d57088837d5d30b6d79bab5099fd0e4ea2caa05c6fa"), looks := true }, kinds := [], alts := [], laidByText := true, laidKinds := [.data, .sentinel, .sentinel, .sentinel, .sentinel, .sentinel, .sentinel, .sentinel, .sentinel, .sentinel, .pinned], laidTests := true, laidLooks := .later }
def MeasureSumsCardSaid : Prop := Claim7.holds Tryz.pinned (.plain (OpenSpec.ofChange measureSumsSpec)) measureSumsCard

/-- THE TIED CARD OF 'vellumlaw08.MeasureCuts'. -/
def measureCutsCard : Claim7 := { stood := { row := measureCutsRow, standIns := [], harness := (true, "7d48b19bae6d62610f230d57088837d5d30b6d79bab5099fd0e4ea2caa05c6fa"), looks := true }, kinds := [], alts := [], laidByText := true, laidKinds := [.data, .sentinel, .sentinel, .sentinel, .sentinel, .sentinel, .sentinel, .sentinel, .sentinel, .sentinel, .pinned], laidTests := true, laidLooks := .later }
def MeasureCutsCardSaid : Prop := Claim7.holds Tryz.pinned (.plain (OpenSpec.ofChange measureCutsSpec)) measureCutsCard

/-- THE TIED CARD OF 'vellumlaw08.MeasureJoins'. -/
def measureJoinsCard : Claim7 := { stood := { row := measureJoinsRow, standIns := [], harness := (true, "7d48b19bae6d62610f230d57088837d5d30b6d79bab5099fd0e4ea2caa05c6fa"), looks := true }, kinds := [], alts := [], laidByText := true, laidKinds := [.data, .sentinel, .sentinel, .sentinel, .sentinel, .sentinel, .sentinel, .sentinel, .sentinel, .sentinel, .sentinel, .sentinel, .sentinel, .sentinel, .sentinel, .sentinel, .sentinel, .sentinel, .sentinel, .sentinel, .pinned], laidTests := true, laidLooks := .later }
def MeasureJoinsCardSaid : Prop := Claim7.holds Tryz.pinned (.plain (OpenSpec.ofChange measureJoinsSpec)) measureJoinsCard

/-- THE TIED CARD OF 'vellumlaw08.MeasureShifts'. -/
def measureShiftsCard : Claim7 := { stood := { row := measureShiftsRow, standIns := [], harness := (true, "7d48b19bae6d62610f230d57088837d5d30b6d79bab5099fd0e4ea2caa05c6fa"), looks := true }, kinds := [], alts := [], laidByText := true, laidKinds := [.data, .sentinel, .sentinel, .sentinel, .sentinel, .sentinel, .sentinel, .sentinel, .sentinel, .sentinel, .sentinel, .sentinel, .sentinel, .sentinel, .sentinel, .sentinel, .sentinel, .sentinel, .sentinel, .sentinel, .pinned], laidTests := true, laidLooks := .later }
def MeasureShiftsCardSaid : Prop := Claim7.holds Tryz.pinned (.plain (OpenSpec.ofChange measureShiftsSpec)) measureShiftsCard

/-- THE SECOND FORM's CARD OF 'vellumlaw08.MeasureSums'. -/
def measureSumsUptoCard : Claim7 := { stood := { row := measureSumsUptoRow, standIns := [], harness := (true, "7d48b19bae6d62610f230d57088837d5d30b6d79bab5099fd0e4ea2caa05c6fa"), looks := true }, kinds := [], alts := [], laidByText := true, laidKinds := [.data, .sentinel, .sentinel, .sentinel, .sentinel, .sentinel, .sentinel, .sentinel, .sentinel, .sentinel, .pinned], laidTests := true, laidLooks := .later }
def MeasureSumsUptoCardSaid : Prop := Claim7.holds Tryz.pinned (.plain (OpenSpec.upto measureSumsSpec)) measureSumsUptoCard

/-- THE SECOND FORM's CARD OF 'vellumlaw08.MeasureCuts'. -/
def measureCutsUptoCard : Claim7 := { stood := { row := measureCutsUptoRow, standIns := [], harness := (true, "7d48b19bae6d62610f230d57088837d5d30b6d79bab5099fd0e4ea2caa05c6fa"), looks := true }, kinds := [], alts := [], laidByText := true, laidKinds := [.data, .sentinel, .sentinel, .sentinel, .sentinel, .sentinel, .sentinel, .sentinel, .sentinel, .sentinel, .pinned], laidTests := true, laidLooks := .later }
def MeasureCutsUptoCardSaid : Prop := Claim7.holds Tryz.pinned (.plain (OpenSpec.upto measureCutsSpec)) measureCutsUptoCard

/-- THE SECOND FORM's CARD OF 'vellumlaw08.MeasureJoins'. -/
def measureJoinsUptoCard : Claim7 := { stood := { row := measureJoinsUptoRow, standIns := [], harness := (true, "7d48b19bae6d62610f230d57088837d5d30b6d79bab5099fd0e4ea2caa05c6fa"), looks := true }, kinds := [], alts := [], laidByText := true, laidKinds := [.data, .sentinel, .sentinel, .sentinel, .sentinel, .sentinel, .sentinel, .sentinel, .sentinel, .sentinel, .sentinel, .sentinel, .sentinel, .sentinel, .sentinel, .sentinel, .sentinel, .sentinel, .sentinel, .sentinel, .pinned], laidTests := true, laidLooks := .later }
def MeasureJoinsUptoCardSaid : Prop := Claim7.holds Tryz.pinned (.plain (OpenSpec.upto measureJoinsSpec)) measureJoinsUptoCard

/-- THE SECOND FORM's CARD OF 'vellumlaw08.MeasureShifts'. -/
def measureShiftsUptoCard : Claim7 := { stood := { row := measureShiftsUptoRow, standIns := [], harness := (true, "7d48b19bae6d62610f230d57088837d5d30b6d79bab5099fd0e4ea2caa05c6fa"), looks := true }, kinds := [], alts := [], laidByText := true, laidKinds := [.data, .sentinel, .sentinel, .sentinel, .sentinel, .sentinel, .sentinel, .sentinel, .sentinel, .sentinel, .sentinel, .sentinel, .sentinel, .sentinel, .sentinel, .sentinel, .sentinel, .sentinel, .sentinel, .sentinel, .pinned], laidTests := true, laidLooks := .later }
def MeasureShiftsUptoCardSaid : Prop := Claim7.holds Tryz.pinned (.plain (OpenSpec.upto measureShiftsSpec)) measureShiftsUptoCard
end Rows
end Go.Proofs.YtgimcloadjjefabGreatDoor
