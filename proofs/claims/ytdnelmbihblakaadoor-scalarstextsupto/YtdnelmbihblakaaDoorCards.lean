/-
  DERIVED. GIVEN WITH THE SEED: THE CARDS: each row of YtdnelmbihblakaaDoorRows.lean that lists a variable, with what it lists TIED to the program's text (the seventh form; the later family's looks); each row that meets fmt, with fmt's text TOLD by the authors' own Lean function (tested against real Go, not proved from fmt's source: count such statements apart). THE CARD IS WHAT COUNTS. Prove the row's statement (the work); the ties are given (YtdnelmbihblakaaDoorTie.lean); close each card by the builder's one call (the guide's Derived/Test/ToyasCard.lean, 'card_holds'). Laid BY PROGRAM, IN A SANDBOX (cutbox-door.mjs). By AI agents, Wed Nov 11 2026. No macro, syntax, notation, axiom, sorry.
-/
import Derived.Test.YtdnelmbihblakaaDoorRows
import GoSem.ClaimSeven
namespace Go.Proofs.YtdnelmbihblakaaDoor
namespace Rows

/-- THE TIED CARD OF 'vellumlaw01.ScalarsTexts'. -/
def scalarsTextsCard : Claim7 := { stood := { row := scalarsTextsRow, standIns := [], harness := (true, "f96136d80f8034eed32eeda507a0e36271aa059e9dd2cef3a1c8439bf75ca7a9"), looks := true }, kinds := [], alts := [], laidByText := true, laidKinds := [.data, .sentinel, .sentinel, .sentinel, .sentinel, .sentinel, .sentinel, .sentinel, .sentinel, .sentinel, .sentinel, .sentinel, .sentinel, .sentinel, .sentinel, .sentinel, .sentinel, .sentinel, .sentinel, .sentinel, .pinned], laidTests := true, laidLooks := .later }
def ScalarsTextsCardSaid : Prop := Claim7.holds Tryd.pinned (.plain (OpenSpec.ofChange scalarsTextsSpec)) scalarsTextsCard

/-- THE TIED CARD OF 'vellumlaw01.ScalarsPlaces'. -/
def scalarsPlacesCard : Claim7 := { stood := { row := scalarsPlacesRow, standIns := [], harness := (true, "f96136d80f8034eed32eeda507a0e36271aa059e9dd2cef3a1c8439bf75ca7a9"), looks := true }, kinds := [], alts := [], laidByText := true, laidKinds := [.data, .sentinel, .sentinel, .sentinel, .sentinel, .sentinel, .sentinel, .sentinel, .sentinel, .sentinel, .sentinel, .sentinel, .sentinel, .sentinel, .sentinel, .sentinel, .sentinel, .sentinel, .sentinel, .sentinel, .pinned], laidTests := true, laidLooks := .later }
def ScalarsPlacesCardSaid : Prop := Claim7.holds Tryd.pinned (.plain (OpenSpec.ofChange scalarsPlacesSpec)) scalarsPlacesCard

/-- THE TIED CARD OF 'vellumlaw01.ScalarsNumbers'. -/
def scalarsNumbersCard : Claim7 := { stood := { row := scalarsNumbersRow, standIns := [], harness := (true, "f96136d80f8034eed32eeda507a0e36271aa059e9dd2cef3a1c8439bf75ca7a9"), looks := true }, kinds := [], alts := [], laidByText := true, laidKinds := [.data, .sentinel, .sentinel, .sentinel, .sentinel, .sentinel, .sentinel, .sentinel, .sentinel, .sentinel, .sentinel, .sentinel, .sentinel, .sentinel, .sentinel, .sentinel, .sentinel, .sentinel, .sentinel, .sentinel, .pinned], laidTests := true, laidLooks := .later }
def ScalarsNumbersCardSaid : Prop := Claim7.holds Tryd.pinned (.plain (OpenSpec.ofChange scalarsNumbersSpec)) scalarsNumbersCard

/-- THE TIED CARD OF 'vellumlaw01.ScalarsBack'. -/
def scalarsBackCard : Claim7 := { stood := { row := scalarsBackRow, standIns := [], harness := (true, "f96136d80f8034eed32eeda507a0e36271aa059e9dd2cef3a1c8439bf75ca7a9"), looks := true }, kinds := [], alts := [], laidByText := true, laidKinds := [.data, .sentinel, .sentinel, .sentinel, .sentinel, .sentinel, .sentinel, .sentinel, .sentinel, .sentinel, .sentinel, .sentinel, .sentinel, .sentinel, .sentinel, .sentinel, .sentinel, .sentinel, .sentinel, .sentinel, .pinned], laidTests := true, laidLooks := .later }
def ScalarsBackCardSaid : Prop := Claim7.holds Tryd.pinned (.plain (OpenSpec.ofChange scalarsBackSpec)) scalarsBackCard

/-- THE TIED CARD OF 'vellumlaw01.ScalarsCuts'. -/
def scalarsCutsCard : Claim7 := { stood := { row := scalarsCutsRow, standIns := [], harness := (true, "f96136d80f8034eed32eeda507a0e36271aa059e9dd2cef3a1c8439bf75ca7a9"), looks := true }, kinds := [], alts := [], laidByText := true, laidKinds := [.data, .sentinel, .sentinel, .sentinel, .sentinel, .sentinel, .sentinel, .sentinel, .sentinel, .sentinel, .sentinel, .sentinel, .sentinel, .sentinel, .sentinel, .sentinel, .sentinel, .sentinel, .sentinel, .sentinel, .pinned], laidTests := true, laidLooks := .later }
def ScalarsCutsCardSaid : Prop := Claim7.holds Tryd.pinned (.plain (OpenSpec.ofChange scalarsCutsSpec)) scalarsCutsCard

/-- THE TIED CARD OF 'vellumlaw01.ScalarsJoined'. -/
def scalarsJoinedCard : Claim7 := { stood := { row := scalarsJoinedRow, standIns := [], harness := (true, "f96136d80f8034eed32eeda507a0e36271aa059e9dd2cef3a1c8439bf75ca7a9"), looks := true }, kinds := [], alts := [], laidByText := true, laidKinds := [.data, .sentinel, .sentinel, .sentinel, .sentinel, .sentinel, .sentinel, .sentinel, .sentinel, .sentinel, .sentinel, .sentinel, .sentinel, .sentinel, .sentinel, .sentinel, .sentinel, .sentinel, .sentinel, .sentinel, .pinned], laidTests := true, laidLooks := .later }
def ScalarsJoinedCardSaid : Prop := Claim7.holds Tryd.pinned (.plain (OpenSpec.ofChange scalarsJoinedSpec)) scalarsJoinedCard

/-- THE SECOND FORM's CARD OF 'vellumlaw01.ScalarsTexts'. -/
def scalarsTextsUptoCard : Claim7 := { stood := { row := scalarsTextsUptoRow, standIns := [], harness := (true, "f96136d80f8034eed32eeda507a0e36271aa059e9dd2cef3a1c8439bf75ca7a9"), looks := true }, kinds := [], alts := [], laidByText := true, laidKinds := [.data, .sentinel, .sentinel, .sentinel, .sentinel, .sentinel, .sentinel, .sentinel, .sentinel, .sentinel, .sentinel, .sentinel, .sentinel, .sentinel, .sentinel, .sentinel, .sentinel, .sentinel, .sentinel, .sentinel, .pinned], laidTests := true, laidLooks := .later }
def ScalarsTextsUptoCardSaid : Prop := Claim7.holds Tryd.pinned (.plain (OpenSpec.upto scalarsTextsSpec)) scalarsTextsUptoCard

/-- THE SECOND FORM's CARD OF 'vellumlaw01.ScalarsPlaces'. -/
def scalarsPlacesUptoCard : Claim7 := { stood := { row := scalarsPlacesUptoRow, standIns := [], harness := (true, "f96136d80f8034eed32eeda507a0e36271aa059e9dd2cef3a1c8439bf75ca7a9"), looks := true }, kinds := [], alts := [], laidByText := true, laidKinds := [.data, .sentinel, .sentinel, .sentinel, .sentinel, .sentinel, .sentinel, .sentinel, .sentinel, .sentinel, .sentinel, .sentinel, .sentinel, .sentinel, .sentinel, .sentinel, .sentinel, .sentinel, .sentinel, .sentinel, .pinned], laidTests := true, laidLooks := .later }
def ScalarsPlacesUptoCardSaid : Prop := Claim7.holds Tryd.pinned (.plain (OpenSpec.upto scalarsPlacesSpec)) scalarsPlacesUptoCard

/-- THE SECOND FORM's CARD OF 'vellumlaw01.ScalarsNumbers'. -/
def scalarsNumbersUptoCard : Claim7 := { stood := { row := scalarsNumbersUptoRow, standIns := [], harness := (true, "f96136d80f8034eed32eeda507a0e36271aa059e9dd2cef3a1c8439bf75ca7a9"), looks := true }, kinds := [], alts := [], laidByText := true, laidKinds := [.data, .sentinel, .sentinel, .sentinel, .sentinel, .sentinel, .sentinel, .sentinel, .sentinel, .sentinel, .sentinel, .sentinel, .sentinel, .sentinel, .sentinel, .sentinel, .sentinel, .sentinel, .sentinel, .sentinel, .pinned], laidTests := true, laidLooks := .later }
def ScalarsNumbersUptoCardSaid : Prop := Claim7.holds Tryd.pinned (.plain (OpenSpec.upto scalarsNumbersSpec)) scalarsNumbersUptoCard

/-- THE SECOND FORM's CARD OF 'vellumlaw01.ScalarsBack'. -/
def scalarsBackUptoCard : Claim7 := { stood := { row := scalarsBackUptoRow, standIns := [], harness := (true, "f96136d80f8034eed32eeda507a0e36271aa059e9dd2cef3a1c8439bf75ca7a9"), looks := true }, kinds := [], alts := [], laidByText := true, laidKinds := [.data, .sentinel, .sentinel, .sentinel, .sentinel, .sentinel, .sentinel, .sentinel, .sentinel, .sentinel, .sentinel, .sentinel, .sentinel, .sentinel, .sentinel, .sentinel, .sentinel, .sentinel, .sentinel, .sentinel, .pinned], laidTests := true, laidLooks := .later }
def ScalarsBackUptoCardSaid : Prop := Claim7.holds Tryd.pinned (.plain (OpenSpec.upto scalarsBackSpec)) scalarsBackUptoCard

/-- THE SECOND FORM's CARD OF 'vellumlaw01.ScalarsCuts'. -/
def scalarsCutsUptoCard : Claim7 := { stood := { row := scalarsCutsUptoRow, standIns := [], harness := (true, "f96136d80f8034eed32eeda507a0e36271aa059e9dd2cef3a1c8439bf75ca7a9"), looks := true }, kinds := [], alts := [], laidByText := true, laidKinds := [.data, .sentinel, .sentinel, .sentinel, .sentinel, .sentinel, .sentinel, .sentinel, .sentinel, .sentinel, .sentinel, .sentinel, .sentinel, .sentinel, .sentinel, .sentinel, .sentinel, .sentinel, .sentinel, .sentinel, .pinned], laidTests := true, laidLooks := .later }
def ScalarsCutsUptoCardSaid : Prop := Claim7.holds Tryd.pinned (.plain (OpenSpec.upto scalarsCutsSpec)) scalarsCutsUptoCard

/-- THE SECOND FORM's CARD OF 'vellumlaw01.ScalarsJoined'. -/
def scalarsJoinedUptoCard : Claim7 := { stood := { row := scalarsJoinedUptoRow, standIns := [], harness := (true, "f96136d80f8034eed32eeda507a0e36271aa059e9dd2cef3a1c8439bf75ca7a9"), looks := true }, kinds := [], alts := [], laidByText := true, laidKinds := [.data, .sentinel, .sentinel, .sentinel, .sentinel, .sentinel, .sentinel, .sentinel, .sentinel, .sentinel, .sentinel, .sentinel, .sentinel, .sentinel, .sentinel, .sentinel, .sentinel, .sentinel, .sentinel, .sentinel, .pinned], laidTests := true, laidLooks := .later }
def ScalarsJoinedUptoCardSaid : Prop := Claim7.holds Tryd.pinned (.plain (OpenSpec.upto scalarsJoinedSpec)) scalarsJoinedUptoCard
end Rows
end Go.Proofs.YtdnelmbihblakaaDoor
