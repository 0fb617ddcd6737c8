/- A Plain among the arguments: what its reading gives the walk, and its reading behind it. -/
import Derived.WalkKit
import Derived.ProofKit
import Derived.OpenShut
import Derived.SizedLaws
import Derived.Test.YtplnojapnaaakaaGreatDoorPSc
import Derived.Test.YtplnojapnaaakaaGreatDoorPVl
import Derived.Lib.SmallJoins
namespace Go.Proofs.YtplnojapnaaakaaGreatDoor
open Go Go.RowKit Go.Lib Go.ChangeShapes Go.WideShapes Go.ChangeAt Go.Joins
set_option linter.unusedVariables false
abbrev plD {H : Type} (k n : Int) (t : ByteArray) : DataW H := .agg [.lit (.int .i64 k), .lit (.int .i64 n), .lit (.string t.data.toList)]
def inr (z : Int) : Prop := -9223372036854775808 ≤ z ∧ z ≤ 9223372036854775807

theorem cellsPlain : Tryz.prog.cellsOf 30 = 3 := by kernel_rfl
end Go.Proofs.YtplnojapnaaakaaGreatDoor
