/- What vellumref04.SameCell and SameCells answer: whether the cells are the same. -/
import Derived.Test.YtalfdjglbbmjcabDoorCc
import Derived.Deep.RegionHeld3
namespace Go.Proofs.YtalfdjglbbmjcabDoor
open Go Go.RowKit Go.Lib
set_option linter.unusedVariables false

abbrev ceC (d : CV) : Array Value := #[.int .i32 d.1, .string d.2.1, .int .i64 d.2.2.1.1, .int .i64 d.2.2.1.2.1, .string d.2.2.1.2.2, slV d.2.2.2]
end Go.Proofs.YtalfdjglbbmjcabDoor
