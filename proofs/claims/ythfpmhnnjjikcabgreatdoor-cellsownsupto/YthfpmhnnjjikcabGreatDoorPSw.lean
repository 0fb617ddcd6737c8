/- What vellumref04.SameAttrs, content.Same and vellumref04.Same answer. -/
import Derived.Test.YthfpmhnnjjikcabGreatDoorPCp
import Derived.Test.YthfpmhnnjjikcabGreatDoorPSm
import Derived.Deep.DeepBigQuietO
namespace Go.Proofs.YthfpmhnnjjikcabGreatDoor
open Go Go.RowKit Go.Lib
set_option linter.unusedVariables false
theorem eql_pl (p q : P3) (b : Bool) (h : samP p q = b) (w : World) : (binOp .eql 36 (plV p) (plV q)).run Tryz.prog w = .ok (.bool b) w := by
  rw [run_eql_struct, show (Op.equalIn 10000 36 (plV p) (plV q)).run Tryz.prog w = .ok (samP p q) w from eqIn_pl p.1 p.2.1 p.2.2 q.1 q.2.1 q.2.2 w, ← h]; rfl

end Go.Proofs.YthfpmhnnjjikcabGreatDoor
