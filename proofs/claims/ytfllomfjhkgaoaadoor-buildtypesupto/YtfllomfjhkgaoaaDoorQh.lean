/- ops.Same and the document's Same: two lists, one by one. -/
import Derived.Test.YtfllomfjhkgaoaaDoorQd
import Derived.Test.YtfllomfjhkgaoaaDoorSw
import Derived.Deep.RegionHeld3
import Derived.Deep.DeepCutAuto
namespace Go.Proofs.YtfllomfjhkgaoaaDoor
open Go Go.RowKit Go.Lib
set_option linter.unusedVariables false

theorem take_eq_snoc {E E' : List Op5} {k : Nat} {e e' : Op5} (h : E.take k = E'.take k) (h1 : E[k]? = some e) (h2 : E'[k]? = some e') (he : e = e') : E.take (k + 1) = E'.take (k + 1) := by
  rw [List.take_add_one, List.take_add_one, h, h1, h2, he]
theorem ne_at {E E' : List Op5} {k : Nat} {e e' : Op5} (h1 : E[k]? = some e) (h2 : E'[k]? = some e') (he : e ≠ e') : E ≠ E' := fun h => by
  rw [h, h2] at h1; exact he (Option.some.inj h1).symm

end Go.Proofs.YtfllomfjhkgaoaaDoor
