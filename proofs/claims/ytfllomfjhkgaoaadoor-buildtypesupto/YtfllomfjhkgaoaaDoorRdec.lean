/- What the reference's first answers: the scalar with whose encoding a text begins at a place. -/
import Derived.Test.YtfllomfjhkgaoaaDoorRda
import Derived.PlainAid
import Derived.Handy
import Derived.Lib.QuietBelow
import Derived.BigQuiet
namespace Go.Proofs.YtfllomfjhkgaoaaDoor
open Go Go.RowKit Go.Lib Go.PlainAid Go.Sort
set_option linter.unusedVariables false

theorem ne_list {a b : ByteArray} (h : ¬ a = b) : (a.toList == b.toList) = false := by
  rw [toList_data, toList_data]
  refine beq_eq_false_iff_ne.2 fun e => h ?_
  apply ByteArray.ext
  exact Array.ext' e

end Go.Proofs.YtfllomfjhkgaoaaDoor
