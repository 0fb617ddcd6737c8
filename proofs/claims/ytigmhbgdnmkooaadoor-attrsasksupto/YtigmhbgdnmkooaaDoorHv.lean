/- vellumhand.Value at a Plain. -/
import Derived.Test.YtigmhbgdnmkooaaDoorAc
namespace Go.Proofs.YtigmhbgdnmkooaaDoor
open Go Go.RowKit Go.Lib
set_option linter.unusedVariables false

set_option maxHeartbeats 800000 in
theorem handValue_any (p : P3) (w : World) : Calls Tryd.prog 16 #[plV p] w fun e w' => e = .returned (valOf p.1 p.2.1 p.2.2) ∧ Below w.heap.size w w' := by
  obtain ⟨k, n, t⟩ := p
  have b0 := (Below.refl w.heap.size w).alloc (Nat.le_refl _) (.cells #[.int .i64 k, .int .i64 n, .string t] 36)
  simp only
  by_cases h1 : k = 1
  · subst h1
    go_enter Tryd.func16, Tryd.ntmps16
    go_wp2
    go_ret
    exact ⟨rfl, b0⟩
  · have g1 : (k == 1) = false := by simpa using h1
    by_cases h2 : k = 2
    · subst h2
      go_enter Tryd.func16, Tryd.ntmps16
      go_wp2
      go_ret
      exact ⟨rfl, b0⟩
    · have g2 : (k == 2) = false := by simpa using h2
      by_cases h3 : k = 3
      · subst h3
        go_enter Tryd.func16, Tryd.ntmps16
        go_wp2
        go_ret
        exact ⟨rfl, b0⟩
      · have g3 : (k == 3) = false := by simpa using h3
        rw [show valOf k n t = .iface 79 (.agg #[]) by unfold valOf; rw [if_neg h1, if_neg h2, if_neg h3]]
        go_enter Tryd.func16, Tryd.ntmps16
        go_wp2
        go_ret
        exact ⟨rfl, b0⟩
end Go.Proofs.YtigmhbgdnmkooaaDoor
