/- attrs.byKey and sameKey at pairs. -/
import Derived.Test.YtigmhbgdnmkooaaDoorSo
import Derived.Test.YtigmhbgdnmkooaaDoorCk
import Derived.Test.YtigmhbgdnmkooaaDoorRh
namespace Go.Proofs.YtigmhbgdnmkooaaDoor
open Go Go.RowKit Go.Lib Go.Sort
set_option linter.unusedVariables false

abbrev atO (q : A2) : Obj := .cells #[.string q.1, .int .i64 q.2.1, .int .i64 q.2.2.1, .string q.2.2.2] 48
theorem byKey_any (q r : A2) (w : World) : Calls Tryd.prog 41 #[atV q, atV r] w fun e w' => e = .returned (.int .i64 (kc q.1 r.1)) ∧ w' = (w.alloc (atO q)).alloc (atO r) := by
  have c := fun W => Tryd.strings_Compare q.1 r.1 W
  go_enter Tryd.func41, Tryd.ntmps41
  go_wp2_with fail
  refine (c _).mono ?_; rintro e w1 ⟨rfl, rfl⟩
  go_wp2
  go_ret
  exact ⟨rfl, rfl⟩
theorem sameKey_any (q r : A2) (w : World) : Calls Tryd.prog 43 #[atV q, atV r] w fun e w' => e = .returned (.bool (decide (q.1 = r.1))) ∧ w' = (w.alloc (atO q)).alloc (atO r) := by
  have h := beq_key (x := q.1) (y := r.1) _ rfl
  go_enter Tryd.func43, Tryd.ntmps43
  go_wp2
  go_ret
  exact ⟨rfl, rfl⟩
end Go.Proofs.YtigmhbgdnmkooaaDoor
