/- A slice of operations among the arguments: what its reading gives the walk. -/
import Derived.Test.YthfpmhnnjjikcabGreatDoorPOpo
import Derived.Test.YthfpmhnnjjikcabGreatDoorPQd
namespace Go.Proofs.YthfpmhnnjjikcabGreatDoor
open Go Go.RowKit Go.Lib Go.ChangeShapes Go.WideShapes Go.ChangeAt Go.Joins
set_option linter.unusedVariables false
theorem bulk_pos {H : Type} (d : DataW H) : 1 ≤ Rows.uptoBulk d := by
  cases d with
  | lit l => cases l <;> simp only [Rows.uptoBulk] <;> omega
  | nil => simp only [Rows.uptoBulk]; omega
  | ptr d => simp only [Rows.uptoBulk]; omega
  | slice a b => simp only [Rows.uptoBulk]; omega
  | agg p => simp only [Rows.uptoBulk]; omega
  | iface t d => simp only [Rows.uptoBulk]; omega
  | map e => simp only [Rows.uptoBulk]; omega
  | held h => simp only [Rows.uptoBulk]; omega
theorem rn_sl {w : World} {s : Value} {A : List A2} (h : RN w s A) : ∃ x : Sl, s = slV x := by
  obtain ⟨p, c, rfl, _⟩ := h.row.val
  exact ⟨(p, _, c), rfl⟩
theorem forall2_maps {α β γ : Type} {R : β → γ → Prop} : ∀ (l : List α) (f : α → β) (g : α → γ), (∀ a ∈ l, R (f a) (g a)) → All2 R (l.map f) (l.map g)
  | [], f, g, _ => .nil
  | a :: r, f, g, h => .cons (h a (List.mem_cons_self ..)) (forall2_maps r f g fun x hx => h x (List.mem_cons_of_mem _ hx))
end Go.Proofs.YthfpmhnnjjikcabGreatDoor
