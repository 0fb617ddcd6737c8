/- Of all operations vellumlaw04.ContentJoins answers true. -/
import Derived.Test.YtecmdlecfddeeaaDoorJw
import Derived.Test.YtecmdlecfddeeaaDoorNu
namespace Go.Proofs.YtecmdlecfddeeaaDoor
open Go Go.RowKit Go.Lib
set_option linter.unusedVariables false

theorem joins_any4 {I : List Nat} {ad : Nat → Addr} (a b : Op5) (va vb : Value) (w : World) (hI : ∀ i ∈ IC, i ∈ I) (hS : Std I ad w) (hN : Sent ad w) (ra : RN w va a.A) (rb : RN w vb b.A) (fa : Fit a) (fb : Fit b) :
    Calls Tryd.prog 5 #[opV a va, opV b vb] w fun r w' => r = .returned (.bool true) ∧ Below w.heap.size w w' := by
  have b0 := bx2_below w a b va vb
  have S0 := hS.below b0
  have N0 := hN.below b0
  refine joins_1 (ad := ad) a b va vb w (jR a b) (jB a b) (joinE a b) (lives_any4 _ hI S0) (ra.below b0) (rb.below b0) (fun W v h => copy_any v [a, b] W h (by simp) (fun e he => by simp at he; rcases he with rfl | rfl; exact fa.n; exact fb.n)) (fun s s' W hW h h' => ?_) ?_ (fun hB => ?_) (fun W hW => ?_) (fun W hW => ?_) fa.n fb.n
  · exact join_any a b s s' W hI (S0.below hW) h h' fa fb
  · unfold jR
    split
    · have := fa.n
      show a.A.length ≤ _
      omega
    · show ([] : List A2).length ≤ _
      simp
  · unfold jR
    rw [hB]
    rfl
  · exact refJoin_any a b va vb W (S0.below hW) ((ra.below b0).below hW) ((rb.below b0).below hW) fa fb
  · exact num_of (N0.below hW) _ (joinE_le a b)
end Go.Proofs.YtecmdlecfddeeaaDoor
