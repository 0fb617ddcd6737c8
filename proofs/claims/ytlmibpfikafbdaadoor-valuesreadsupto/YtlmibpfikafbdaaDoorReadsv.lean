/- Of all texts within the bound vellumlaw02.ValuesReads answers true: the walk. -/
import Derived.Test.YtlmibpfikafbdaaDoorRp
import Derived.Test.YtlmibpfikafbdaaDoorFx
import Derived.Test.YtlmibpfikafbdaaDoorVr
namespace Go.Proofs.YtlmibpfikafbdaaDoor
open Go Go.RowKit Go.Lib
set_option linter.unusedVariables false

theorem reads_first {I : List Nat} {a : Nat → Addr} (s : ByteArray) (W0 : World) (hI : ∀ i ∈ [0, 3, 4, 9], i ∈ I) (hS : Std I a W0) (hN : Sent a W0) (hT : Strc W0) (hs : s.size ≤ 35184372087808) :
    ∃ (V X : Value) (k n : Int) (t : ByteArray) (E : Int),
      (∀ W, Below W0.heap.size W0 W → Calls Tryd.prog 20 #[.string s] W fun r w' => r = .returned (.tuple #[V, X]) ∧ Below W0.heap.size W0 w') ∧
      (∀ W, Below W0.heap.size W0 W → Calls Tryd.prog 21 #[.string s] W fun r w' => r = .returned (.tuple #[pl k n t, .int .i64 E]) ∧ Below W0.heap.size W0 w') ∧
      (∀ W, Below W0.heap.size W0 W → Calls Tryd.prog 14 #[V, X, pl k n t, .int .i64 E] W fun r w' => r = .returned (.bool true) ∧ Below W0.heap.size W0 w') := by
  refine ⟨resV (prs s), errOf a (prs s).1, (prs s).2.1, (prs s).2.2.1, (prs s).2.2.2, ((prs s).1 : Nat), fun W hW => from_below hW (parse_any s W hI (hS.below hW) (hT.below hW) (by omega)), fun W hW => from_below hW (ref_parse s W hs), fun W hW => from_below hW ?_⟩
  have hle := prs_le s
  rcases Nat.eq_zero_or_pos (prs s).1 with h | h
  · obtain ⟨k, n, t, hp⟩ : ∃ k n t, prs s = (0, k, n, t) := ⟨(prs s).2.1, (prs s).2.2.1, (prs s).2.2.2, by rw [← h]⟩
    rw [hp]
    exact told_good k n t W (prs_ok hp).1
  · obtain ⟨e, he⟩ : ∃ e, (prs s).1 = e + 1 := ⟨(prs s).1 - 1, by omega⟩
    have hr : resV (prs s) = .nilIface := by rw [resV, if_neg (by omega)]
    rw [hr, he]
    exact told_bad _ _ _ W (hN.below hW) e (by omega)

set_option maxHeartbeats 1000000 in
set_option maxRecDepth 100000 in
theorem reads_walk {I : List Nat} {a : Nat → Addr} (s : ByteArray) (w : World) (hI : ∀ i ∈ [0, 3, 4, 9], i ∈ I) (hS : Std I a w) (hN : Sent a w) (hT : Strc w) (hs : s.size ≤ 35184372087808) :
    Calls Tryd.prog 4 #[.string s] w fun r w' => r = .returned (.bool true) ∧ Below w.heap.size w w' := by
  have cF := fixed_any w hI hS hT
  obtain ⟨V, X, k, n, t, E, cP, cR, cU⟩ := reads_first s w hI hS hN hT hs
  clear hS hT hN hI hs
  go_enter Tryd.func4, Tryd.ntmps4
  go_wp2_with fail
  refine cF.mono ?_; rintro r w1 ⟨rfl, b1⟩
  go_wp2_with fail
  refine (cP _ b1).mono ?_; rintro r w2 ⟨rfl, b2⟩
  go_wp2_with fail
  refine (cR _ b2).mono ?_; rintro r w3 ⟨rfl, b3⟩
  go_wp2_with fail
  refine (cU _ ?_).mono ?_
  · first | exact b3 | exact b3.alloc b3.size _ | go_grown
  rintro r w4 ⟨rfl, b4⟩
  go_wp2
  go_ret
  exact ⟨rfl, b4⟩
end Go.Proofs.YtlmibpfikafbdaaDoor
