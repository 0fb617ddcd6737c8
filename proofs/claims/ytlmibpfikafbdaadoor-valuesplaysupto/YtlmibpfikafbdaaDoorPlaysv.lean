/- Of all pairs of Plains within the bound vellumlaw02.ValuesPlays answers true: the walk. -/
import Derived.Test.YtlmibpfikafbdaaDoorRy
import Derived.Test.YtlmibpfikafbdaaDoorEqualv
import Derived.Deep.DeepCutAuto
namespace Go.Proofs.YtlmibpfikafbdaaDoor
open Go Go.RowKit Go.Lib
set_option linter.unusedVariables false

theorem plays_first {I : List Nat} {a : Nat → Addr} (k n : Int) (t : ByteArray) (W0 : World) (hI : ∀ i ∈ [0, 3, 4, 9], i ∈ I) (hS : Std I a W0) (hN : Sent a W0) (hT : Strc W0) (hn : rngB n = true) (hs : t.size ≤ 35184372087808) :
    ∃ (T : ByteArray) (V X : Value) (E : Int),
      (∀ W, Below W0.heap.size W0 W → Calls Tryd.prog 10 #[pl k n t] W fun r w' => r = .returned (.int .i64 E) ∧ Below W0.heap.size W0 w') ∧
      (∀ W, Below W0.heap.size W0 W → Calls Tryd.prog 11 #[pl k n t] W fun r w' => r = .returned (.tuple #[V, X]) ∧ Below W0.heap.size W0 w') ∧
      (∀ W, Below W0.heap.size W0 W → Calls Tryd.prog 13 #[pl k n t] W fun r w' => r = .returned X ∧ Below W0.heap.size W0 w') ∧
      (∀ W, Below W0.heap.size W0 W → Calls Tryd.prog 12 #[X] W fun r w' => r = .returned (.int .i64 E) ∧ Below W0.heap.size W0 w') ∧
      (∀ W, Below W0.heap.size W0 W → Calls Tryd.prog 14 #[V, X, pl k n t, .int .i64 E] W fun r w' => r = .returned (.bool true) ∧ Below W0.heap.size W0 w') ∧
      (∀ W, Below W0.heap.size W0 W → Calls Tryd.prog 15 #[pl k n t] W fun r w' => r = .returned (.tuple #[.string T, X]) ∧ Below W0.heap.size W0 w') ∧
      (∀ W, Below W0.heap.size W0 W → Calls Tryd.prog 16 #[pl k n t] W fun r w' => r = .returned (.tuple #[.string T, .int .i64 E]) ∧ Below W0.heap.size W0 w') := by
  have hI' : ∀ i ∈ [0, 4, 9], i ∈ I := fun i hi => hI i (by simp at hi ⊢; omega)
  have hn' := rngB_iff.1 hn
  have hs' : t.size ≤ 281474976710656 := by omega
  rcases Nat.eq_zero_or_pos (chk k n t) with h | h
  · refine ⟨txtOf k n t, valOf k n t, .nilIface, 0, fun W hW => ?_, fun W hW => ?_, fun W hW => ?_, fun W hW => ?_, fun W hW => ?_, fun W hW => ?_, fun W hW => ?_⟩
    · have := from_below hW (ref_chk k n t W hs)
      rwa [h] at this
    · exact from_below hW (of_ok k n t W hI' (hS.below hW) hs' h)
    · have := from_below hW (check_any' k n t W hI' (hS.below hW) hs')
      rwa [h] at this
    · have := from_below hW (num_of (hN.below hW) 0 (by omega))
      exact this
    · exact from_below hW (told_good k n t W h)
    · exact from_below hW (text_ok k n t W hI' (hS.below hW) (hT.below hW) hs' hn'.1 hn'.2 h)
    · exact from_below hW (rtext_ok k n t W hs hn h)
  · obtain ⟨e, he⟩ : ∃ e, chk k n t = e + 1 := ⟨chk k n t - 1, by omega⟩
    have hle := chk_le k n t
    refine ⟨⟨#[]⟩, .nilIface, errV a e, ((e + 1 : Nat) : Int), fun W hW => ?_, fun W hW => ?_, fun W hW => ?_, fun W hW => ?_, fun W hW => ?_, fun W hW => ?_, fun W hW => ?_⟩
    · have := from_below hW (ref_chk k n t W hs)
      rwa [he] at this
    · exact from_below hW (of_no k n t W hI' (hS.below hW) hs' e he)
    · have := from_below hW (check_any' k n t W hI' (hS.below hW) hs')
      rwa [he] at this
    · exact from_below hW (num_of (hN.below hW) (e + 1) (by omega))
    · exact from_below hW (told_bad k n t W (hN.below hW) e (by omega))
    · exact from_below hW (text_no k n t W hI' (hS.below hW) hs' e he)
    · exact from_below hW (rtext_no k n t W hs e he)

set_option maxHeartbeats 2000000 in
set_option maxRecDepth 100000 in
theorem plays_walk {I : List Nat} {a : Nat → Addr} (k n : Int) (t : ByteArray) (k' n' : Int) (t' : ByteArray) (w : World) (hI : ∀ i ∈ [0, 3, 4, 9], i ∈ I) (hS : Std I a w) (hN : Sent a w) (hT : Strc w) (hn : rngB n = true) (hs : t.size ≤ 35184372087808) :
    Calls Tryd.prog 3 #[pl k n t, pl k' n' t'] w fun r w' => r = .returned (.bool true) ∧ Below w.heap.size w w' := by
  obtain ⟨W0, hW0, hB, hB', b0⟩ := box_new2 w k n t k' n' t'
  have hS0 := hS.below b0
  have hT0 := hT.below b0
  have cF := fixed_any W0 hI hS0 hT0
  obtain ⟨T, V, X, E, cC, cO, cK, cN, cU, cT, cR⟩ := plays_first k n t W0 hI hS0 (hN.below b0) hT0 hn hs
  have cS := fun W (hW : Below W0.heap.size W0 W) => from_below hW (same_any k n t k' n' t' W)
  have cS2 := fun W (hW : Below W0.heap.size W0 W) => from_below hW (same_any k n t k n t W)
  rw [samB_refl] at cS2
  have cM := fun W (hW : Below W0.heap.size W0 W) => from_below hW (compare_any k n t k' n' t' W)
  have cM2 := fun W (hW : Below W0.heap.size W0 W) => from_below hW (ref_cmp k n t k' n' t' W)
  have e4 := eqIn_pl k n t k' n' t'
  obtain ⟨B, hBB⟩ : ∃ B, samB k n t k' n' t' = B := ⟨_, rfl⟩
  rw [hBB] at cS e4
  obtain ⟨M, hM⟩ : ∃ M, cmpP k n t k' n' t' = M := ⟨_, rfl⟩
  rw [hM] at cM cM2
  have hx := fun W (hW : Below W0.heap.size W0 W) => hB.below hW
  have hx' := fun W (hW : Below W0.heap.size W0 W) => hB'.below hW
  clear hS hT hN hI hB hB' hS0 hT0 hBB hM hn hs
  go_enter Tryd.func3, Tryd.ntmps3
  go_wp2_with fail
  rw [← hW0]
  clear hW0
  refine cF.mono ?_; rintro r w1 ⟨rfl, b1⟩
  obtain ⟨k0, k1, k2⟩ := hx _ b1
  go_wp2_with fail
  refine (cC _ b1).mono ?_; rintro r w2 ⟨rfl, b2⟩
  clear k0 k1 k2 b1
  obtain ⟨k0, k1, k2⟩ := hx _ b2
  go_wp2_with fail
  refine (cO _ b2).mono ?_; rintro r w3 ⟨rfl, b3⟩
  clear k0 k1 k2 b2
  obtain ⟨k0, k1, k2⟩ := hx _ b3
  go_wp2_with fail
  refine (cK _ b3).mono ?_; rintro r w4 ⟨rfl, b4⟩
  clear k0 k1 k2 b3
  obtain ⟨k0, k1, k2⟩ := hx _ b4
  go_wp2_with fail
  refine (cN _ b4).mono ?_; rintro r w5 ⟨rfl, b5⟩
  clear k0 k1 k2 b4
  obtain ⟨k0, k1, k2⟩ := hx _ b5
  go_wp2_with fail
  refine (cU _ b5).mono ?_; rintro r w6 ⟨rfl, b6⟩
  clear k0 k1 k2 b5
  obtain ⟨k0, k1, k2⟩ := hx _ b6
  go_wp2_with fail
  refine (cT _ b6).mono ?_; rintro r w7 ⟨rfl, b7⟩
  clear k0 k1 k2 b6
  obtain ⟨k0, k1, k2⟩ := hx _ b7
  go_wp2_with fail
  refine (cR _ b7).mono ?_; rintro r w8 ⟨rfl, b8⟩
  clear k0 k1 k2 b7 cF cC cO cK cU cT cR
  obtain ⟨k0, k1, k2⟩ := hx _ b8
  obtain ⟨m0, m1, m2⟩ := hx' _ b8
  go_wp2_with fail
  go_region_held3 (fun w' => (w'.cell? ⟨w.heap.size, 0, none⟩ = some (.int .i64 k) ∧ w'.cell? ⟨w.heap.size, 1, none⟩ = some (.int .i64 n) ∧ w'.cell? ⟨w.heap.size, 2, none⟩ = some (.string t) ∧ w'.cell? ⟨w.heap.size + 1, 0, none⟩ = some (.int .i64 k') ∧ w'.cell? ⟨w.heap.size + 1, 1, none⟩ = some (.int .i64 n') ∧ w'.cell? ⟨w.heap.size + 1, 2, none⟩ = some (.string t')) ∧ Below W0.heap.size W0 w')
    (exact ⟨by first | (with_reducible assumption) | (simp [*]; done), by first | (with_reducible assumption) | exact b8.drew⟩)
    (first
      | (go_at_call 12; refine (cN _ ?_).mono ?_; (· first | assumption | (apply And.right; assumption)); rintro r w9 ⟨rfl, b9⟩; obtain ⟨k0, k1, k2⟩ := hx _ b9; obtain ⟨m0, m1, m2⟩ := hx' _ b9; have mm := And.intro k0 (And.intro k1 (And.intro k2 (And.intro m0 (And.intro m1 m2)))))
      | (go_at_call 17; refine (cS _ ?_).mono ?_; (· first | assumption | (apply And.right; assumption)); rintro r w9 ⟨rfl, b9⟩; obtain ⟨k0, k1, k2⟩ := hx _ b9; obtain ⟨m0, m1, m2⟩ := hx' _ b9; have mm := And.intro k0 (And.intro k1 (And.intro k2 (And.intro m0 (And.intro m1 m2)))))
      | (go_at_call 17; refine (cS2 _ ?_).mono ?_; (· first | assumption | (apply And.right; assumption)); rintro r w9 ⟨rfl, b9⟩; obtain ⟨k0, k1, k2⟩ := hx _ b9; obtain ⟨m0, m1, m2⟩ := hx' _ b9; have mm := And.intro k0 (And.intro k1 (And.intro k2 (And.intro m0 (And.intro m1 m2)))))
      | (go_at_call 18; refine (cM _ ?_).mono ?_; (· first | assumption | (apply And.right; assumption)); rintro r w9 ⟨rfl, b9⟩; obtain ⟨k0, k1, k2⟩ := hx _ b9; obtain ⟨m0, m1, m2⟩ := hx' _ b9; have mm := And.intro k0 (And.intro k1 (And.intro k2 (And.intro m0 (And.intro m1 m2)))))
      | (go_at_call 19; refine (cM2 _ ?_).mono ?_; (· first | assumption | (apply And.right; assumption)); rintro r w9 ⟨rfl, b9⟩; obtain ⟨k0, k1, k2⟩ := hx _ b9; obtain ⟨m0, m1, m2⟩ := hx' _ b9; have mm := And.intro k0 (And.intro k1 (And.intro k2 (And.intro m0 (And.intro m1 m2))))))
  go_wp2
  go_ret
  exact ⟨rfl, b0.trans (Below.mono (by first | assumption | (apply And.right; assumption)) b0.size)⟩
end Go.Proofs.YtlmibpfikafbdaaDoor
