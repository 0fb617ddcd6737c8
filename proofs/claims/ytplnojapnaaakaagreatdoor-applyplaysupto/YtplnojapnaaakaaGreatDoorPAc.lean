/- Attributes in memory; what attrs.checkPair, isNull, own answer. -/
import Derived.Test.YtplnojapnaaakaaGreatDoorPPa
import Derived.Deep.RegionHeld3
namespace Go.Proofs.YtplnojapnaaakaaGreatDoor
open Go Go.RowKit Go.Lib
set_option linter.unusedVariables false
abbrev atV (q : A2) : Value := .agg #[.string q.1, .int .i64 q.2.1, .int .i64 q.2.2.1, .string q.2.2.2]
abbrev plV (p : P3) : Value := .agg #[.int .i64 p.1, .int .i64 p.2.1, .string p.2.2]
/-- What a pair by itself is refused with. -/
def pairE (q : A2) : Nat := if q.1.toList.isEmpty ∨ 64 < q.1.size then 6 else if brk q.1.data.toList ≠ q.1.size then 1 else chkP q.2
/-- Where the fourth error, the fifth .. of the nineteen are wanted. -/
abbrev IX : List Nat := [0, 4, 5, 6, 7, 9]

set_option maxHeartbeats 400000 in
theorem pair_any {I : List Nat} {a : Nat → Addr} (q : A2) (w : World) (hI : ∀ i ∈ IX, i ∈ I) (hS : Std I a w) (h1 : q.1.size ≤ 281474976710656) (h2 : q.2.2.2.size ≤ 281474976710656) :
    Calls Tryz.prog 170 #[atV q] w fun e w' => e = .returned (errOf a (pairE q)) ∧ Below w.heap.size w w' := by
  obtain ⟨k, x, n, t⟩ := q
  simp only at h1 h2
  have hI' : ∀ i ∈ [0, 4, 9], i ∈ I := fun i hi => hI i (by simp at hi ⊢; omega)
  have b0 := (Below.refl w.heap.size w).alloc (Nat.le_refl _) (.cells #[.string k, .int .i64 x, .int .i64 n, .string t] 154)
  have hg : ∀ W, Below w.heap.size w W → W.cell? ⟨7, 0, none⟩ = some (errV a 5) := fun W hW => (hS.below hW).er.cell 5 (hI 5 (by simp))
  by_cases hE : k.toList.isEmpty = true
  · rw [show pairE (k, x, n, t) = 6 by unfold pairE; rw [if_pos (Or.inl hE)], show errOf a 6 = errV a 5 from rfl]
    have hg0 := hg _ b0
    clear hS hI hI' hg
    go_enter Tryz.func170, Tryz.ntmps170
    go_wp2
    go_ret
    exact ⟨rfl, b0⟩
  · have hE' : k.toList.isEmpty = false := by simpa using hE
    by_cases hL : 64 < k.size
    · rw [show pairE (k, x, n, t) = 6 by unfold pairE; rw [if_pos (Or.inr hL)], show errOf a 6 = errV a 5 from rfl]
      have hLI : (64 : Int) < k.size := by omega
      have hg0 := hg _ b0
      clear hS hI hI' hg
      go_enter Tryz.func170, Tryz.ntmps170
      go_wp2
      go_ret
      exact ⟨rfl, b0⟩
    · have hLI : ¬ (64 : Int) < k.size := by omega
      have hE2 : ¬ (k.toList.isEmpty = true ∨ 64 < k.size) := fun h => h.elim hE hL
      by_cases hB : brk k.data.toList = k.size
      · rw [show pairE (k, x, n, t) = chk x n t by unfold pairE; rw [if_neg hE2, if_neg (by simpa using hB)]]
        have c1 := fun W (hW : Below w.heap.size w W) => check_ok k W (hI 0 (by simp)) (hS.below hW) h1 hB
        have c2 := fun W (hW : Below w.heap.size w W) => from_below hW (check_any' x n t W hI' (hS.below hW) h2)
        have c1' := c1 _ b0
        obtain ⟨E, hEE⟩ : ∃ E, errOf a (chk x n t) = E := ⟨_, rfl⟩
        rw [hEE] at c2 ⊢
        clear hS hI hI' hg c1 hB hEE
        go_enter Tryz.func170, Tryz.ntmps170
        go_wp2_with (first
          | (go_at_call 162; refine c1'.mono ?_; rintro e w1 ⟨rfl, b1⟩; have b := b0.trans (b1.mono b0.size); have d1 := b1.cell (p := ⟨w.heap.size, 1, none⟩) (by simp); have d2 := b1.cell (p := ⟨w.heap.size, 2, none⟩) (by simp); have d3 := b1.cell (p := ⟨w.heap.size, 3, none⟩) (by simp))
          | (go_at_call 164; refine (c2 _ b).mono ?_; rintro e w2 ⟨rfl, b2⟩))
        go_ret
        exact ⟨rfl, b2⟩
      · rw [show pairE (k, x, n, t) = 1 by unfold pairE; rw [if_neg hE2, if_pos hB], show errOf a 1 = errV a 0 from rfl]
        have c1 := from_below b0 (check_no k _ (hI 0 (by simp)) (hS.below b0) h1 hB)
        clear hS hI hI' hg hB
        go_enter Tryz.func170, Tryz.ntmps170
        go_wp2_with (go_at_call 162; refine c1.mono ?_; rintro e w1 ⟨rfl, b⟩)
        go_ret
        exact ⟨rfl, b⟩

theorem isNull_any (p : P3) (w : World) : Calls Tryz.prog 159 #[plV p] w fun e w' => e = .returned (.bool (p.1 == 0)) ∧ Below w.heap.size w w' := by
  obtain ⟨x, n, t⟩ := p
  obtain ⟨B, hB⟩ : ∃ B, (x == 0) = B := ⟨_, rfl⟩
  simp only [hB]
  go_enter Tryz.func159, Tryz.ntmps159
  go_wp2
  go_ret
  exact ⟨rfl, (Below.refl _ _).alloc (Nat.le_refl _) _⟩
end Go.Proofs.YtplnojapnaaakaaGreatDoor
