/- Lengths of lists, one behind the other. -/
import Derived.Test.YtkgflmbhkbeakabDoorQe
namespace Go.Proofs.YtkgflmbhkbeakabDoor
open Go Go.RowKit Go.Lib
set_option linter.unusedVariables false

def SB : List Op5 → Int
  | [] => 0
  | o :: r => baseO o + SB r
def SR : List Op5 → Int
  | [] => 0
  | o :: r => resO o + SR r
theorem SB_app : ∀ A B : List Op5, SB (A ++ B) = SB A + SB B
  | [], B => by simp [SB]
  | o :: r, B => by simp only [List.cons_append, SB, SB_app r B]; omega
theorem SR_app : ∀ A B : List Op5, SR (A ++ B) = SR A + SR B
  | [], B => by simp [SR]
  | o :: r, B => by simp only [List.cons_append, SR, SR_app r B]; omega
abbrev GoodL (E : List Op5) : Prop := ∀ o ∈ E, opE o = 0 ∧ Fit o
theorem SB_pos : ∀ {E : List Op5}, GoodL E → 0 ≤ SB E ∧ 0 ≤ SR E
  | [], _ => ⟨Int.le_refl _, Int.le_refl _⟩
  | o :: r, h => by
    obtain ⟨h1, h2⟩ := h o (List.mem_cons_self ..)
    have hr := SB_pos (E := r) fun x hx => h x (List.mem_cons_of_mem _ hx)
    have hb := base_range h1 h2
    have hc := res_range h1 h2
    simp only [SB, SR]
    omega
theorem sumL_eq : ∀ (E : List Op5) (b r : Int), GoodL E → b ≤ 1099511627776 → r ≤ 1099511627776 → sumL b r E = if b + SB E ≤ 1099511627776 ∧ r + SR E ≤ 1099511627776 then (b + SB E, r + SR E, 0) else (0, 0, 11)
  | [], b, r, _, h1, h2 => by
    have e1 : SB [] = 0 := rfl
    have e2 : SR [] = 0 := rfl
    rw [sumL, e1, e2, Int.add_zero, Int.add_zero, if_pos ⟨h1, h2⟩]
  | o :: L, b, r, hg, h1, h2 => by
    have hr := SB_pos (E := L) fun x hx => hg x (List.mem_cons_of_mem _ hx)
    have e1 : SB (o :: L) = baseO o + SB L := rfl
    have e2 : SR (o :: L) = resO o + SR L := rfl
    rw [sumL, e1, e2]
    by_cases h : 1099511627776 < b + baseO o ∨ 1099511627776 < r + resO o
    · rw [if_pos h, if_neg (by omega)]
    · rw [if_neg h, sumL_eq L _ _ (fun x hx => hg x (List.mem_cons_of_mem _ hx)) (by omega) (by omega)]
      rw [show b + baseO o + SB L = b + (baseO o + SB L) by omega, show r + resO o + SR L = r + (resO o + SR L) by omega]
theorem lensL_good {E : List Op5} (h : GoodL E) : lensL E = if SB E ≤ 1099511627776 ∧ SR E ≤ 1099511627776 then (SB E, SR E, 0) else (0, 0, 11) := by
  unfold lensL
  rw [if_neg (by simpa using bad_zero.2 fun o ho => (h o ho).1), sumL_eq E 0 0 h (by omega) (by omega), Int.zero_add, Int.zero_add]
/-- Two lists' lengths and those of both, one behind the other. -/
theorem lens_app {A B : List Op5} (fA : FitL A) (fB : FitL B) :
    (((lensL A).2.2 ≠ 0 ∨ (lensL B).2.2 ≠ 0) → (lensL (A ++ B)).1 = 0 ∧ (lensL (A ++ B)).2.1 = 0 ∧ (lensL (A ++ B)).2.2 ≠ 0) ∧
    ((lensL A).2.2 = 0 → (lensL B).2.2 = 0 →
      (0 ≤ (lensL A).1 ∧ (lensL A).1 ≤ 1099511627776 ∧ 0 ≤ (lensL A).2.1 ∧ (lensL A).2.1 ≤ 1099511627776) ∧
      (0 ≤ (lensL B).1 ∧ (lensL B).1 ≤ 1099511627776 ∧ 0 ≤ (lensL B).2.1 ∧ (lensL B).2.1 ≤ 1099511627776) ∧
      lensL (A ++ B) = if (lensL A).1 + (lensL B).1 ≤ 1099511627776 ∧ (lensL A).2.1 + (lensL B).2.1 ≤ 1099511627776 then ((lensL A).1 + (lensL B).1, (lensL A).2.1 + (lensL B).2.1, 0) else (0, 0, 11)) := by
  by_cases hA : ∀ o ∈ A, opE o = 0
  · by_cases hB : ∀ o ∈ B, opE o = 0
    · have gA : GoodL A := fun o ho => ⟨hA o ho, fA o ho⟩
      have gB : GoodL B := fun o ho => ⟨hB o ho, fB o ho⟩
      have gC : GoodL (A ++ B) := fun o ho => by
        rcases List.mem_append.1 ho with h | h
        · exact gA o h
        · exact gB o h
      have pA := SB_pos gA
      have pB := SB_pos gB
      have eC := lensL_good gC
      rw [SB_app, SR_app] at eC
      rw [lensL_good gA, lensL_good gB, eC]
      by_cases ha : SB A ≤ 1099511627776 ∧ SR A ≤ 1099511627776
      · by_cases hb : SB B ≤ 1099511627776 ∧ SR B ≤ 1099511627776
        · rw [if_pos ha, if_pos hb]
          refine ⟨fun h => ?_, fun _ _ => ⟨⟨pA.1, ha.1, pA.2, ha.2⟩, ⟨pB.1, hb.1, pB.2, hb.2⟩, rfl⟩⟩
          simp at h
        · rw [if_pos ha, if_neg hb, if_neg (by omega)]
          refine ⟨fun _ => ⟨rfl, rfl, by simp⟩, fun _ h => ?_⟩
          simp at h
      · have hn : ¬ (SB A + SB B ≤ 1099511627776 ∧ SR A + SR B ≤ 1099511627776) := by omega
        rw [if_neg ha, if_neg hn]
        refine ⟨fun _ => ⟨rfl, rfl, by simp⟩, fun h => ?_⟩
        simp at h
    · have hb : (badP B).2 ≠ 0 := fun h => hB (bad_zero.1 h)
      have hc : (badP (A ++ B)).2 ≠ 0 := fun h => hB fun o ho => bad_zero.1 h o (List.mem_append_right _ ho)
      have e1 : lensL B = (0, 0, (badP B).2) := by unfold lensL; rw [if_pos hb]
      have e2 : lensL (A ++ B) = (0, 0, (badP (A ++ B)).2) := by unfold lensL; rw [if_pos hc]
      rw [e1, e2]
      exact ⟨fun _ => ⟨rfl, rfl, hc⟩, fun _ h => absurd h hb⟩
  · have hb : (badP A).2 ≠ 0 := fun h => hA (bad_zero.1 h)
    have hc : (badP (A ++ B)).2 ≠ 0 := fun h => hA fun o ho => bad_zero.1 h o (List.mem_append_left _ ho)
    have e1 : lensL A = (0, 0, (badP A).2) := by unfold lensL; rw [if_pos hb]
    have e2 : lensL (A ++ B) = (0, 0, (badP (A ++ B)).2) := by unfold lensL; rw [if_pos hc]
    rw [e1, e2]
    exact ⟨fun _ => ⟨rfl, rfl, hc⟩, fun h => absurd h hb⟩
end Go.Proofs.YtkgflmbhkbeakabDoor
