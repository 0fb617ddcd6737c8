/- Good lists: what Check lets by; what joins make of good lists is good. -/
import Derived.Test.YthfpmhnnjjikcabGreatDoorPJp
namespace Go.Proofs.YthfpmhnnjjikcabGreatDoor
open Go Go.RowKit Go.Lib
set_option linter.unusedVariables false
def Good (L : List A2) : Prop := ∀ q ∈ L, pairE q = 0
theorem listE_zero (nulls : Bool) : ∀ (L : List A2) (pv : Option ByteArray), listE nulls pv L = 0 ↔ Good L ∧ (nulls = false → NoNull L) ∧ Up L ∧ ∀ p, pv = some p → ∀ q ∈ L, kc p q.1 < 0
  | [], pv => by
    rw [listE]
    simp [Good, NoNull, Up]
  | q :: r, pv => by
    have ih := listE_zero nulls r (some q.1)
    rw [listE]
    by_cases hE : pairE q = 0
    · rw [if_pos hE]
      by_cases hN : (!nulls && q.2.1 == 0) = true
      · rw [if_pos hN]
        refine ⟨fun h => by omega, fun ⟨_, h, _⟩ => ?_⟩
        simp only [Bool.and_eq_true, Bool.not_eq_true', beq_iff_eq] at hN
        exact absurd hN.2 (h hN.1 q (List.mem_cons_self ..))
      · rw [if_neg hN]
        by_cases hA : above pv q.1 = true
        · rw [if_pos hA, ih]
          constructor
          · rintro ⟨h1, h2, h3, h4⟩
            have h4' : ∀ x ∈ r, kc q.1 x.1 < 0 := h4 q.1 rfl
            refine ⟨fun x hx => ?_, fun hn x hx => ?_, List.pairwise_cons.2 ⟨h4', h3⟩, fun p hp x hx => ?_⟩
            · rcases List.mem_cons.1 hx with rfl | hx
              · exact hE
              · exact h1 x hx
            · rcases List.mem_cons.1 hx with rfl | hx
              · intro h0
                exact hN (by simp [hn, h0])
              · exact h2 hn x hx
            · subst hp
              have hpq : kc p q.1 < 0 := by simpa [above] using hA
              rcases List.mem_cons.1 hx with rfl | hx
              · exact hpq
              · exact kc_lt hpq (h4' x hx)
          · rintro ⟨h1, h2, h3, h4⟩
            exact ⟨fun x hx => h1 x (List.mem_cons_of_mem _ hx), fun hn x hx => h2 hn x (List.mem_cons_of_mem _ hx), List.Pairwise.of_cons h3, fun p hp x hx => by obtain rfl := Option.some.inj hp; exact List.rel_of_pairwise_cons h3 hx⟩
        · rw [if_neg hA]
          refine ⟨fun h => by omega, fun ⟨_, _, _, h⟩ => absurd ?_ hA⟩
          cases pv with
          | none => rfl
          | some p => simpa [above] using h p rfl q (List.mem_cons_self ..)
    · rw [if_neg hE]
      exact ⟨fun h => absurd h hE, fun ⟨h, _⟩ => absurd (h q (List.mem_cons_self ..)) hE⟩
theorem patch_iff {L : List A2} : listE true none L = 0 ↔ Good L ∧ Up L := by
  rw [listE_zero]
  exact ⟨fun ⟨h1, _, h3, _⟩ => ⟨h1, h3⟩, fun ⟨h1, h3⟩ => ⟨h1, fun h => (by cases h), h3, fun p hp => (by cases hp)⟩⟩
theorem set_iff {L : List A2} : listE false none L = 0 ↔ Good L ∧ Up L ∧ NoNull L := by
  rw [listE_zero]
  exact ⟨fun ⟨h1, h2, h3, _⟩ => ⟨h1, h3, h2 rfl⟩, fun ⟨h1, h3, h2⟩ => ⟨h1, fun _ => h2, h3, fun p hp => (by cases hp)⟩⟩
end Go.Proofs.YthfpmhnnjjikcabGreatDoor
