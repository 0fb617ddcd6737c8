/- What values.fits answers. -/
import Derived.Test.YtplnojapnaaakaaGreatDoorPVl
namespace Go.Proofs.YtplnojapnaaakaaGreatDoor
open Go Go.RowKit Go.Lib
set_option linter.unusedVariables false
theorem fits_any (k n : Int) (t : ByteArray) (w : World) :
    Calls Tryz.prog 173 #[pl k n t] w fun e w' => e = .returned (.bool (fitB k n t)) ∧ Below w.heap.size w w' := by
  obtain ⟨b, hb⟩ : ∃ b, fitB k n t = b := ⟨_, rfl⟩
  rw [hb]
  by_cases h0 : k = 0
  · subst h0
    by_cases hn : n = 0
    · subst hn
      cases hE : t.toList.isEmpty <;>
      · simp [fitB, hE] at hb
        subst hb
        go_enter Tryz.func173, Tryz.ntmps173
        go_wp2
        go_ret
        exact ⟨rfl, (Below.refl _ _).alloc (Nat.le_refl _) _⟩
    · have hd : (n == 0) = false := by simpa using hn
      simp [fitB, hn] at hb
      subst hb
      clear hn
      go_enter Tryz.func173, Tryz.ntmps173
      go_wp2
      go_ret
      exact ⟨rfl, (Below.refl _ _).alloc (Nat.le_refl _) _⟩
  by_cases h1 : k = 1
  · subst h1
    clear h0
    by_cases hn : n = 0
    · subst hn
      cases hE : t.toList.isEmpty <;>
      · simp [fitB, hE] at hb
        subst hb
        go_enter Tryz.func173, Tryz.ntmps173
        go_wp2
        go_ret
        exact ⟨rfl, (Below.refl _ _).alloc (Nat.le_refl _) _⟩
    by_cases hn1 : n = 1
    · subst hn1
      clear hn
      cases hE : t.toList.isEmpty <;>
      · simp [fitB, hE] at hb
        subst hb
        go_enter Tryz.func173, Tryz.ntmps173
        go_wp2
        go_ret
        exact ⟨rfl, (Below.refl _ _).alloc (Nat.le_refl _) _⟩
    · have hd : (n == 0) = false := by simpa using hn
      have hd1 : (n == 1) = false := by simpa using hn1
      simp [fitB, hn, hn1] at hb
      subst hb
      clear hn hn1
      go_enter Tryz.func173, Tryz.ntmps173
      go_wp2
      go_ret
      exact ⟨rfl, (Below.refl _ _).alloc (Nat.le_refl _) _⟩
  by_cases h2 : k = 2
  · subst h2
    clear h0 h1
    cases hE : t.toList.isEmpty <;>
    · simp [fitB, hE] at hb
      subst hb
      go_enter Tryz.func173, Tryz.ntmps173
      go_wp2
      go_ret
      exact ⟨rfl, (Below.refl _ _).alloc (Nat.le_refl _) _⟩
  by_cases h3 : k = 3
  · subst h3
    clear h0 h1 h2
    by_cases hn : n = 0
    · subst hn
      simp [fitB] at hb
      subst hb
      go_enter Tryz.func173, Tryz.ntmps173
      go_wp2
      go_ret
      exact ⟨rfl, (Below.refl _ _).alloc (Nat.le_refl _) _⟩
    · have hd : (n == 0) = false := by simpa using hn
      simp [fitB, hn] at hb
      subst hb
      clear hn
      go_enter Tryz.func173, Tryz.ntmps173
      go_wp2
      go_ret
      exact ⟨rfl, (Below.refl _ _).alloc (Nat.le_refl _) _⟩
  · have d0 : (k == 0) = false := by simpa using h0
    have d1 : (k == 1) = false := by simpa using h1
    have d2 : (k == 2) = false := by simpa using h2
    have d3 : (k == 3) = false := by simpa using h3
    simp [fitB, h0, h1, h2, h3] at hb
    subst hb
    clear h0 h1 h2 h3
    go_enter Tryz.func173, Tryz.ntmps173
    go_wp2
    go_ret
    exact ⟨rfl, (Below.refl _ _).alloc (Nat.le_refl _) _⟩
end Go.Proofs.YtplnojapnaaakaaGreatDoor
