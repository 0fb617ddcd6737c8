/- The order of Plains: a total order. -/
import Derived.Test.YtigmhbgdnmkooaaDoorVs
namespace Go.Proofs.YtigmhbgdnmkooaaDoor
open Go Go.RowKit Go.Lib
set_option linter.unusedVariables false

theorem ci_cases (x y : Int) : (x < y ∧ compareInt x y = -1) ∨ (x = y ∧ compareInt x y = 0) ∨ (y < x ∧ compareInt x y = 1) := by
  unfold compareInt
  by_cases h : x < y
  · left; simp [h]
  · by_cases h2 : x > y
    · right; right; simp [h, h2]
    · right; left
      refine ⟨by omega, by simp [h, h2]⟩
theorem cmp_range (k n : Int) (t : ByteArray) (k' n' : Int) (t' : ByteArray) : -1 ≤ cmpP k n t k' n' t' ∧ cmpP k n t k' n' t' ≤ 1 := by
  unfold cmpP orZ
  have h3 := cb_range t.data.toList t'.data.toList
  rcases ci_cases k k' with ⟨_, h1⟩ | ⟨_, h1⟩ | ⟨_, h1⟩ <;> rw [h1] <;> simp
  rcases ci_cases n n' with ⟨_, h2⟩ | ⟨_, h2⟩ | ⟨_, h2⟩ <;> rw [h2] <;> simp
  omega
theorem cmp_swap (k n : Int) (t : ByteArray) (k' n' : Int) (t' : ByteArray) : cmpP k' n' t' k n t = - cmpP k n t k' n' t' := by
  unfold cmpP orZ
  rcases ci_cases k k' with ⟨a1, h1⟩ | ⟨a1, h1⟩ | ⟨a1, h1⟩ <;> rcases ci_cases k' k with ⟨a2, h2⟩ | ⟨a2, h2⟩ | ⟨a2, h2⟩ <;> rw [h1, h2] <;> simp <;> (try omega)
  rcases ci_cases n n' with ⟨b1, g1⟩ | ⟨b1, g1⟩ | ⟨b1, g1⟩ <;> rcases ci_cases n' n with ⟨b2, g2⟩ | ⟨b2, g2⟩ | ⟨b2, g2⟩ <;> rw [g1, g2] <;> simp <;> (try omega)
  exact cb_swap _ _
theorem cmp_zero (k n : Int) (t : ByteArray) (k' n' : Int) (t' : ByteArray) : cmpP k n t k' n' t' = 0 ↔ samB k n t k' n' t' = true := by
  rw [samB_iff]
  unfold cmpP orZ
  rcases ci_cases k k' with ⟨a1, h1⟩ | ⟨a1, h1⟩ | ⟨a1, h1⟩ <;> rw [h1] <;> simp
  · omega
  · rcases ci_cases n n' with ⟨b1, g1⟩ | ⟨b1, g1⟩ | ⟨b1, g1⟩ <;> rw [g1] <;> simp
    · omega
    · rw [cb_zero]
      constructor
      · intro h; exact ⟨a1, b1, ByteArray.ext (Array.ext' h)⟩
      · rintro ⟨_, _, rfl⟩; rfl
    · omega
  · omega
theorem cmp_trans (k n : Int) (t : ByteArray) (k' n' : Int) (t' : ByteArray) (k2 n2 : Int) (t2 : ByteArray) (h1 : cmpP k n t k' n' t' ≤ 0) (h2 : cmpP k' n' t' k2 n2 t2 ≤ 0) :
    cmpP k n t k2 n2 t2 ≤ 0 ∧ (cmpP k n t k' n' t' < 0 → cmpP k n t k2 n2 t2 < 0) := by
  unfold cmpP orZ at *
  rcases ci_cases k k' with ⟨a1, e1⟩ | ⟨a1, e1⟩ | ⟨a1, e1⟩ <;> rw [e1] at h1 ⊢ <;>
  rcases ci_cases k' k2 with ⟨a2, e2⟩ | ⟨a2, e2⟩ | ⟨a2, e2⟩ <;> rw [e2] at h2 <;>
  rcases ci_cases k k2 with ⟨a3, e3⟩ | ⟨a3, e3⟩ | ⟨a3, e3⟩ <;> rw [e3] <;> simp at h1 h2 ⊢ <;> (try omega)
  rcases ci_cases n n' with ⟨b1, g1⟩ | ⟨b1, g1⟩ | ⟨b1, g1⟩ <;> rw [g1] at h1 ⊢ <;>
  rcases ci_cases n' n2 with ⟨b2, g2⟩ | ⟨b2, g2⟩ | ⟨b2, g2⟩ <;> rw [g2] at h2 <;>
  rcases ci_cases n n2 with ⟨b3, g3⟩ | ⟨b3, g3⟩ | ⟨b3, g3⟩ <;> rw [g3] <;> simp at h1 h2 ⊢ <;> (try omega)
  have := cb_trans _ _ _ h1 h2
  exact ⟨this.1, this.2.1⟩
theorem cmp_num {k n n' : Int} : cmpP k n ⟨#[]⟩ k n' ⟨#[]⟩ = compareInt n n' := by
  unfold cmpP orZ
  rcases ci_cases k k with ⟨a1, h1⟩ | ⟨a1, h1⟩ | ⟨a1, h1⟩
  · omega
  · rw [h1]; simp
    intro h
    rw [h, cb_zero]
  · omega
theorem cmp_text {t t' : ByteArray} : cmpP 3 0 t 3 0 t' = compareBytes t.data.toList t'.data.toList := by
  unfold cmpP orZ
  rcases ci_cases 3 3 with ⟨a1, h1⟩ | ⟨a1, h1⟩ | ⟨a1, h1⟩
  · omega
  · rcases ci_cases 0 0 with ⟨a2, h2⟩ | ⟨a2, h2⟩ | ⟨a2, h2⟩
    · omega
    · rw [h1, h2]; simp
    · omega
  · omega

end Go.Proofs.YtigmhbgdnmkooaaDoor
