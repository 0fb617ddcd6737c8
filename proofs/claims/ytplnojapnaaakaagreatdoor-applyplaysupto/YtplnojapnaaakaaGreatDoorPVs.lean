/- What values.Same and values.Compare answer. -/
import Derived.Test.YtplnojapnaaakaaGreatDoorPVf
import Derived.Deep.RegionHeld3
namespace Go.Proofs.YtplnojapnaaakaaGreatDoor
open Go Go.RowKit Go.Lib
set_option linter.unusedVariables false
def samB (k n : Int) (t : ByteArray) (k' n' : Int) (t' : ByteArray) : Bool := (k == k') && ((n == n') && (t.toList == t'.toList))
theorem samB_iff {k n : Int} {t : ByteArray} {k' n' : Int} {t' : ByteArray} : samB k n t k' n' t' = true ↔ k = k' ∧ n = n' ∧ t = t' := by
  simp only [samB, Bool.and_eq_true, beq_iff_eq, toList_data]
  constructor
  · rintro ⟨h1, h2, h3⟩
    exact ⟨h1, h2, ByteArray.ext (Array.ext' h3)⟩
  · rintro ⟨h1, h2, rfl⟩
    exact ⟨h1, h2, rfl⟩

theorem eqIn_pl (k n : Int) (t : ByteArray) (k' n' : Int) (t' : ByteArray) (w : World) :
    (Op.equalIn 10000 30 (pl k n t) (pl k' n' t')).run Tryz.prog w = .ok (samB k n t k' n' t') w := by
  rw [run_equalIn_agg w 9999 30 _ _ (by kernel_rfl) (by kernel_rfl)]
  simp only [Program.fieldsOf, Tryz.underlying30]
  go_simp
  by_cases h1 : k = k'
  · by_cases h2 : n = n'
    · by_cases h3 : t.toList = t'.toList <;> simp [samB, h1, h2, h3]
    · simp [samB, h1, h2]
  · simp [samB, h1]

end Go.Proofs.YtplnojapnaaakaaGreatDoor
