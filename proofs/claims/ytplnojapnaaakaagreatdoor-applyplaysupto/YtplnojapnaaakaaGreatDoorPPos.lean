/- Where the scalars of a text begin. -/
import Derived.Test.YtplnojapnaaakaaGreatDoorPSc
namespace Go.Proofs.YtplnojapnaaakaaGreatDoor
open Go Go.RowKit Go.Lib
set_option linter.unusedVariables false
/-- Where the i-th scalar begins. -/
def pos (rs : List Nat) (i : Nat) : Nat := (encs (rs.take i)).length

theorem pos_succ (rs : List Nat) (i : Nat) (h : i < rs.length) : pos rs (i + 1) = pos rs i + (enc rs[i]).length := by
  unfold pos
  rw [List.take_succ_eq_append_getElem h, encs_snoc, List.length_append]
theorem encs_take_drop (rs : List Nat) (i : Nat) : encs rs = encs (rs.take i) ++ encs (rs.drop i) := by
  rw [← encs_append, List.take_append_drop]
theorem drop_pos (rs : List Nat) (i : Nat) : (encs rs).drop (pos rs i) = encs (rs.drop i) := by
  conv => lhs; rw [encs_take_drop rs i]
  exact List.drop_left
theorem take_pos (rs : List Nat) (i : Nat) : (encs rs).take (pos rs i) = encs (rs.take i) := by
  conv => lhs; rw [encs_take_drop rs i]
  exact List.take_left
theorem pos_le (rs : List Nat) (i : Nat) : pos rs i ≤ (encs rs).length := by
  rw [encs_take_drop rs i, List.length_append]; exact Nat.le_add_right _ _
theorem pos_all (rs : List Nat) : pos rs rs.length = (encs rs).length := by unfold pos; rw [List.take_length]
theorem extract_of (s : ByteArray) (l : List UInt8) (i j : Nat) (h : (s.data.toList.drop i).take (j - i) = l) : s.extract i j = ⟨l.toArray⟩ := by
  apply ByteArray.ext
  apply Array.ext'
  rw [← h]
  exact extract_data s i j
end Go.Proofs.YtplnojapnaaakaaGreatDoor
