/- Attribute values as plain data and as values of the interface: what Check says, the value, the text, the order. -/
import Derived.Test.YtplnojapnaaakaaGreatDoorPEr
import Derived.Test.YtplnojapnaaakaaGreatDoorPUtf
import Derived.Test.YtplnojapnaaakaaGreatDoorPDg
import Derived.Stop.Asserts
import Derived.Lib.IfaceEq
namespace Go.Proofs.YtplnojapnaaakaaGreatDoor
open Go Go.RowKit Go.Lib
set_option linter.unusedVariables false
abbrev pl (k n : Int) (t : ByteArray) : Value := .agg #[.int .i64 k, .int .i64 n, .string t]
def fitB (k n : Int) (t : ByteArray) : Bool :=
  if k = 0 then decide (n = 0) && t.toList.isEmpty else if k = 1 then (decide (n = 0) || decide (n = 1)) && t.toList.isEmpty else if k = 2 then t.toList.isEmpty else if k = 3 then decide (n = 0) else false
/-- What a text is refused with: 1 (UTF-8), 10 (limit); 0: it is good. -/
def txtE (t : ByteArray) : Nat := if brk t.data.toList = t.size then (if t.size ≤ 1048576 then 0 else 10) else 1
def chk (k n : Int) (t : ByteArray) : Nat := if fitB k n t then txtE t else 5
def valOf (k n : Int) (t : ByteArray) : Value :=
  if k = 1 then .iface 227 (.bool (n == 1)) else if k = 2 then .iface 228 (.int .i64 n) else if k = 3 then .iface 229 (.string t) else .iface 231 (.agg #[])

theorem toList_data (t : ByteArray) : t.toList = t.data.toList := ByteArray.toList_eq t
theorem emp_iff {t : ByteArray} : t.toList.isEmpty = true ↔ t = ⟨#[]⟩ := by
  rw [toList_data, List.isEmpty_iff]
  constructor
  · intro h; apply ByteArray.ext; apply Array.ext'; rw [h]
  · rintro rfl; rfl
theorem txtE_nil : txtE ⟨#[]⟩ = 0 := by
  have h : brk ([] : List UInt8) = 0 := by have := brk_eq (rs := []) (t := []) (by simp) (Or.inl rfl); simpa [encs] using this
  show (if brk [] = 0 then _ else _) = 0
  rw [if_pos h]; rfl
theorem txtE_cases (t : ByteArray) : (txtE t = 0 ∧ brk t.data.toList = t.size ∧ t.size ≤ 1048576) ∨ (txtE t = 10 ∧ brk t.data.toList = t.size ∧ 1048576 < t.size) ∨ (txtE t = 1 ∧ brk t.data.toList ≠ t.size) := by
  unfold txtE
  by_cases h : brk t.data.toList = t.size
  · by_cases h2 : t.size ≤ 1048576
    · left; simp [h, h2]
    · right; left; simp [h, h2]; omega
  · right; right; simp [h]

/-- The good ones, one by one. -/
theorem good_cases {k n : Int} {t : ByteArray} (h : chk k n t = 0) :
    (k = 0 ∧ n = 0 ∧ t = ⟨#[]⟩) ∨ (k = 1 ∧ n = 0 ∧ t = ⟨#[]⟩) ∨ (k = 1 ∧ n = 1 ∧ t = ⟨#[]⟩) ∨ (k = 2 ∧ t = ⟨#[]⟩) ∨ (k = 3 ∧ n = 0 ∧ txtE t = 0) := by
  unfold chk at h
  by_cases hf : fitB k n t = true
  · rw [if_pos hf] at h
    unfold fitB at hf
    by_cases h0 : k = 0
    · rw [if_pos h0, Bool.and_eq_true, decide_eq_true_eq, emp_iff] at hf
      exact Or.inl ⟨h0, hf⟩
    · rw [if_neg h0] at hf
      by_cases h1 : k = 1
      · rw [if_pos h1, Bool.and_eq_true, Bool.or_eq_true, decide_eq_true_eq, decide_eq_true_eq, emp_iff] at hf
        rcases hf.1 with h2 | h2
        · exact Or.inr (Or.inl ⟨h1, h2, hf.2⟩)
        · exact Or.inr (Or.inr (Or.inl ⟨h1, h2, hf.2⟩))
      · rw [if_neg h1] at hf
        by_cases h2 : k = 2
        · rw [if_pos h2, emp_iff] at hf
          exact Or.inr (Or.inr (Or.inr (Or.inl ⟨h2, hf⟩)))
        · rw [if_neg h2] at hf
          by_cases h3 : k = 3
          · rw [if_pos h3, decide_eq_true_eq] at hf
            exact Or.inr (Or.inr (Or.inr (Or.inr ⟨h3, hf, h⟩)))
          · rw [if_neg h3] at hf; cases hf
  · rw [if_neg hf] at h; cases h
theorem chk_null : chk 0 0 ⟨#[]⟩ = 0 := by
  have : fitB 0 0 ⟨#[]⟩ = true := by simp [fitB]
  rw [chk, if_pos this, txtE_nil]
theorem chk_text (t : ByteArray) : chk 3 0 t = txtE t := by
  have : fitB 3 0 t = true := by simp [fitB]
  rw [chk, if_pos this]
end Go.Proofs.YtplnojapnaaakaaGreatDoor
