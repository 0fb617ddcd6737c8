/- Decimal numerals as lists of bytes: which lists are numerals, what they spell, and that strconv's answers agree; the order of texts. Of no program. -/
import Derived.Lib.ParseIntBTie
import Derived.Lib.ParseIntBCases
import Derived.Lib.ItoaNum
import Derived.Lib.Small
import Derived.Lib.Bytealg
import Derived.Laws.Strings
namespace Go.Proofs.YtplnojapnaaakaaGreatDoor
open Go Go.Lib
set_option linter.unusedVariables false
def minus (l : List UInt8) : Bool := l.head? == some 45
def body (l : List UInt8) : List UInt8 := if minus l then l.tail else l
/-! There and back. -/
/-! The order of texts. -/
theorem cb_range : ∀ a b : List UInt8, compareBytes a b = -1 ∨ compareBytes a b = 0 ∨ compareBytes a b = 1
  | [], [] => by simp [compareBytes]
  | [], _ :: _ => by simp [compareBytes]
  | _ :: _, [] => by simp [compareBytes]
  | a :: as, b :: bs => by
    rw [compareBytes]
    split
    · simp
    · split
      · simp
      · exact cb_range as bs
theorem u8_lt_asymm {a b : UInt8} (h : a < b) : ¬ b < a := by rw [UInt8.lt_iff_toNat_lt] at *; omega
theorem u8_eq {a b : UInt8} (h1 : ¬ a < b) (h2 : ¬ b < a) : a = b := by
  rw [UInt8.lt_iff_toNat_lt] at *
  exact UInt8.toNat_inj.1 (by omega)
theorem cb_swap : ∀ a b : List UInt8, compareBytes b a = - compareBytes a b
  | [], [] => by simp [compareBytes]
  | [], _ :: _ => by simp [compareBytes]
  | _ :: _, [] => by simp [compareBytes]
  | a :: as, b :: bs => by
    by_cases h1 : a < b
    · simp [compareBytes, h1, u8_lt_asymm h1]
    · by_cases h2 : b < a
      · simp [compareBytes, h1, h2]
      · simp [compareBytes, h1, h2, cb_swap as bs]
theorem cb_zero : ∀ a b : List UInt8, compareBytes a b = 0 ↔ a = b
  | [], [] => by simp [compareBytes]
  | [], _ :: _ => by simp [compareBytes]
  | _ :: _, [] => by simp [compareBytes]
  | a :: as, b :: bs => by
    rw [compareBytes]
    by_cases h1 : a < b
    · rw [if_pos h1]
      have : a ≠ b := by rintro rfl; exact u8_lt_asymm h1 h1
      simp [this]
    · by_cases h2 : b < a
      · rw [if_neg h1, if_pos h2]
        have : a ≠ b := by rintro rfl; exact h1 h2
        simp [this]
      · rw [if_neg h1, if_neg h2, cb_zero as bs, u8_eq h1 h2]; simp
theorem cb_trans : ∀ a b c : List UInt8, compareBytes a b ≤ 0 → compareBytes b c ≤ 0 → compareBytes a c ≤ 0 ∧ (compareBytes a b < 0 → compareBytes a c < 0) ∧ (compareBytes b c < 0 → compareBytes a c < 0)
  | [], [], [], _, _ => by simp [compareBytes]
  | [], [], _ :: _, _, _ => by simp [compareBytes]
  | [], _ :: _, [], _, h => by simp [compareBytes] at h
  | [], _ :: _, _ :: _, _, _ => by simp [compareBytes]
  | _ :: _, [], _, h, _ => by simp [compareBytes] at h
  | _ :: _, _ :: _, [], _, h => by simp [compareBytes] at h
  | a :: as, b :: bs, c :: cs, h1, h2 => by
    rw [compareBytes] at h1 h2
    rw [compareBytes, compareBytes, compareBytes]
    by_cases a1 : a < b
    · by_cases b1 : b < c
      · have : a < c := by rw [UInt8.lt_iff_toNat_lt] at *; omega
        simp [this]
      · by_cases b2 : c < b
        · rw [if_neg b1, if_pos b2] at h2; omega
        · have : a < c := by rw [UInt8.lt_iff_toNat_lt] at *; omega
          simp [this]
    · by_cases a2 : b < a
      · rw [if_neg a1, if_pos a2] at h1; omega
      · obtain rfl := u8_eq a1 a2
        by_cases b1 : a < c
        · simp [b1]
        · by_cases b2 : c < a
          · rw [if_neg b1, if_pos b2] at h2; omega
          · rw [if_neg a1, if_neg a1] at h1
            rw [if_neg b1, if_neg b2] at h2
            have := cb_trans as bs cs h1 h2
            simp only [if_neg b1, if_neg b2, if_neg a1]
            exact this
theorem cb_less : ∀ a b : List UInt8, Op.bytesLess a b = decide (compareBytes a b < 0)
  | [], [] => by simp [compareBytes, Op.bytesLess]
  | [], _ :: _ => by simp [compareBytes, Op.bytesLess]
  | _ :: _, [] => by simp [compareBytes, Op.bytesLess]
  | a :: as, b :: bs => by
    rw [compareBytes, Op.bytesLess]
    by_cases h1 : a < b
    · simp [h1]
    · by_cases h2 : b < a
      · have : a ≠ b := by rintro rfl; exact h1 h2
        simp [h1, h2, this]
      · obtain rfl := u8_eq h1 h2
        simp [h1, cb_less as bs]
end Go.Proofs.YtplnojapnaaakaaGreatDoor
