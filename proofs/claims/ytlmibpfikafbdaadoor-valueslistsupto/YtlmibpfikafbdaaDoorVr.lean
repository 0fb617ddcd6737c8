/- There and back: what is read from a good value's text, and what text a read value has. -/
import Derived.Test.YtlmibpfikafbdaaDoorVq
import Derived.Lib.ItoaLen
namespace Go.Proofs.YtlmibpfikafbdaaDoor
open Go Go.RowKit Go.Lib
set_option linter.unusedVariables false

theorem dec_head {l : List UInt8} (h : isDec l = true) : l.head? ≠ some 39 := by
  intro hh
  cases l with
  | nil => cases hh
  | cons c r =>
    obtain rfl : c = 39 := by simpa using hh
    have hm : minus (39 :: r) = false := by simp [minus]
    have hb : body (39 :: r) = 39 :: r := by simp [body, hm]
    simp only [isDec, hb, Bool.and_eq_true] at h
    have := (numl_all h.1).1
    have := (allD_cons.1 this).1
    exact absurd this (by decide)
theorem dec_ne_lit {s : ByteArray} (h : isDec s.data.toList = true) : s ≠ sNull ∧ s ≠ sTrue ∧ s ≠ sFalse := by
  refine ⟨?_, ?_, ?_⟩ <;> (rintro rfl; exact absurd h (by decide))
theorem prs_dec {s : ByteArray} (h : isDec s.data.toList = true) : prs s = if rngB (valZ s.data.toList) then (0, 2, valZ s.data.toList, ⟨#[]⟩) else (4, 0, 0, ⟨#[]⟩) := by
  obtain ⟨h1, h2, h3⟩ := dec_ne_lit h
  rw [prs, if_neg h1, if_neg h2, if_neg h3, if_neg (dec_head h), if_pos h]
theorem quote_list (t : ByteArray) : (sQuote ++ t).data.toList = 39 :: t.data.toList := by
  rw [ByteArray.data_append, Array.toList_append]; rfl
theorem quote_ne {s c : ByteArray} (h : s.data.toList.head? = some 39) (hc : c.data.toList.head? ≠ some 39) : s ≠ c := by
  rintro rfl; exact hc h
theorem tlB_quote (t : ByteArray) : tlB (sQuote ++ t) = t := by
  unfold tlB
  rw [quote_list]
  simp

theorem prs_txt {k n : Int} {t : ByteArray} (h : chk k n t = 0) (hn : rngB n = true) : prs (txtOf k n t) = (0, k, n, t) := by
  rcases good_cases h with ⟨rfl, rfl, rfl⟩ | ⟨rfl, rfl, rfl⟩ | ⟨rfl, rfl, rfl⟩ | ⟨rfl, rfl⟩ | ⟨rfl, rfl, ht⟩
  · have e : txtOf 0 0 ⟨#[]⟩ = sNull := rfl
    rw [e, prs, if_pos rfl]
  · have e : txtOf 1 0 ⟨#[]⟩ = sFalse := rfl
    rw [e, prs, if_neg (by decide), if_neg (by decide), if_pos rfl]
  · have e : txtOf 1 1 ⟨#[]⟩ = sTrue := rfl
    rw [e, prs, if_neg (by decide), if_pos rfl]
  · have e : txtOf 2 n ⟨#[]⟩ = ⟨(itoa n).toArray⟩ := rfl
    have hl : (⟨(itoa n).toArray⟩ : ByteArray).data.toList = itoa n := by simp
    rw [e, prs_dec (by rw [hl]; exact isDec_itoa n), hl, valZ_itoa, if_pos hn]
  · have e : txtOf 3 0 t = sQuote ++ t := rfl
    have hh : (sQuote ++ t).data.toList.head? = some 39 := by rw [quote_list]; rfl
    rw [e, prs, if_neg (quote_ne hh (by decide)), if_neg (quote_ne hh (by decide)), if_neg (quote_ne hh (by decide)), if_pos hh, tlB_quote, if_pos ht]

theorem prs_ok {s : ByteArray} {k n : Int} {t : ByteArray} (h : prs s = (0, k, n, t)) : chk k n t = 0 ∧ txtOf k n t = s ∧ rngB n = true ∧ t.size ≤ s.size := by
  unfold prs at h
  by_cases h1 : s = sNull
  · rw [if_pos h1] at h
    simp only [Prod.mk.injEq, true_and] at h
    obtain ⟨rfl, rfl, rfl⟩ := h
    exact ⟨chk_null, by rw [h1]; rfl, rfl, Nat.zero_le _⟩
  rw [if_neg h1] at h
  by_cases h2 : s = sTrue
  · rw [if_pos h2] at h
    simp only [Prod.mk.injEq, true_and] at h
    obtain ⟨rfl, rfl, rfl⟩ := h
    exact ⟨chk_true, by rw [h2]; rfl, rfl, Nat.zero_le _⟩
  rw [if_neg h2] at h
  by_cases h3 : s = sFalse
  · rw [if_pos h3] at h
    simp only [Prod.mk.injEq, true_and] at h
    obtain ⟨rfl, rfl, rfl⟩ := h
    exact ⟨chk_false, by rw [h3]; rfl, rfl, Nat.zero_le _⟩
  rw [if_neg h3] at h
  by_cases h4 : s.data.toList.head? = some 39
  · rw [if_pos h4] at h
    by_cases h5 : txtE (tlB s) = 0
    · rw [if_pos h5] at h
      simp only [Prod.mk.injEq, true_and] at h
      obtain ⟨rfl, rfl, rfl⟩ := h
      refine ⟨by rw [chk_text]; exact h5, ?_, rfl, tlB_size s⟩
      apply ByteArray.ext; apply Array.ext'
      show (sQuote ++ tlB s).data.toList = _
      rw [quote_list]
      cases hs : s.data.toList with
      | nil => rw [hs] at h4; cases h4
      | cons c r =>
        rw [hs] at h4
        obtain rfl : c = 39 := by simpa using h4
        simp [tlB, hs]
    · rw [if_neg h5] at h
      simp only [Prod.mk.injEq] at h
      exact absurd h.1 h5
  rw [if_neg h4] at h
  cases h5 : isDec s.data.toList
  · rw [h5] at h; simp at h
  · rw [h5] at h
    simp only [if_true] at h
    cases h6 : rngB (valZ s.data.toList)
    · rw [h6] at h; simp at h
    · rw [h6] at h
      simp only [if_true, Prod.mk.injEq, true_and] at h
      obtain ⟨rfl, rfl, rfl⟩ := h
      refine ⟨chk_num _, ?_, h6, Nat.zero_le _⟩
      apply ByteArray.ext; apply Array.ext'
      show (⟨(itoa (valZ s.data.toList)).toArray⟩ : ByteArray).data.toList = _
      rw [itoa_valZ h5]

theorem txtOf_size {k n : Int} {t : ByteArray} (h : chk k n t = 0) (hn : rngB n = true) : (txtOf k n t).size ≤ 1048577 := by
  rcases good_cases h with ⟨rfl, rfl, rfl⟩ | ⟨rfl, rfl, rfl⟩ | ⟨rfl, rfl, rfl⟩ | ⟨rfl, rfl⟩ | ⟨rfl, rfl, ht⟩
  · show 4 ≤ _; omega
  · show 5 ≤ _; omega
  · show 4 ≤ _; omega
  · have e : txtOf 2 n ⟨#[]⟩ = ⟨(itoa n).toArray⟩ := rfl
    rw [e, ← size_toList]
    have := itoa_length_le n (rngB_iff.1 hn).1 (rngB_iff.1 hn).2
    simp; omega
  · have e : txtOf 3 0 t = sQuote ++ t := rfl
    rw [e, ← size_toList, quote_list, List.length_cons, size_toList]
    rcases txtE_cases t with ⟨_, _, h2⟩ | ⟨h2, _⟩ | ⟨h2, _⟩ <;> omega
theorem prs_le (s : ByteArray) : (prs s).1 ≤ 10 := by
  unfold prs
  repeat' split
  all_goals first | (simp; done) | (rcases txtE_cases (tlB s) with ⟨h, _⟩ | ⟨h, _⟩ | ⟨h, _⟩ <;> simp [h])
theorem valOf_iface (k n : Int) (t : ByteArray) : ∃ u x, valOf k n t = .iface u x := by
  unfold valOf
  repeat' split
  all_goals exact ⟨_, _, rfl⟩
end Go.Proofs.YtlmibpfikafbdaaDoor
