/- What values.isDecimal answers. -/
import Derived.Test.YtlmibpfikafbdaaDoorVx
import Derived.Lib.Strings
namespace Go.Proofs.YtlmibpfikafbdaaDoor
open Go Go.RowKit Go.Lib
set_option linter.unusedVariables false

theorem trim_body (l : List UInt8) : trimPrefix l [45] = body l := by
  unfold trimPrefix hasPrefix body minus
  cases l with
  | nil => rfl
  | cons c r =>
    by_cases h : c = 45
    · subst h; simp [List.isPrefixOf]
    · have h' : ¬ (45 : UInt8) = c := fun e => h e.symm
      simp [List.isPrefixOf, h, h']
theorem isDec_a {l : List UInt8} (h0 : l ≠ [48]) (h : body l = [] ∨ (body l).head? = some 48) : isDec l = false := by
  unfold isDec numl
  rcases h with h | h
  · simp [h]
  · cases hb : body l with
    | nil => rw [hb] at h; cases h
    | cons c r =>
      rw [hb] at h
      obtain rfl : c = 48 := by simpa using h
      by_cases hr : r = []
      · subst hr
        have hm : minus l = true := by
          by_cases hm : minus l = true
          · exact hm
          · exfalso; apply h0
            simpa [body, hm] using hb
        simp [hm]
      · simp [hr]
theorem isDec_b {l : List UInt8} (h1 : body l ≠ []) (h2 : (body l).head? ≠ some 48) : isDec l = allD (body l) := by
  unfold isDec numl
  cases hb : body l with
  | nil => exact absurd hb h1
  | cons c r =>
    rw [hb] at h2
    have hc : c ≠ 48 := by simpa using h2
    have e1 : ((c :: r) == [48]) = false := by simp [hc]
    have e2 : (some c != some (48 : UInt8)) = true := by simp [hc]
    rw [e1]
    simp only [List.head?_cons, e2]
    simp
theorem isDec_zero : isDec [48] = true := by decide

theorem isdec_zero (w : World) : Calls Tryd.prog 47 #[.string ⟨#[48]⟩] w fun e w' => e = .returned (.bool true) ∧ w' = w := by
  go_enter Tryd.func47, Tryd.ntmps47
  go_wp2
  go_ret
  exact ⟨rfl, rfl⟩

theorem dgt_no {c : UInt8} (h : dgt c = false) : (c.toNat : Int) < 48 ∨ (57 : Int) < c.toNat := by
  have : ¬ (48 ≤ c.toNat ∧ c.toNat ≤ 57) := fun h' => by rw [dgt_iff.2 h'] at h; cases h
  omega
theorem getL (D : ByteArray) (k : Nat) (h : k < D.size) : D.data.toList[k]'(by rw [size_toList]; exact h) = D[k] := rfl

set_option maxHeartbeats 400000 in
theorem isdec_loop (s D : ByteArray) (w : World) (h48 : (s.toList == [48]) = false) (c : ∀ W, Calls Tryd.prog 55 #[.string s, .string ⟨#[45]⟩] W fun e w' => e = .returned (.string D) ∧ w' = W)
    (hs : D.size ≤ 9223372036854775806) (h0 : 0 < D.size) (hE : D.toList.isEmpty = false) (hE' : ¬ D.toList = []) (hh : ((D[0].toNat : Int) == 48) = false) :
    Calls Tryd.prog 47 #[.string s] w fun e w' => e = .returned (.bool (allD D.data.toList)) ∧ w' = w := by
  have fin : Hid (∀ b, allD D.data.toList = b → Ending.returned (.bool b) = Ending.returned (.bool (allD D.data.toList))) := fun b hb => by rw [hb]
  obtain ⟨R, hR⟩ : ∃ R, allD D.data.toList = R := ⟨_, rfl⟩
  have HR : Hid (allD D.data.toList = R) := hR
  rw [hR]
  clear hR fin
  go_enter Tryd.func47, Tryd.ntmps47
  go_wp2_with (go_at_call 55; refine (c _).mono ?_; rintro e w' ⟨rfl, rfl⟩)
  clear c
  go_loop [18] (fun i => ∃ k : Nat, k ≤ D.size ∧ i = .int .i64 k ∧ allD (D.data.toList.take k) = true) (fun i => D.size - (RowKit.intOf i).toNat)
  case atStart => exact ⟨0, Nat.zero_le _, rfl, rfl⟩
  case round =>
    obtain ⟨k, hk, rfl, ha⟩ := hrel
    have HA : Hid (allD (D.data.toList.take k) = true) := ha
    clear ha
    by_cases hlt : k < D.size
    · have hltI : (k : Int) < D.size := by omega
      cases hd : dgt D[k]
      · have hd' := dgt_no hd
        have hR : R = false := by
          rw [← HR.out]
          have hm : D[k] ∈ D.data.toList := by rw [← getL D k hlt]; exact List.getElem_mem _
          cases hx : allD D.data.toList with
          | false => rfl
          | true =>
            have := List.all_eq_true.1 hx _ hm
            rw [hd] at this; cases this
        subst hR
        clear hd
        rcases hd' with h1 | h1
        · go_wp2
          go_ret
          exact ⟨rfl, rfl⟩
        · have h2 : ¬ (D[k].toNat : Int) < 48 := by omega
          go_wp2
          go_ret
          exact ⟨rfl, rfl⟩
      · have hd' := dgt_iff.1 hd
        have h1 : ¬ (D[k].toNat : Int) < 48 := by omega
        have h2 : ¬ (57 : Int) < (D[k].toNat : Int) := by omega
        have HD : Hid (dgt D[k] = true) := hd
        clear hd hd'
        go_wp2
        go_round
        case rel =>
          refine ⟨k + 1, by omega, by go_num, ?_⟩
          rw [List.take_succ_eq_append_getElem (by rw [size_toList]; exact hlt), allD_snoc, HA.out, getL D k hlt, HD.out]; rfl
        case measure => simp [RowKit.intOf]; omega
    · have hR : R = true := by
        rw [← HR.out, ← HA.out, List.take_of_length_le (by rw [size_toList]; omega)]
      have hltI : ¬ (k : Int) < D.size := by omega
      subst hR
      go_wp2
      go_ret
      exact ⟨rfl, rfl⟩

theorem isdec_any (s : ByteArray) (w : World) (hs : s.size ≤ 9223372036854775806) : Calls Tryd.prog 47 #[.string s] w fun e w' => e = .returned (.bool (isDec s.data.toList)) ∧ w' = w := by
  by_cases h0 : s = ⟨#[48]⟩
  · subst h0
    exact isdec_zero w
  have hl : s.data.toList ≠ [48] := fun h => h0 (ByteArray.ext (Array.ext' h))
  have h48 : (s.toList == [48]) = false := by rw [toList_data]; simpa using hl
  have c := fun W => Tryd.strings_TrimPrefix s ⟨#[45]⟩ W
  have hb : trimPrefix s.data.toList (ByteArray.mk #[45]).data.toList = body s.data.toList := trim_body _
  rw [hb] at c
  obtain ⟨D, hD⟩ : ∃ D : ByteArray, ⟨(body s.data.toList).toArray⟩ = D := ⟨_, rfl⟩
  rw [hD] at c
  have hDl : D.data.toList = body s.data.toList := by rw [← hD]
  have hDs : D.size ≤ s.size := by
    rw [← size_toList, hDl, ← size_toList]
    unfold body; split
    · simp
    · exact Nat.le_refl _
  clear hD hb
  by_cases he : body s.data.toList = []
  · rw [isDec_a hl (Or.inl he)]
    have e1 : D.toList = [] := by rw [toList_data, hDl, he]
    have e2 : D.toList.isEmpty = true := by rw [e1]; rfl
    clear hDl he h0 hl
    go_enter Tryd.func47, Tryd.ntmps47
    go_wp2_with (go_at_call 55; refine (c _).mono ?_; rintro e w' ⟨rfl, rfl⟩)
    go_ret
    exact ⟨rfl, rfl⟩
  · have e1 : ¬ D.toList = [] := by rw [toList_data, hDl]; exact he
    have e2 : D.toList.isEmpty = false := by simpa using e1
    have e3 : 0 < D.size := by
      rw [← size_toList]
      rcases Nat.eq_zero_or_pos D.data.toList.length with h | h
      · exact absurd (by rw [toList_data]; exact List.eq_nil_of_length_eq_zero h) e1
      · exact h
    have hh : (body s.data.toList).head? = some D[0] := by
      rw [← hDl, List.head?_eq_getElem?, List.getElem?_eq_getElem (by rw [size_toList]; exact e3)]; rfl
    by_cases hz : D[0] = 48
    · rw [isDec_a hl (Or.inr (by rw [hh, hz]))]
      have e4 : ((D[0].toNat : Int) == 48) = true := by rw [hz]; rfl
      clear hDl he h0 hl hh hz
      go_enter Tryd.func47, Tryd.ntmps47
      go_wp2_with (go_at_call 55; refine (c _).mono ?_; rintro e w' ⟨rfl, rfl⟩)
      go_ret
      exact ⟨rfl, rfl⟩
    · have e4 : ((D[0].toNat : Int) == 48) = false := by
        have : D[0].toNat ≠ 48 := fun h => hz (UInt8.toNat_inj.1 h)
        simp; omega
      rw [isDec_b he (by rw [hh]; simpa using hz), ← hDl]
      exact isdec_loop s D w h48 c (by omega) e3 e2 e1 e4
end Go.Proofs.YtlmibpfikafbdaaDoor
