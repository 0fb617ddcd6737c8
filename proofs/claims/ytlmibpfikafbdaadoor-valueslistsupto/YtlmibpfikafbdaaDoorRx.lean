/- What the reference of layer 2 answers: Digits. -/
import Derived.Test.YtlmibpfikafbdaaDoorRw
import Derived.Test.YtlmibpfikafbdaaDoorVp
namespace Go.Proofs.YtlmibpfikafbdaaDoor
open Go Go.RowKit Go.Lib
set_option linter.unusedVariables false

theorem numl_size {l : List UInt8} (h : allD l = true) : numl l = if l.length = 0 then false else if l.length = 1 then true else (l.head? != some 48) := by
  unfold numl
  rw [h]
  match l with
  | [] => simp
  | [c] =>
    by_cases hc : c = 48
    · subst hc; simp
    · have : (some c != some (48 : UInt8)) = true := by simp [hc]
      simp [this]
  | c :: d :: r => simp

set_option maxHeartbeats 1000000 in
theorem digits_minus (s D : ByteArray) (w : World) (hs : s.size ≤ 281474976710656) (h0 : (0 : Int) < s.size) (h0' : 0 < s.size) (hm : ((s[0].toNat : Int) == 45) = true) (hD : s.extract 1 s.size = D) (h48 : (D.toList == [48]) = false) (R : Bool) (hR : numl D.data.toList = R) :
    Calls Tryd.prog 36 #[.string s] w fun e w' => e = .returned (.bool R) ∧ w' = w := by
  have HN : Hid (numl D.data.toList = R) := hR
  have hDs : D.size ≤ 281474976710656 := by
    rw [← hD, ← size_toList, extract_data, List.length_take, List.length_drop, size_toList]; omega
  clear hR
  go_enter Tryd.func36, Tryd.ntmps36
  go_wp2
  go_loop [3] (fun i => ∃ k : Nat, k ≤ D.size ∧ i = .int .i64 k ∧ allD (D.data.toList.take k) = true) (fun i => D.size - (RowKit.intOf i).toNat)
  case atStart => exact ⟨0, Nat.zero_le _, rfl, rfl⟩
  case round =>
    obtain ⟨k, hk, rfl, ha⟩ := hrel
    have HA : Hid (allD (D.data.toList.take k) = true) := ha
    clear ha
    by_cases hlt : k < D.size
    · have hltI : (k : Int) < D.size := by omega
      cases hd : dgt D[k]
      · have hd' := dgt_no hd
        have hRf : R = false := by
          rw [← HN.out]
          have hm : D[k] ∈ D.data.toList := by rw [← getL D k hlt]; exact List.getElem_mem _
          cases hx : allD D.data.toList with
          | false => unfold numl; rw [hx]; rfl
          | true =>
            have := List.all_eq_true.1 hx _ hm
            rw [hd] at this; cases this
        subst hRf
        clear hd
        rcases hd' with h1 | h1
        · go_wp2
          go_ret
          exact ⟨rfl, rfl⟩
        · have h2 : ¬ (D[k].toNat : Int) < 48 := by omega
          go_wp2
          go_ret
          exact ⟨rfl, rfl⟩
      · have hd' := dgt_iff.1 hd
        have h1 : ¬ (D[k].toNat : Int) < 48 := by omega
        have h2 : ¬ (57 : Int) < (D[k].toNat : Int) := by omega
        have HD : Hid (dgt D[k] = true) := hd
        clear hd hd'
        go_wp2
        go_round
        case rel =>
          refine ⟨k + 1, by omega, by go_num, ?_⟩
          rw [List.take_succ_eq_append_getElem (by rw [size_toList]; exact hlt), allD_snoc, HA.out, getL D k hlt, HD.out]; rfl
        case measure => simp [RowKit.intOf]; omega
    · have hall : allD D.data.toList = true := by
        rw [← HA.out, List.take_of_length_le (by rw [size_toList]; omega)]
      have hltI : ¬ (k : Int) < D.size := by omega
      have hR := numl_size hall
      rw [HN.out, size_toList] at hR
      clear hall
      by_cases z0 : D.size = 0
      · have y1 : ((D.size : Int) == 1) = false := by simp; omega
        have y2 : ¬ (1 : Int) < D.size := by omega
        have y3 : R = false := by rw [hR, if_pos z0]
        subst y3
        clear hR z0
        go_wp2
        go_ret
        exact ⟨rfl, rfl⟩
      by_cases z1 : D.size = 1
      · have y1 : ((D.size : Int) == 1) = true := by simp; omega
        have y3 : R = true := by rw [hR, if_neg z0, if_pos z1]
        subst y3
        clear hR z0 z1
        go_wp2
        go_ret
        exact ⟨rfl, rfl⟩
      · have y1 : ((D.size : Int) == 1) = false := by simp; omega
        have y2 : (1 : Int) < D.size := by omega
        have y4 : 0 < D.size := by omega
        have y5 : D.data.toList.head? = some D[0] := by
          rw [List.head?_eq_getElem?, List.getElem?_eq_getElem (by rw [size_toList]; exact y4)]; rfl
        rw [if_neg z0, if_neg z1, y5] at hR
        clear z0 z1 y5
        by_cases hz : D[0] = 48
        · have e4 : ((D[0].toNat : Int) == 48) = true := by rw [hz]; rfl
          have e5 : ((D[0].toNat : Int) != 48) = false := by rw [hz]; rfl
          have y3 : R = false := by rw [hR, hz]; rfl
          subst y3
          clear hR hz
          go_wp2
          go_ret
          exact ⟨rfl, rfl⟩
        · have e6 : D[0].toNat ≠ 48 := fun h => hz (UInt8.toNat_inj.1 h)
          have e4 : ((D[0].toNat : Int) == 48) = false := by simp; omega
          have e5 : ((D[0].toNat : Int) != 48) = true := by simp; omega
          have y3 : R = true := by rw [hR]; simp [hz]
          subst y3
          clear hR hz e6
          go_wp2
          go_ret
          exact ⟨rfl, rfl⟩

set_option maxHeartbeats 1000000 in
theorem digits_plain (D : ByteArray) (w : World) (hs : D.size ≤ 281474976710656) (hm : D.size = 0 ∨ ∃ h : 0 < D.size, ((D[0].toNat : Int) == 45) = false) (R : Bool) (hR : numl D.data.toList = R) :
    Calls Tryd.prog 36 #[.string D] w fun e w' => e = .returned (.bool R) ∧ w' = w := by
  have HN : Hid (numl D.data.toList = R) := hR
  clear hR
  rcases hm with h0 | ⟨h0, hm⟩
  · have h0I : ¬ (0 : Int) < D.size := by omega
    have hRf : R = false := by
      have hn : D.data.toList = [] := List.eq_nil_of_length_eq_zero (by rw [size_toList]; exact h0)
      rw [← HN.out, hn]; rfl
    have y1 : ((D.size : Int) == 1) = false := by simp; omega
    have y2 : ¬ (1 : Int) < D.size := by omega
    subst hRf
    clear h0
    go_enter Tryd.func36, Tryd.ntmps36
    go_wp2
    refine wp_loop_rounds 1 ?_
    rw [rounds_succ]
    go_wp2
    go_ret
    exact ⟨rfl, rfl⟩
  have h0I : (0 : Int) < D.size := by omega
  go_enter Tryd.func36, Tryd.ntmps36
  go_wp2
  clear hm
  go_loop [3] (fun i => ∃ k : Nat, k ≤ D.size ∧ i = .int .i64 k ∧ allD (D.data.toList.take k) = true) (fun i => D.size - (RowKit.intOf i).toNat)
  case atStart => exact ⟨0, Nat.zero_le _, rfl, rfl⟩
  case round =>
    obtain ⟨k, hk, rfl, ha⟩ := hrel
    have HA : Hid (allD (D.data.toList.take k) = true) := ha
    clear ha
    by_cases hlt : k < D.size
    · have hltI : (k : Int) < D.size := by omega
      cases hd : dgt D[k]
      · have hd' := dgt_no hd
        have hRf : R = false := by
          rw [← HN.out]
          have hm : D[k] ∈ D.data.toList := by rw [← getL D k hlt]; exact List.getElem_mem _
          cases hx : allD D.data.toList with
          | false => unfold numl; rw [hx]; rfl
          | true =>
            have := List.all_eq_true.1 hx _ hm
            rw [hd] at this; cases this
        subst hRf
        clear hd
        rcases hd' with h1 | h1
        · go_wp2
          go_ret
          exact ⟨rfl, rfl⟩
        · have h2 : ¬ (D[k].toNat : Int) < 48 := by omega
          go_wp2
          go_ret
          exact ⟨rfl, rfl⟩
      · have hd' := dgt_iff.1 hd
        have h1 : ¬ (D[k].toNat : Int) < 48 := by omega
        have h2 : ¬ (57 : Int) < (D[k].toNat : Int) := by omega
        have HD : Hid (dgt D[k] = true) := hd
        clear hd hd'
        go_wp2
        go_round
        case rel =>
          refine ⟨k + 1, by omega, by go_num, ?_⟩
          rw [List.take_succ_eq_append_getElem (by rw [size_toList]; exact hlt), allD_snoc, HA.out, getL D k hlt, HD.out]; rfl
        case measure => simp [RowKit.intOf]; omega
    · have hall : allD D.data.toList = true := by
        rw [← HA.out, List.take_of_length_le (by rw [size_toList]; omega)]
      have hltI : ¬ (k : Int) < D.size := by omega
      have hR := numl_size hall
      rw [HN.out, size_toList] at hR
      clear hall
      by_cases z0 : D.size = 0
      · have y1 : ((D.size : Int) == 1) = false := by simp; omega
        have y2 : ¬ (1 : Int) < D.size := by omega
        have y3 : R = false := by rw [hR, if_pos z0]
        subst y3
        clear hR z0
        go_wp2
        go_ret
        exact ⟨rfl, rfl⟩
      by_cases z1 : D.size = 1
      · have y1 : ((D.size : Int) == 1) = true := by simp; omega
        have y3 : R = true := by rw [hR, if_neg z0, if_pos z1]
        subst y3
        clear hR z0 z1
        go_wp2
        go_ret
        exact ⟨rfl, rfl⟩
      · have y1 : ((D.size : Int) == 1) = false := by simp; omega
        have y2 : (1 : Int) < D.size := by omega
        have y4 : 0 < D.size := by omega
        have y5 : D.data.toList.head? = some D[0] := by
          rw [List.head?_eq_getElem?, List.getElem?_eq_getElem (by rw [size_toList]; exact y4)]; rfl
        rw [if_neg z0, if_neg z1, y5] at hR
        clear z0 z1 y5
        by_cases hz : D[0] = 48
        · have e4 : ((D[0].toNat : Int) == 48) = true := by rw [hz]; rfl
          have e5 : ((D[0].toNat : Int) != 48) = false := by rw [hz]; rfl
          have y3 : R = false := by rw [hR, hz]; rfl
          subst y3
          clear hR hz
          go_wp2
          go_ret
          exact ⟨rfl, rfl⟩
        · have e6 : D[0].toNat ≠ 48 := fun h => hz (UInt8.toNat_inj.1 h)
          have e4 : ((D[0].toNat : Int) == 48) = false := by simp; omega
          have e5 : ((D[0].toNat : Int) != 48) = true := by simp; omega
          have y3 : R = true := by rw [hR]; simp [hz]
          subst y3
          clear hR hz e6
          go_wp2
          go_ret
          exact ⟨rfl, rfl⟩

theorem digits_zero (s : ByteArray) (w : World) (h0 : (0 : Int) < s.size) (h0' : 0 < s.size) (hs : s.size ≤ 281474976710656) (hm : ((s[0].toNat : Int) == 45) = true) (hD : s.extract 1 s.size = ⟨#[48]⟩) :
    Calls Tryd.prog 36 #[.string s] w fun e w' => e = .returned (.bool false) ∧ w' = w := by
  go_enter Tryd.func36, Tryd.ntmps36
  go_wp2
  go_ret
  exact ⟨rfl, rfl⟩

theorem tl_extract (s : ByteArray) : s.extract 1 s.size = tlB s := by
  refine extract_of s _ 1 s.size ?_
  cases h : s.data.toList with
  | nil => simp
  | cons c r =>
    have : s.size = r.length + 1 := by rw [← size_toList, h]; rfl
    rw [this]; simp
theorem ref_digits (s : ByteArray) (w : World) (hs : s.size ≤ 281474976710656) :
    Calls Tryd.prog 36 #[.string s] w fun e w' => e = .returned (.bool (isDec s.data.toList)) ∧ w' = w := by
  by_cases hm : minus s.data.toList = true
  · have h0 : 0 < s.size := by
      rw [← size_toList]
      cases h : s.data.toList with
      | nil => rw [h] at hm; cases hm
      | cons c r => simp
    have hh : s.data.toList.head? = some s[0] := by
      rw [List.head?_eq_getElem?, List.getElem?_eq_getElem (by rw [size_toList]; exact h0)]; rfl
    have h45 : s[0] = 45 := by
      rw [minus, hh] at hm; simpa using hm
    have e1 : ((s[0].toNat : Int) == 45) = true := by rw [h45]; rfl
    have hb : body s.data.toList = (tlB s).data.toList := by
      rw [body, if_pos hm]; simp [tlB]
    by_cases h48 : tlB s = ⟨#[48]⟩
    · have : isDec s.data.toList = false := by
        rw [isDec, hb, h48, hm]; rfl
      rw [this]
      exact digits_zero s w (by omega) h0 hs e1 (by rw [tl_extract, h48])
    · have hne : (tlB s).data.toList ≠ [48] := fun h => h48 (ByteArray.ext (Array.ext' h))
      refine digits_minus s (tlB s) w hs (by omega) h0 e1 (tl_extract s) (by rw [toList_data]; simpa using hne) _ ?_
      rw [isDec, hb, hm]
      simp [hne]
  · have hm' : minus s.data.toList = false := by simpa using hm
    have hb : body s.data.toList = s.data.toList := by rw [body, hm']; rfl
    refine digits_plain s w hs ?_ _ (by rw [isDec, hb, hm']; simp)
    rcases Nat.eq_zero_or_pos s.size with h | h
    · exact Or.inl h
    · right
      refine ⟨h, ?_⟩
      have hh : s.data.toList.head? = some s[0] := by
        rw [List.head?_eq_getElem?, List.getElem?_eq_getElem (by rw [size_toList]; exact h)]; rfl
      have h45 : s[0] ≠ 45 := by
        rw [minus, hh] at hm'; simpa using hm'
      have : s[0].toNat ≠ 45 := fun h => h45 (UInt8.toNat_inj.1 h)
      simp; omega
end Go.Proofs.YtlmibpfikafbdaaDoor
