/- What the reference of layer 2 answers: Whole. -/
import Derived.Test.YtlmibpfikafbdaaDoorRy
namespace Go.Proofs.YtlmibpfikafbdaaDoor
open Go Go.RowKit Go.Lib
set_option linter.unusedVariables false

theorem valD_top {l : List UInt8} (h : allD l = true) (n : Nat) (hn : l.length ≤ n) : valD 0 l + 1 ≤ 10 ^ n := by
  have h1 := valD_lt l 0 h
  have h2 : 10 ^ l.length ≤ 10 ^ n := Nat.pow_le_pow_right (by omega) hn
  omega
theorem allD_take {l : List UInt8} (h : allD l = true) (k : Nat) : allD (l.take k) = true := by
  unfold allD at *
  rw [List.all_eq_true] at *
  intro x hx
  exact h x (List.mem_of_mem_take hx)
theorem dgt_at {D : ByteArray} (h : allD D.data.toList = true) (k : Nat) (hk : k < D.size) : 48 ≤ D[k].toNat ∧ D[k].toNat ≤ 57 := by
  have hm : D[k] ∈ D.data.toList := by rw [← getL D k hk]; exact List.getElem_mem _
  have := List.all_eq_true.1 h _ hm
  exact dgt_iff.1 this

theorem neg_back (N : Nat) (h : N ≤ 9223372036854775808) : wrap64 (IntKind.u64.wrap (-(N : Int))) = -(N : Int) := by
  rw [IntKind.wrap_u64]
  simp only [wrap64]
  omega

set_option maxHeartbeats 1000000 in
theorem whole_minus (s D : ByteArray) (w : World) (h0 : (0 : Int) < s.size) (h0' : 0 < s.size) (hs : s.size ≤ 281474976710656) (hm : ((s[0].toNat : Int) == 45) = true) (hD : s.extract 1 s.size = D) (hl : D.size ≤ 19) (ha : allD D.data.toList = true) (N : Nat) (hN : valD 0 D.data.toList = N) (R : Value)
    (hR : R = if N ≤ 9223372036854775808 then .tuple #[.int .i64 (-(N : Int)), .bool true] else .tuple #[.int .i64 0, .bool false]) :
    Calls Tryd.prog 37 #[.string s] w fun e w' => e = .returned R ∧ w' = w := by
  have HN : Hid (valD 0 D.data.toList = N) := hN
  have HA : Hid (allD D.data.toList = true) := ha
  have HR : Hid (R = if N ≤ 9223372036854775808 then .tuple #[.int .i64 (-(N : Int)), .bool true] else .tuple #[.int .i64 0, .bool false]) := hR
  have hlI : ¬ (19 : Int) < D.size := by omega
  clear hR hN ha
  go_enter Tryd.func37, Tryd.ntmps37
  go_wp2
  go_loop [5, 6] (fun x i => ∃ k : Nat, k ≤ D.size ∧ x = .int .u64 (valD 0 (D.data.toList.take k) : Nat) ∧ i = .int .i64 k) (fun x i => D.size - (RowKit.intOf i).toNat)
  case atStart => exact ⟨0, Nat.zero_le _, rfl, rfl⟩
  case round =>
    obtain ⟨k, hk, rfl, rfl⟩ := hrel
    by_cases hlt : k < D.size
    · have hltI : (k : Int) < D.size := by omega
      have hd := dgt_at HA.out k hlt
      have hx := valD_top (allD_take HA.out k) 18 (by rw [List.length_take, size_toList]; omega)
      have hnext : valD 0 (D.data.toList.take (k + 1)) = valD 0 (D.data.toList.take k) * 10 + (D[k].toNat - 48) := by
        rw [List.take_succ_eq_append_getElem (by rw [size_toList]; exact hlt), valD_snoc, getL D k hlt]
      obtain ⟨x, hxe⟩ : ∃ x, valD 0 (D.data.toList.take k) = x := ⟨_, rfl⟩
      rw [hxe] at hx hnext ⊢
      have HX : Hid _ := hnext
      have hx9 : x ≤ 999999999999999999 := by have : (10 : Nat) ^ 18 = 1000000000000000000 := by decide
                                              omega
      clear hx hnext hxe
      go_wp2
      go_round
      case rel => exact ⟨k + 1, by omega, by rw [HX.out]; go_num, by go_num⟩
      case measure => simp [RowKit.intOf]; omega
    · have hltI : ¬ (k : Int) < D.size := by omega
      have hx := valD_top HA.out 19 (by rw [size_toList]; exact hl)
      rw [HN.out] at hx
      have hx9 : N ≤ 9999999999999999999 := by have : (10 : Nat) ^ 19 = 10000000000000000000 := by decide
                                               omega
      have hfull : D.data.toList.take k = D.data.toList := List.take_of_length_le (by rw [size_toList]; omega)
      rw [hfull, HN.out]
      clear hfull hx
      have hR := HR.out
      by_cases hle : N ≤ 9223372036854775808
      · rw [if_pos hle] at hR
        subst hR
        have hgI : ¬ (9223372036854775808 : Int) < N := by omega
        by_cases heq : N = 9223372036854775808
        · have heI : ((N : Int) == 9223372036854775808) = true := by simp; omega
          clear heq
          go_wp2
          go_ret2
          refine ⟨?_, rfl⟩
          show Ending.returned (.tuple #[.int .i64 (wrap64 (IntKind.u64.wrap (-(N : Int)))), .bool true]) = _
          rw [neg_back N hle]
        · have heI : ((N : Int) == 9223372036854775808) = false := by simp; omega
          clear heq
          go_wp2
          go_ret2
          refine ⟨?_, rfl⟩
          show Ending.returned (.tuple #[.int .i64 (wrap64 (IntKind.u64.wrap (-(N : Int)))), .bool true]) = _
          rw [neg_back N hle]
      · rw [if_neg hle] at hR
        subst hR
        have hgI : (9223372036854775808 : Int) < N := by omega
        go_wp2
        go_ret2
        exact ⟨rfl, rfl⟩
set_option maxHeartbeats 1000000 in
theorem whole_plain (D : ByteArray) (w : World) (h0 : (0 : Int) < D.size) (h0' : 0 < D.size) (hm : ((D[0].toNat : Int) == 45) = false) (hl : D.size ≤ 19) (ha : allD D.data.toList = true) (N : Nat) (hN : valD 0 D.data.toList = N) (R : Value)
    (hR : R = if N ≤ 9223372036854775807 then .tuple #[.int .i64 (N : Int), .bool true] else .tuple #[.int .i64 0, .bool false]) :
    Calls Tryd.prog 37 #[.string D] w fun e w' => e = .returned R ∧ w' = w := by
  have HN : Hid (valD 0 D.data.toList = N) := hN
  have HA : Hid (allD D.data.toList = true) := ha
  have HR : Hid (R = if N ≤ 9223372036854775807 then .tuple #[.int .i64 (N : Int), .bool true] else .tuple #[.int .i64 0, .bool false]) := hR
  have hlI : ¬ (19 : Int) < D.size := by omega
  clear hR hN ha
  go_enter Tryd.func37, Tryd.ntmps37
  go_wp2
  go_loop [5, 6] (fun x i => ∃ k : Nat, k ≤ D.size ∧ x = .int .u64 (valD 0 (D.data.toList.take k) : Nat) ∧ i = .int .i64 k) (fun x i => D.size - (RowKit.intOf i).toNat)
  case atStart => exact ⟨0, Nat.zero_le _, rfl, rfl⟩
  case round =>
    obtain ⟨k, hk, rfl, rfl⟩ := hrel
    by_cases hlt : k < D.size
    · have hltI : (k : Int) < D.size := by omega
      have hd := dgt_at HA.out k hlt
      have hx := valD_top (allD_take HA.out k) 18 (by rw [List.length_take, size_toList]; omega)
      have hnext : valD 0 (D.data.toList.take (k + 1)) = valD 0 (D.data.toList.take k) * 10 + (D[k].toNat - 48) := by
        rw [List.take_succ_eq_append_getElem (by rw [size_toList]; exact hlt), valD_snoc, getL D k hlt]
      obtain ⟨x, hxe⟩ : ∃ x, valD 0 (D.data.toList.take k) = x := ⟨_, rfl⟩
      rw [hxe] at hx hnext ⊢
      have HX : Hid _ := hnext
      have hx9 : x ≤ 999999999999999999 := by have : (10 : Nat) ^ 18 = 1000000000000000000 := by decide
                                              omega
      clear hx hnext hxe
      go_wp2
      go_round
      case rel => exact ⟨k + 1, by omega, by rw [HX.out]; go_num, by go_num⟩
      case measure => simp [RowKit.intOf]; omega
    · have hltI : ¬ (k : Int) < D.size := by omega
      have hx := valD_top HA.out 19 (by rw [size_toList]; exact hl)
      rw [HN.out] at hx
      have hx9 : N ≤ 9999999999999999999 := by have : (10 : Nat) ^ 19 = 10000000000000000000 := by decide
                                               omega
      have hfull : D.data.toList.take k = D.data.toList := List.take_of_length_le (by rw [size_toList]; omega)
      rw [hfull, HN.out]
      clear hfull hx
      have hR := HR.out
      by_cases hle : N ≤ 9223372036854775807
      · rw [if_pos hle] at hR
        subst hR
        have hgI : ¬ (9223372036854775808 : Int) < N := by omega
        have heI : ((N : Int) == 9223372036854775808) = false := by simp; omega
        go_wp2
        go_ret2
        refine ⟨?_, rfl⟩
        first | rfl | (show Ending.returned (.tuple #[.int .i64 (wrap64 (N : Int)), .bool true]) = _; rw [show wrap64 (N : Int) = N by simp only [wrap64]; omega])
      · rw [if_neg hle] at hR
        subst hR
        by_cases heq : N = 9223372036854775808
        · have hgI : ¬ (9223372036854775808 : Int) < N := by omega
          have heI : ((N : Int) == 9223372036854775808) = true := by simp; omega
          clear heq
          go_wp2
          go_ret2
          exact ⟨rfl, rfl⟩
        · have hgI : (9223372036854775808 : Int) < N := by omega
          go_wp2
          go_ret2
          exact ⟨rfl, rfl⟩

theorem whole_mlong (s D : ByteArray) (w : World) (h0 : (0 : Int) < s.size) (h0' : 0 < s.size) (hs : s.size ≤ 281474976710656) (hm : ((s[0].toNat : Int) == 45) = true) (hD : s.extract 1 s.size = D) (hl : (19 : Int) < D.size) :
    Calls Tryd.prog 37 #[.string s] w fun e w' => e = .returned (.tuple #[.int .i64 0, .bool false]) ∧ w' = w := by
  go_enter Tryd.func37, Tryd.ntmps37
  go_wp2
  go_ret2
  exact ⟨rfl, rfl⟩
theorem whole_long (D : ByteArray) (w : World) (h0 : (0 : Int) < D.size) (h0' : 0 < D.size) (hm : ((D[0].toNat : Int) == 45) = false) (hl : (19 : Int) < D.size) :
    Calls Tryd.prog 37 #[.string D] w fun e w' => e = .returned (.tuple #[.int .i64 0, .bool false]) ∧ w' = w := by
  go_enter Tryd.func37, Tryd.ntmps37
  go_wp2
  go_ret2
  exact ⟨rfl, rfl⟩

/-- What Whole says of a number. -/
def whV (z : Int) : Value := if rngB z then .tuple #[.int .i64 z, .bool true] else .tuple #[.int .i64 0, .bool false]
/-- More than 19 digits are out. -/
theorem long_out {l : List UInt8} (h : numl l = true) (hl : 19 < l.length) : 10000000000000000000 ≤ valD 0 l := by
  cases l with
  | nil => simp at hl
  | cons c r =>
    have ha := allD_cons.1 (numl_all h).1
    have hc : c ≠ 48 := by
      rintro rfl
      have : r ≠ [] := by rintro rfl; simp at hl
      unfold numl at h
      simp [this] at h
    have h49 : 49 ≤ c.toNat := by
      have h1 := (dgt_iff.1 ha.1).1
      have : c.toNat ≠ 48 := fun e => hc (UInt8.toNat_inj.1 e)
      omega
    have h1 := valD_pow r (0 * 10 + (c.toNat - 48))
    rw [valD_cons]
    have h2 : 10 ^ 19 ≤ 10 ^ r.length := Nat.pow_le_pow_right (by omega) (by simp at hl; omega)
    have h3 : 1 * 10 ^ r.length ≤ (0 * 10 + (c.toNat - 48)) * 10 ^ r.length := Nat.mul_le_mul_right _ (by omega)
    have h4 : (10 : Nat) ^ 19 = 10000000000000000000 := by decide
    omega
theorem ref_whole (s : ByteArray) (w : World) (hs : s.size ≤ 281474976710656) (h : isDec s.data.toList = true) :
    Calls Tryd.prog 37 #[.string s] w fun e w' => e = .returned (whV (valZ s.data.toList)) ∧ w' = w := by
  have hnl : numl (body s.data.toList) = true := by
    unfold isDec at h
    rw [Bool.and_eq_true] at h
    exact h.1
  have hall := (numl_all hnl).1
  by_cases hm : minus s.data.toList = true
  · have h0 : 0 < s.size := by
      rw [← size_toList]
      cases h : s.data.toList with
      | nil => rw [h] at hm; cases hm
      | cons c r => simp
    have hh : s.data.toList.head? = some s[0] := by
      rw [List.head?_eq_getElem?, List.getElem?_eq_getElem (by rw [size_toList]; exact h0)]; rfl
    have h45 : s[0] = 45 := by
      rw [minus, hh] at hm; simpa using hm
    have e1 : ((s[0].toNat : Int) == 45) = true := by rw [h45]; rfl
    have hb : body s.data.toList = (tlB s).data.toList := by
      rw [body, if_pos hm]; simp [tlB]
    have hz : valZ s.data.toList = -(valD 0 (tlB s).data.toList : Int) := by rw [valZ, if_pos hm, hb]
    rw [hb] at hnl hall
    rw [hz]
    by_cases hl : (tlB s).size ≤ 19
    · refine whole_minus s (tlB s) w (by omega) h0 hs e1 (tl_extract s) hl hall _ rfl _ ?_
      unfold whV
      by_cases hr : valD 0 (tlB s).data.toList ≤ 9223372036854775808
      · rw [if_pos hr, if_pos (rngB_iff.2 (by omega))]
      · rw [if_neg hr, if_neg (fun h => by have := rngB_iff.1 h; omega)]
    · have := long_out hnl (by rw [size_toList]; omega)
      rw [whV, if_neg (fun h => by have := rngB_iff.1 h; omega)]
      exact whole_mlong s (tlB s) w (by omega) h0 hs e1 (tl_extract s) (by omega)
  · have hm' : minus s.data.toList = false := by simpa using hm
    have hb : body s.data.toList = s.data.toList := by rw [body, hm']; rfl
    have hz : valZ s.data.toList = (valD 0 s.data.toList : Int) := by rw [valZ, hm', hb]; rfl
    rw [hb] at hnl hall
    have hne := (numl_all hnl).2
    have h0 : 0 < s.size := by
      rw [← size_toList]
      exact List.length_pos_iff.2 hne
    have e1 : ((s[0].toNat : Int) == 45) = false := by
      have := dgt_at hall 0 h0
      simp; omega
    rw [hz]
    by_cases hl : s.size ≤ 19
    · refine whole_plain s w (by omega) h0 e1 hl hall _ rfl _ ?_
      unfold whV
      by_cases hr : valD 0 s.data.toList ≤ 9223372036854775807
      · rw [if_pos hr, if_pos (rngB_iff.2 (by omega))]
      · rw [if_neg hr, if_neg (fun h => by have := rngB_iff.1 h; omega)]
    · have := long_out hnl (by rw [size_toList]; omega)
      rw [whV, if_neg (fun h => by have := rngB_iff.1 h; omega)]
      exact whole_long s w (by omega) h0 e1 (by omega)
end Go.Proofs.YtlmibpfikafbdaaDoor
