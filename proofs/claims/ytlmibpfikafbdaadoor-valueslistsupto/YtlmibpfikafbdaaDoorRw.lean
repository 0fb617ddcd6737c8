/- What the reference of layer 2 answers: Decimal. -/
import Derived.Test.YtlmibpfikafbdaaDoorRda
import Derived.Test.YtlmibpfikafbdaaDoorVr
namespace Go.Proofs.YtlmibpfikafbdaaDoor
open Go Go.RowKit Go.Lib
set_option linter.unusedVariables false

def Dinv (u y : Nat) (l : List UInt8) : Prop := (l = [] ∧ y = u) ∨ (l ≠ [] ∧ (0 < y ∧ decDigits u = decDigits y ++ l ∨ y = 0 ∧ decDigits u = l))
theorem dinv_step {u y : Nat} {l : List UInt8} (h : Dinv u y l) (hy : l = [] ∨ 0 < y) : Dinv u (y / 10) (UInt8.ofNat (48 + y % 10) :: l) := by
  right
  refine ⟨by simp, ?_⟩
  have key : ∀ y : Nat, (0 < y / 10 → decDigits y = decDigits (y / 10) ++ [UInt8.ofNat (48 + y % 10)]) ∧ (y / 10 = 0 → decDigits y = [UInt8.ofNat (48 + y % 10)]) := fun y => by
    constructor
    · intro h; exact dec_big (by omega)
    · intro h
      have : y < 10 := by omega
      rw [dec_small this, Nat.mod_eq_of_lt this]
  rcases h with ⟨rfl, rfl⟩ | ⟨hl, ⟨h1, h2⟩ | ⟨h1, h2⟩⟩
  · rcases Nat.eq_zero_or_pos (y / 10) with h | h
    · right; exact ⟨h, (key y).2 h⟩
    · left; exact ⟨h, (key y).1 h⟩
  · rcases Nat.eq_zero_or_pos (y / 10) with h | h
    · right; exact ⟨h, by rw [h2, (key y).2 h]; rfl⟩
    · left; exact ⟨h, by rw [h2, (key y).1 h, List.append_assoc]; rfl⟩
  · exact absurd h1 (by rcases hy with h | h; exact absurd h hl; omega)
def msr (x s : Value) : Nat := (RowKit.intOf x).toNat + (match s with | .string b => if b.size = 0 then 1 else 0 | _ => 0)
theorem msr_str (y : Nat) (b : ByteArray) : msr (.int .u64 y) (.string b) = y + if b.size = 0 then 1 else 0 := by
  simp [msr, RowKit.intOf]
theorem cat_digit (y : Nat) (b : ByteArray) : ((⟨#[b8 (48 + (y : Int) % 10)]⟩ : ByteArray) ++ b).data.toList = UInt8.ofNat (48 + y % 10) :: b.data.toList := by
  rw [ByteArray.data_append, Array.toList_append]
  have e : b8 (48 + (y : Int) % 10) = UInt8.ofNat (48 + y % 10) := by
    unfold b8
    rw [show (48 + (y : Int) % 10).toNat = 48 + y % 10 by omega]
  rw [e]; rfl
theorem msr_less (y : Nat) (b : ByteArray) (h : b.size = 0 ∨ 0 < y) : msr (.int .u64 ((y : Int) / 10)) (.string ((⟨#[b8 (48 + (y : Int) % 10)]⟩ : ByteArray) ++ b)) < msr (.int .u64 y) (.string b) := by
  have hs : ((⟨#[b8 (48 + (y : Int) % 10)]⟩ : ByteArray) ++ b).size = b.size + 1 := by
    rw [← size_toList, cat_digit, List.length_cons, size_toList]
  rw [show ((y : Int) / 10) = ((y / 10 : Nat) : Int) by omega, msr_str, msr_str, hs]
  rcases h with h | h
  · (rw [if_neg (by omega), if_pos h]) <;> omega
  · (rw [if_neg (by omega)]) <;> omega
theorem dec_len (u : Nat) (h : u ≤ 9223372036854775808) : (decDigits u).length ≤ 21 := by
  have h1 := itoa_length_le (-(u : Int)) (by omega) (by omega)
  by_cases h0 : u = 0
  · subst h0; rw [dec_zero]; simp
  · rw [(itoa_parts _).1 (by omega), show (-(u : Int)).natAbs = u by omega] at h1
    simp at h1; omega
theorem dinv_len {u y : Nat} {l : List UInt8} (hu : u ≤ 9223372036854775808) (h : Dinv u y l) : l.length ≤ 21 := by
  have := dec_len u hu
  rcases h with ⟨rfl, _⟩ | ⟨_, ⟨_, h2⟩ | ⟨_, h2⟩⟩
  · simp
  · rw [h2, List.length_append] at this; omega
  · rw [h2] at this; exact this

set_option maxHeartbeats 400000 in
theorem ref_dec_pos (n : Int) (w : World) (h0 : 0 ≤ n) (h1 : n ≤ 9223372036854775807) :
    Calls Tryd.prog 29 #[.int .i64 n] w fun e w' => e = .returned (.string ⟨(itoa n).toArray⟩) ∧ Below w.heap.size w w' := by
  have hnn : ¬ n < 0 := by omega
  have HI : Hid (itoa n = decDigits n.toNat) := (itoa_parts n).2 hnn
  obtain ⟨u, rfl⟩ : ∃ u : Nat, n = u := ⟨n.toNat, by omega⟩
  have hu : u ≤ 9223372036854775808 := by omega
  have hc := conv1
  go_enter Tryd.func29, Tryd.ntmps29
  go_wp2
  go_loopw [3, 4] (fun x s wr => ∃ (y : Nat) (b : ByteArray), x = .int .u64 y ∧ s = .string b ∧ Dinv u y b.data.toList ∧ y ≤ u ∧ Below w.heap.size w wr) (fun x s _ => msr x s)
  case atStart => exact ⟨u, ⟨#[]⟩, rfl, rfl, Or.inl ⟨rfl, rfl⟩, Nat.le_refl _, Below.refl _ _⟩
  case round =>
    obtain ⟨y, b, rfl, rfl, hd, hy, hbw⟩ := hrel
    have hlen := dinv_len hu hd
    rw [size_toList] at hlen
    have HD : Hid _ := hd
    clear hd
    cases hE : b.toList.isEmpty
    · rcases Nat.eq_zero_or_pos y with rfl | hy0
      · have hfin : b = ⟨(itoa (u : Int)).toArray⟩ := by
          rw [HI.out, show ((u : Int)).toNat = u by omega]
          rcases HD.out with ⟨h, _⟩ | ⟨_, ⟨h, _⟩ | ⟨_, h⟩⟩
          · rw [toList_data, h] at hE; cases hE
          · omega
          · apply ByteArray.ext; apply Array.ext'; rw [h]
        have HF : Hid _ := hfin
        clear hfin
        go_wp2
        go_ret
        exact ⟨by rw [← HF.out]; rfl, hbw⟩
      · have hyI : (0 : Int) < y := by omega
        go_wp2
        go_roundw
        case rel => exact ⟨y / 10, _, by go_num, rfl, by rw [cat_digit]; exact dinv_step HD.out (Or.inr hy0), by omega, hbw.alloc hbw.size _⟩
        case measure =>
          have hb0 : b.size ≠ 0 := fun h => by
            have : b.data.toList = [] := List.eq_nil_of_length_eq_zero (by rw [size_toList]; exact h)
            rw [toList_data, this] at hE; cases hE
          exact msr_less y b (Or.inr hy0)
    · go_wp2
      go_roundw
      case rel =>
        have hl : b.data.toList = [] := by rw [toList_data, List.isEmpty_iff] at hE; exact hE
        exact ⟨y / 10, _, by go_num, rfl, by rw [cat_digit]; exact dinv_step HD.out (Or.inl hl), by omega, hbw.alloc hbw.size _⟩
      case measure =>
        have hl : b.size = 0 := by rw [← size_toList, ← toList_data, List.isEmpty_iff.1 hE]; rfl
        exact msr_less y b (Or.inl hl)
set_option maxHeartbeats 400000 in
theorem ref_dec_neg (n : Int) (w : World) (h0 : n < 0) (h1 : -9223372036854775808 ≤ n) :
    Calls Tryd.prog 29 #[.int .i64 n] w fun e w' => e = .returned (.string ⟨(itoa n).toArray⟩) ∧ Below w.heap.size w w' := by
  have HI : Hid (itoa n = 45 :: decDigits n.natAbs) := (itoa_parts n).1 h0
  obtain ⟨u, hun⟩ : ∃ u : Nat, n.natAbs = u := ⟨_, rfl⟩
  have HU : Hid (n.natAbs = u) := hun
  have he : IntKind.u64.wrap (-IntKind.u64.wrap n) = (u : Int) := by
    rw [IntKind.wrap_u64, IntKind.wrap_u64]; omega
  have hu : u ≤ 9223372036854775808 := by omega
  have hc := conv1
  have HE : Hid _ := he
  clear he hun
  go_enter Tryd.func29, Tryd.ntmps29
  go_wp2
  rw [HE.out]
  go_loopw [3, 4] (fun x s wr => ∃ (y : Nat) (b : ByteArray), x = .int .u64 y ∧ s = .string b ∧ Dinv u y b.data.toList ∧ y ≤ u ∧ Below w.heap.size w wr) (fun x s _ => msr x s)
  case atStart => exact ⟨u, ⟨#[]⟩, rfl, rfl, Or.inl ⟨rfl, rfl⟩, Nat.le_refl _, Below.refl _ _⟩
  case round =>
    obtain ⟨y, b, rfl, rfl, hd, hy, hbw⟩ := hrel
    have hlen := dinv_len hu hd
    rw [size_toList] at hlen
    have HD : Hid _ := hd
    clear hd
    cases hE : b.toList.isEmpty
    · rcases Nat.eq_zero_or_pos y with rfl | hy0
      · have hfin : (⟨#[45]⟩ : ByteArray) ++ b = ⟨(itoa n).toArray⟩ := by
          rw [HI.out, HU.out]
          rcases HD.out with ⟨h, _⟩ | ⟨_, ⟨h, _⟩ | ⟨_, h⟩⟩
          · rw [toList_data, h] at hE; cases hE
          · omega
          · apply ByteArray.ext; apply Array.ext'; rw [h, ByteArray.data_append, Array.toList_append]; rfl
        have HF : Hid _ := hfin
        clear hfin
        go_wp2
        go_ret
        exact ⟨by rw [← HF.out]; rfl, hbw⟩
      · have hyI : (0 : Int) < y := by omega
        go_wp2
        go_roundw
        case rel => exact ⟨y / 10, _, by go_num, rfl, by rw [cat_digit]; exact dinv_step HD.out (Or.inr hy0), by omega, hbw.alloc hbw.size _⟩
        case measure =>
          have hb0 : b.size ≠ 0 := fun h => by
            have : b.data.toList = [] := List.eq_nil_of_length_eq_zero (by rw [size_toList]; exact h)
            rw [toList_data, this] at hE; cases hE
          exact msr_less y b (Or.inr hy0)
    · go_wp2
      go_roundw
      case rel =>
        have hl : b.data.toList = [] := by rw [toList_data, List.isEmpty_iff] at hE; exact hE
        exact ⟨y / 10, _, by go_num, rfl, by rw [cat_digit]; exact dinv_step HD.out (Or.inl hl), by omega, hbw.alloc hbw.size _⟩
      case measure =>
        have hl : b.size = 0 := by rw [← size_toList, ← toList_data, List.isEmpty_iff.1 hE]; rfl
        exact msr_less y b (Or.inl hl)
end Go.Proofs.YtlmibpfikafbdaaDoor
