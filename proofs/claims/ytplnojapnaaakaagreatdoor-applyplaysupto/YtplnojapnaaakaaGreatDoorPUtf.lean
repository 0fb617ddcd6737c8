/- Plain mathematics of UTF-8 over lists of bytes: every text is encodings of scalars and a rest with which no encoding begins, in one way alone; where a text breaks. -/
import Derived.Lib.RuneCountTail
import Derived.Lib.QuoteLoop
import Derived.Lib.MapLaws
namespace Go.Proofs.YtplnojapnaaakaaGreatDoor
open Go Go.Lib
def scal (r : Nat) : Prop := r < 55296 ∨ (57344 ≤ r ∧ r ≤ 1114111)
def stuckL (l : List UInt8) : Prop := l = [] ∨ decodeL l = (65533, 1)
def enc (r : Nat) : List UInt8 := encodeRune (r : Int)
def encs : List Nat → List UInt8
  | [] => []
  | r :: rs => enc r ++ encs rs

theorem u8_nat (z : Int) (h0 : 0 ≤ z) (h1 : z < 256) : z.toNat.toUInt8.toNat = z.toNat := by
  simp only [Nat.toUInt8, UInt8.toNat_ofNat']
  omega

theorem enc_one {r : Nat} (h : r < 128) : enc r = [(r : Int).toNat.toUInt8] := by
  unfold enc encodeRune; rw [encodeRuneZ_one (by omega) (by omega)]; rfl
theorem enc_two {r : Nat} (h : 128 ≤ r) (h' : r < 2048) : enc r = [(192 + (r : Int) / 64).toNat.toUInt8, (128 + (r : Int) % 64).toNat.toUInt8] := by
  unfold enc encodeRune; rw [encodeRuneZ_two (by omega) (by omega)]; rfl
theorem enc_three {r : Nat} (h : 2048 ≤ r) (h' : r < 65536) (hs : scal r) : enc r = [(224 + (r : Int) / 4096).toNat.toUInt8, (128 + (r : Int) / 64 % 64).toNat.toUInt8, (128 + (r : Int) % 64).toNat.toUInt8] := by
  unfold scal at hs
  unfold enc encodeRune; rw [encodeRuneZ_three (by omega)]; rfl
theorem enc_four {r : Nat} (h : 65536 ≤ r) (h' : r ≤ 1114111) : enc r = [(240 + (r : Int) / 262144).toNat.toUInt8, (128 + (r : Int) / 4096 % 64).toNat.toUInt8, (128 + (r : Int) / 64 % 64).toNat.toUInt8, (128 + (r : Int) % 64).toNat.toUInt8] := by
  unfold enc encodeRune; rw [encodeRuneZ_four (by omega) (by omega)]; rfl

theorem enc_len {r : Nat} (h : scal r) : (enc r).length = if r < 128 then 1 else if r < 2048 then 2 else if r < 65536 then 3 else 4 := by
  unfold scal at h
  by_cases h1 : r < 128
  · rw [enc_one h1]; simp [h1]
  by_cases h2 : r < 2048
  · rw [enc_two (by omega) h2]; simp [h1, h2]
  by_cases h3 : r < 65536
  · rw [enc_three (by omega) h3 (by unfold scal; omega)]; simp [h1, h2, h3]
  · rw [enc_four (by omega) (by omega)]; simp [h1, h2, h3]

theorem enc_pos {r : Nat} (h : scal r) : 1 ≤ (enc r).length ∧ (enc r).length ≤ 4 := by
  rw [enc_len h]; repeat' split
  all_goals omega

/-- What a scalar's encoding begins with is decoded to the scalar. -/
theorem dec_enc {r : Nat} (h : scal r) (t : List UInt8) : decodeL (enc r ++ t) = (r, (enc r).length) := by
  rw [decodeL_N, enc_len h]
  unfold scal at h
  by_cases h1 : r < 128
  · rw [enc_one h1, if_pos h1]
    simp only [List.cons_append, List.nil_append, List.length_cons, List.getD_cons_zero]
    rw [u8_nat _ (by omega) (by omega)]
    exact decodeN_ascii _ _ _ _ _ (by omega)
  rw [if_neg h1]
  by_cases h2 : r < 2048
  · rw [enc_two (by omega) h2, if_pos h2]
    simp only [List.cons_append, List.nil_append, List.length_cons, List.getD_cons_zero, List.getD_cons_succ]
    rw [u8_nat _ (by omega) (by omega), u8_nat _ (by omega) (by omega)]
    unfold decodeN
    rw [if_neg (by omega), if_pos (by omega), if_pos (by omega)]
    exact Prod.ext (by simp only []; omega) rfl
  rw [if_neg h2]
  by_cases h3 : r < 65536
  · rw [enc_three (by omega) h3 (by unfold scal; omega), if_pos h3]
    simp only [List.cons_append, List.nil_append, List.length_cons, List.getD_cons_zero, List.getD_cons_succ]
    rw [u8_nat _ (by omega) (by omega), u8_nat _ (by omega) (by omega), u8_nat _ (by omega) (by omega)]
    unfold decodeN
    rw [if_neg (by omega), if_neg (by omega), if_pos (by omega), if_pos (by omega)]
    exact Prod.ext (by simp only []; omega) rfl
  · rw [if_neg h3, enc_four (by omega) (by omega)]
    simp only [List.cons_append, List.nil_append, List.length_cons, List.getD_cons_zero, List.getD_cons_succ]
    rw [u8_nat _ (by omega) (by omega), u8_nat _ (by omega) (by omega), u8_nat _ (by omega) (by omega), u8_nat _ (by omega) (by omega)]
    unfold decodeN
    rw [if_neg (by omega), if_neg (by omega), if_neg (by omega), if_pos (by omega), if_pos (by omega)]
    exact Prod.ext (by simp only []; omega) rfl

theorem not_stuck_enc {r : Nat} (h : scal r) (t : List UInt8) : ¬ stuckL (enc r ++ t) := by
  have hp := enc_pos h
  rintro (h0 | h0)
  · have := congrArg List.length h0
    rw [List.length_append] at this
    simp only [List.length_nil] at this
    omega
  · rw [dec_enc h] at h0
    have h1 := congrArg Prod.fst h0
    have h2 := congrArg Prod.snd h0
    simp only at h1 h2
    subst h1
    rw [enc_len h] at h2
    simp at h2

/-- A text that is not stuck begins with a scalar's encoding. -/
theorem head_enc {l : List UInt8} (h : ¬ stuckL l) : ∃ r, scal r ∧ decodeL l = (r, (enc r).length) ∧ l = enc r ++ l.drop (enc r).length := by
  have hne : l ≠ [] := fun e => h (Or.inl e)
  have hv : ¬ ((decodeL l).1 = 65533 ∧ (decodeL l).2 = 1) := fun e => h (Or.inr (Prod.ext e.1 e.2))
  have he := encode_decode l hne hv
  have hle := decodeL_le l hne
  have hval : scal (decodeL l).1 := by
    rw [decodeL_N]
    have := decodeN_valid l.length (l.getD 0 0).toNat (l.getD 1 0).toNat (l.getD 2 0).toNat (l.getD 3 0).toNat (l.getD 0 0).toNat_lt
    unfold scal; omega
  have hlen : (enc (decodeL l).1).length = (decodeL l).2 := by
    unfold enc; rw [he, List.length_take]; omega
  refine ⟨_, hval, Prod.ext rfl hlen.symm, ?_⟩
  rw [hlen]
  unfold enc
  rw [he, List.take_append_drop]

theorem encs_append (a b : List Nat) : encs (a ++ b) = encs a ++ encs b := by
  induction a with
  | nil => rfl
  | cons x a ih => simp [encs, ih]

theorem encs_snoc (a : List Nat) (r : Nat) : encs (a ++ [r]) = encs a ++ enc r := by
  rw [encs_append]; simp [encs]

/-- Every text is encodings, and a rest that is stuck. -/
theorem decomp : ∀ (n : Nat) (l : List UInt8), l.length ≤ n → ∃ rs t, (∀ r ∈ rs, scal r) ∧ stuckL t ∧ l = encs rs ++ t
  | 0, l, h => ⟨[], l, by simp, Or.inl (List.eq_nil_of_length_eq_zero (by omega)), rfl⟩
  | n + 1, l, h => by
    by_cases hs : stuckL l
    · exact ⟨[], l, by simp, hs, rfl⟩
    · obtain ⟨r, hr, _, he⟩ := head_enc hs
      have hp := enc_pos hr
      have hl : (l.drop (enc r).length).length ≤ n := by
        rw [List.length_drop]; omega
      obtain ⟨rs, t, h1, h2, h3⟩ := decomp n _ hl
      refine ⟨r :: rs, t, ?_, h2, ?_⟩
      · intro x hx
        rcases List.mem_cons.1 hx with rfl | hx
        · exact hr
        · exact h1 x hx
      · rw [encs, List.append_assoc, ← h3]; exact he

/-- The scalars of a text up to where it breaks. -/
def scsF : Nat → List UInt8 → List Nat
  | 0, _ => []
  | f + 1, l => if l = [] then [] else if decodeL l = (65533, 1) then [] else (decodeL l).1 :: scsF f (l.drop (decodeL l).2)
def scs (l : List UInt8) : List Nat := scsF l.length l
def brk (l : List UInt8) : Nat := (encs (scs l)).length

theorem scsF_eq : ∀ (f : Nat) (rs : List Nat) (t : List UInt8), (∀ r ∈ rs, scal r) → stuckL t → (encs rs ++ t).length ≤ f → scsF f (encs rs ++ t) = rs
  | 0, [], t, _, _, _ => rfl
  | 0, r :: rs, t, h, _, hl => by
    exfalso
    have := enc_pos (h r (by simp))
    simp only [encs, List.length_append] at hl
    omega
  | f + 1, [], t, _, ht, _ => by
    rcases ht with rfl | ht
    · rfl
    · simp [encs, scsF, ht]
  | f + 1, r :: rs, t, h, ht, hl => by
    have hr := h r (by simp)
    have hp := enc_pos hr
    have hns := not_stuck_enc hr (encs rs ++ t)
    have hd := dec_enc hr (encs rs ++ t)
    simp only [encs, List.append_assoc] at hl ⊢
    rw [scsF, if_neg (fun e => hns (Or.inl e)), if_neg (fun e => hns (Or.inr e)), hd]
    simp only [List.drop_left]
    rw [scsF_eq f rs t (fun x hx => h x (by simp [hx])) ht (by simp at hl ⊢; omega)]

theorem scs_eq {rs : List Nat} {t : List UInt8} (h : ∀ r ∈ rs, scal r) (ht : stuckL t) : scs (encs rs ++ t) = rs := scsF_eq _ rs t h ht (Nat.le_refl _)
theorem brk_eq {rs : List Nat} {t : List UInt8} (h : ∀ r ∈ rs, scal r) (ht : stuckL t) : brk (encs rs ++ t) = (encs rs).length := by rw [brk, scs_eq h ht]

/-- What is known of every text. -/
theorem text_cases (l : List UInt8) : ∃ t, (∀ r ∈ scs l, scal r) ∧ stuckL t ∧ l = encs (scs l) ++ t := by
  obtain ⟨rs, t, h1, h2, rfl⟩ := decomp l.length l (Nat.le_refl _)
  rw [scs_eq h1 h2]
  exact ⟨t, h1, h2, rfl⟩
theorem valid_of_brk {l : List UInt8} (h : brk l = l.length) : l = encs (scs l) := by
  obtain ⟨t, h1, h2, h3⟩ := text_cases l
  have := congrArg List.length h3
  rw [List.length_append] at this
  have ht : t = [] := List.eq_nil_of_length_eq_zero (by unfold brk at h; omega)
  rw [ht, List.append_nil] at h3
  exact h3
end Go.Proofs.YtplnojapnaaakaaGreatDoor
