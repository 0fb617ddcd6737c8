/- Decimal numerals as lists of bytes: which lists are numerals, what they spell, and that strconv's answers agree; the order of texts. Of no program. -/
import Derived.Lib.ParseIntBTie
import Derived.Lib.ParseIntBCases
import Derived.Lib.ItoaNum
import Derived.Lib.Small
import Derived.Lib.Bytealg
import Derived.Laws.Strings
namespace Go.Proofs.YthfpmhnnjjikcaaGreatDoor
open Go Go.Lib
set_option linter.unusedVariables false

def dgt (c : UInt8) : Bool := decide (48 ≤ c.toNat) && decide (c.toNat ≤ 57)
def allD (l : List UInt8) : Bool := l.all dgt
def valD (acc : Nat) (l : List UInt8) : Nat := l.foldl (fun a c => a * 10 + (c.toNat - 48)) acc
/-- Digits without a needless nought ahead. -/
def numl (l : List UInt8) : Bool := allD l && (l == [48] || (!l.isEmpty && l.head? != some 48))
def minus (l : List UInt8) : Bool := l.head? == some 45
def body (l : List UInt8) : List UInt8 := if minus l then l.tail else l
/-- The form of a whole number. -/
def isDec (l : List UInt8) : Bool := numl (body l) && !(minus l && body l == [48])
def valZ (l : List UInt8) : Int := if minus l then -(valD 0 (body l) : Int) else (valD 0 (body l) : Int)

theorem valD_cons (acc : Nat) (c : UInt8) (r : List UInt8) : valD acc (c :: r) = valD (acc * 10 + (c.toNat - 48)) r := by simp only [valD, List.foldl_cons]
theorem valD_nil (acc : Nat) : valD acc [] = acc := by simp only [valD, List.foldl_nil]
theorem valD_snoc (acc : Nat) (c : UInt8) (r : List UInt8) : valD acc (r ++ [c]) = valD acc r * 10 + (c.toNat - 48) := by simp [valD, List.foldl_append]
theorem valD_ge : ∀ (l : List UInt8) (acc : Nat), acc ≤ valD acc l
  | [], acc => Nat.le_refl _
  | c :: r, acc => by
    have := valD_ge r (acc * 10 + (c.toNat - 48))
    rw [valD_cons]; omega
theorem allD_cons {c : UInt8} {r : List UInt8} : allD (c :: r) = true ↔ dgt c = true ∧ allD r = true := by simp [allD]
theorem dgt_iff {c : UInt8} : dgt c = true ↔ 48 ≤ c.toNat ∧ c.toNat ≤ 57 := by simp [dgt]
theorem valD_lt : ∀ (l : List UInt8) (acc : Nat), allD l = true → valD acc l < (acc + 1) * 10 ^ l.length
  | [], acc, _ => by simp [valD]
  | c :: r, acc, h => by
    obtain ⟨h1, h2⟩ := allD_cons.1 h
    rw [dgt_iff] at h1
    have := valD_lt r (acc * 10 + (c.toNat - 48)) h2
    rw [valD_cons, List.length_cons, Nat.pow_succ]
    refine Nat.lt_of_lt_of_le this ?_
    rw [Nat.mul_comm (10 ^ r.length) 10, ← Nat.mul_assoc]
    exact Nat.mul_le_mul_right _ (by omega)
theorem valD_pow : ∀ (l : List UInt8) (acc : Nat), acc * 10 ^ l.length ≤ valD acc l
  | [], acc => by simp [valD]
  | c :: r, acc => by
    have := valD_pow r (acc * 10 + (c.toNat - 48))
    rw [valD_cons, List.length_cons, Nat.pow_succ]
    refine Nat.le_trans ?_ this
    rw [Nat.mul_comm (10 ^ r.length) 10, ← Nat.mul_assoc]
    exact Nat.mul_le_mul_right _ (by omega)

theorem parseUintM_val : ∀ (l : List UInt8) (acc : Nat), allD l = true → acc ≤ 18446744073709551615 →
    parseUintM 18446744073709551615 acc l = if valD acc l ≤ 18446744073709551615 then .ok (valD acc l) else .range
  | [], acc, _, h => by rw [parseUintM, valD_nil, if_pos h]
  | c :: r, acc, h, ha => by
    obtain ⟨h1, h2⟩ := allD_cons.1 h
    rw [dgt_iff] at h1
    have hg := valD_ge r (acc * 10 + (c.toNat - 48))
    rw [parseUintM, if_pos h1, valD_cons]
    by_cases h3 : 1844674407370955162 ≤ acc
    · rw [if_pos h3, if_neg (by omega)]
    · rw [if_neg h3]
      by_cases h4 : 18446744073709551615 < acc * 10 + (c.toNat - 48)
      · rw [if_pos h4, if_neg (by omega)]
      · rw [if_neg h4]
        exact parseUintM_val r _ h2 (by omega)

theorem parseUintB_val {l : List UInt8} (h : allD l = true) (h0 : l ≠ []) : parseUintB 64 l = if valD 0 l ≤ 18446744073709551615 then .ok (valD 0 l) else .range := by
  rw [parseUintB, if_neg h0]
  exact parseUintM_val l 0 h (by omega)

theorem numl_all {l : List UInt8} (h : numl l = true) : allD l = true ∧ l ≠ [] := by
  simp only [numl, Bool.and_eq_true, Bool.or_eq_true] at h
  refine ⟨h.1, ?_⟩
  rintro rfl
  rcases h.2 with h | h <;> simp at h

/-- strconv.ParseInt at a whole number's form. -/
theorem parseIntB_dec {l : List UInt8} (h : isDec l = true) :
    (-9223372036854775808 ≤ valZ l ∧ valZ l ≤ 9223372036854775807 → parseIntB 64 l = .ok (valZ l)) ∧ (¬ (-9223372036854775808 ≤ valZ l ∧ valZ l ≤ 9223372036854775807) → parseIntB 64 l = .range) := by
  simp only [isDec, Bool.and_eq_true] at h
  obtain ⟨ha, hn⟩ := numl_all h.1
  have e := parseUintB_val ha hn
  have h63 : (2 : Nat) ^ (64 - 1) = 9223372036854775808 := by decide
  cases l with
  | nil => exact absurd rfl hn
  | cons c r =>
    by_cases hm : minus (c :: r) = true
    · have hc : c = 45 := by simpa [minus] using hm
      subst hc
      have hb : body (45 :: r) = r := by simp [body, hm]
      rw [hb] at e
      have hz : valZ (45 :: r) = -(valD 0 r : Int) := by simp [valZ, hm, hb]
      rw [hz, parseIntB_minus, e, h63]
      constructor
      · intro hr
        rw [if_pos (by omega), signedC, if_neg (by omega)]
      · intro hr
        by_cases hl : valD 0 r ≤ 18446744073709551615
        · rw [if_pos hl, signedC, if_pos (by omega)]
        · rw [if_neg hl, signedC]
    · have hm' : minus (c :: r) = false := by simpa using hm
      have hb : body (c :: r) = c :: r := by simp [body, hm']
      rw [hb] at e ha
      have h1 := dgt_iff.1 (allD_cons.1 ha).1
      have hz : valZ (c :: r) = (valD 0 (c :: r) : Int) := by simp [valZ, hm', hb]
      rw [hz, parseIntB_plain 64 c r (by omega) (by omega), e, h63]
      constructor
      · intro hr
        rw [if_pos (by omega), signlessC, if_neg (by omega)]
      · intro hr
        by_cases hl : valD 0 (c :: r) ≤ 18446744073709551615
        · rw [if_pos hl, signlessC, if_pos (by omega)]
        · rw [if_neg hl, signlessC]

/-! There and back. -/
theorem dec_small {u : Nat} (h : u < 10) : decDigits u = [UInt8.ofNat (48 + u)] := by rw [decDigits, dif_pos h]
theorem dec_big {u : Nat} (h : ¬ u < 10) : decDigits u = decDigits (u / 10) ++ [UInt8.ofNat (48 + u % 10)] := by rw [decDigits, dif_neg h]
theorem nat48 {d : Nat} (h : d < 10) : (UInt8.ofNat (48 + d)).toNat = 48 + d := by
  rw [UInt8.toNat_ofNat']; omega
theorem valD_dec (u : Nat) : valD 0 (decDigits u) = u := by
  induction u using Nat.strongRecOn with
  | _ u ih =>
    by_cases h : u < 10
    · rw [dec_small h, valD_cons, nat48 h]; simp [valD]
    · rw [dec_big h, valD_snoc, ih _ (by omega), nat48 (by omega)]; omega
theorem allD_snoc (l : List UInt8) (c : UInt8) : allD (l ++ [c]) = (allD l && dgt c) := by simp [allD]
theorem allD_dec (u : Nat) : allD (decDigits u) = true := by
  induction u using Nat.strongRecOn with
  | _ u ih =>
    by_cases h : u < 10
    · rw [dec_small h, allD_cons, dgt_iff, nat48 h]; exact ⟨by omega, rfl⟩
    · rw [dec_big h, allD_snoc, ih _ (by omega), Bool.true_and, dgt_iff, nat48 (by omega)]; omega
theorem dec_ne (u : Nat) : decDigits u ≠ [] := by
  by_cases h : u < 10
  · rw [dec_small h]; simp
  · rw [dec_big h]; simp
theorem head_dec (u : Nat) (h0 : 0 < u) : ∃ c r, decDigits u = c :: r ∧ 49 ≤ c.toNat := by
  induction u using Nat.strongRecOn with
  | _ u ih =>
    by_cases h : u < 10
    · exact ⟨_, _, dec_small h, by rw [nat48 h]; omega⟩
    · obtain ⟨c, r, e, hc⟩ := ih (u / 10) (by omega) (by omega)
      exact ⟨c, r ++ [UInt8.ofNat (48 + u % 10)], by rw [dec_big h, e]; rfl, hc⟩
theorem dec_zero : decDigits 0 = [48] := by rw [dec_small (by omega)]; rfl
theorem numl_dec (u : Nat) : numl (decDigits u) = true := by
  by_cases h : u = 0
  · subst h; rw [dec_zero]; decide
  · obtain ⟨c, r, e, hc⟩ := head_dec u (by omega)
    have hc' : c ≠ 48 := by rintro rfl; exact absurd hc (by decide)
    simp only [numl, allD_dec, Bool.true_and, Bool.or_eq_true]
    right
    rw [e]; simp [hc']
theorem dec_val {l : List UInt8} (h : numl l = true) : decDigits (valD 0 l) = l := by
  suffices H : ∀ (n : Nat) (l : List UInt8), l.length = n → numl l = true → decDigits (valD 0 l) = l from H _ l rfl h
  clear h l
  intro n
  induction n using Nat.strongRecOn with
  | _ n ih =>
    intro l hl h
    obtain ⟨ha, hn⟩ := numl_all h
    have e : l = l.dropLast ++ [l.getLast hn] := (List.dropLast_concat_getLast hn).symm
    generalize l.getLast hn = c at e
    generalize hm : l.dropLast = m at e
    clear hm hn
    subst e
    rw [allD_snoc, Bool.and_eq_true, dgt_iff] at ha
    have hcc : UInt8.ofNat (48 + (c.toNat - 48)) = c := by
      rw [show 48 + (c.toNat - 48) = c.toNat by omega]; simp
    rw [valD_snoc]
    by_cases hm0 : m = []
    · subst hm0
      rw [show valD 0 [] = 0 from rfl, Nat.zero_mul, Nat.zero_add, dec_small (by omega), hcc]; rfl
    · have hh : m.head? ≠ some 48 := by
        simp only [numl, Bool.and_eq_true, Bool.or_eq_true] at h
        cases m with
        | nil => exact absurd rfl hm0
        | cons d m =>
          rcases h.2 with h | h
          · simp at h
          · simpa using h.2
      have hnm : numl m = true := by
        simp only [numl, ha.1, Bool.true_and, Bool.or_eq_true]
        right
        cases m with
        | nil => exact absurd rfl hm0
        | cons d m => simpa using hh
      have hv : 1 ≤ valD 0 m := by
        cases m with
        | nil => exact absurd rfl hm0
        | cons d m =>
          have hd := dgt_iff.1 (allD_cons.1 ha.1).1
          have hd2 : d ≠ 48 := by simpa using hh
          have hd3 : d.toNat ≠ 48 := fun e => hd2 (UInt8.toNat_inj.1 e)
          rw [valD_cons]
          have := valD_ge m (0 * 10 + (d.toNat - 48))
          omega
      rw [dec_big (by omega), show (valD 0 m * 10 + (c.toNat - 48)) / 10 = valD 0 m by omega, show (valD 0 m * 10 + (c.toNat - 48)) % 10 = c.toNat - 48 by omega, hcc,
        ih m.length (by simp at hl; omega) m rfl hnm]

theorem minus_of {c : UInt8} {r : List UInt8} (h : 48 ≤ c.toNat) : minus (c :: r) = false := by
  have : c ≠ 45 := by rintro rfl; exact absurd h (by decide)
  simp [minus, this]
theorem minus_dec (u : Nat) : minus (decDigits u) = false := by
  have := allD_dec u
  cases h : decDigits u with
  | nil => exact absurd h (dec_ne u)
  | cons c r => rw [h] at this; exact minus_of (dgt_iff.1 (allD_cons.1 this).1).1
theorem itoa_parts (n : Int) : (n < 0 → itoa n = 45 :: decDigits n.natAbs) ∧ (¬ n < 0 → itoa n = decDigits n.toNat) := by
  constructor <;> intro h <;> simp [itoa, h]
theorem isDec_itoa (n : Int) : isDec (itoa n) = true := by
  by_cases h : n < 0
  · rw [(itoa_parts n).1 h]
    have hm : minus (45 :: decDigits n.natAbs) = true := by simp [minus]
    have hb : body (45 :: decDigits n.natAbs) = decDigits n.natAbs := by simp [body, hm]
    obtain ⟨c, r, e, hc⟩ := head_dec n.natAbs (by omega)
    have hc' : c ≠ 48 := by rintro rfl; exact absurd hc (by decide)
    simp only [isDec, hb, hm, numl_dec, Bool.true_and]
    rw [e]; simp [hc']
  · rw [(itoa_parts n).2 h]
    have hm := minus_dec n.toNat
    have hb : body (decDigits n.toNat) = decDigits n.toNat := by simp [body, hm]
    simp [isDec, hb, hm, numl_dec]
theorem valZ_itoa (n : Int) : valZ (itoa n) = n := by
  by_cases h : n < 0
  · rw [(itoa_parts n).1 h]
    have hm : minus (45 :: decDigits n.natAbs) = true := by simp [minus]
    have hb : body (45 :: decDigits n.natAbs) = decDigits n.natAbs := by simp [body, hm]
    simp only [valZ, hm, hb, if_true, valD_dec]; omega
  · rw [(itoa_parts n).2 h]
    have hm := minus_dec n.toNat
    have hb : body (decDigits n.toNat) = decDigits n.toNat := by simp [body, hm]
    simp only [valZ, hm, hb, valD_dec]; simp; omega
theorem itoa_valZ {l : List UInt8} (h : isDec l = true) : itoa (valZ l) = l := by
  simp only [isDec, Bool.and_eq_true] at h
  obtain ⟨h1, h2⟩ := h
  have e := dec_val h1
  by_cases hm : minus l = true
  · have hne : body l ≠ [48] := by simpa [hm] using h2
    cases l with
    | nil => simp [minus] at hm
    | cons c r =>
      have hc : c = 45 := by simpa [minus] using hm
      subst hc
      have hb : body (45 :: r) = r := by simp [body, hm]
      rw [hb] at e hne
      have hz : valZ (45 :: r) = -(valD 0 r : Int) := by simp [valZ, hm, hb]
      have hp : valD 0 r ≠ 0 := fun h0 => hne (by rw [← e, h0, dec_zero])
      rw [hz, (itoa_parts _).1 (by omega), show (-(valD 0 r : Int)).natAbs = valD 0 r by omega, e]
  · have hm' : minus l = false := by simpa using hm
    have hb : body l = l := by simp [body, hm']
    have hz : valZ l = (valD 0 l : Int) := by simp [valZ, hm', hb]
    rw [hb] at e
    rw [hz, (itoa_parts _).2 (by omega), show ((valD 0 l : Int)).toNat = valD 0 l by omega, e]

/-! The order of texts. -/
theorem cb_range : ∀ a b : List UInt8, compareBytes a b = -1 ∨ compareBytes a b = 0 ∨ compareBytes a b = 1
  | [], [] => by simp [compareBytes]
  | [], _ :: _ => by simp [compareBytes]
  | _ :: _, [] => by simp [compareBytes]
  | a :: as, b :: bs => by
    rw [compareBytes]
    split
    · simp
    · split
      · simp
      · exact cb_range as bs
theorem u8_lt_asymm {a b : UInt8} (h : a < b) : ¬ b < a := by rw [UInt8.lt_iff_toNat_lt] at *; omega
theorem u8_eq {a b : UInt8} (h1 : ¬ a < b) (h2 : ¬ b < a) : a = b := by
  rw [UInt8.lt_iff_toNat_lt] at *
  exact UInt8.toNat_inj.1 (by omega)
theorem cb_swap : ∀ a b : List UInt8, compareBytes b a = - compareBytes a b
  | [], [] => by simp [compareBytes]
  | [], _ :: _ => by simp [compareBytes]
  | _ :: _, [] => by simp [compareBytes]
  | a :: as, b :: bs => by
    by_cases h1 : a < b
    · simp [compareBytes, h1, u8_lt_asymm h1]
    · by_cases h2 : b < a
      · simp [compareBytes, h1, h2]
      · simp [compareBytes, h1, h2, cb_swap as bs]
theorem cb_zero : ∀ a b : List UInt8, compareBytes a b = 0 ↔ a = b
  | [], [] => by simp [compareBytes]
  | [], _ :: _ => by simp [compareBytes]
  | _ :: _, [] => by simp [compareBytes]
  | a :: as, b :: bs => by
    rw [compareBytes]
    by_cases h1 : a < b
    · rw [if_pos h1]
      have : a ≠ b := by rintro rfl; exact u8_lt_asymm h1 h1
      simp [this]
    · by_cases h2 : b < a
      · rw [if_neg h1, if_pos h2]
        have : a ≠ b := by rintro rfl; exact h1 h2
        simp [this]
      · rw [if_neg h1, if_neg h2, cb_zero as bs, u8_eq h1 h2]; simp
theorem cb_trans : ∀ a b c : List UInt8, compareBytes a b ≤ 0 → compareBytes b c ≤ 0 → compareBytes a c ≤ 0 ∧ (compareBytes a b < 0 → compareBytes a c < 0) ∧ (compareBytes b c < 0 → compareBytes a c < 0)
  | [], [], [], _, _ => by simp [compareBytes]
  | [], [], _ :: _, _, _ => by simp [compareBytes]
  | [], _ :: _, [], _, h => by simp [compareBytes] at h
  | [], _ :: _, _ :: _, _, _ => by simp [compareBytes]
  | _ :: _, [], _, h, _ => by simp [compareBytes] at h
  | _ :: _, _ :: _, [], _, h => by simp [compareBytes] at h
  | a :: as, b :: bs, c :: cs, h1, h2 => by
    rw [compareBytes] at h1 h2
    rw [compareBytes, compareBytes, compareBytes]
    by_cases a1 : a < b
    · by_cases b1 : b < c
      · have : a < c := by rw [UInt8.lt_iff_toNat_lt] at *; omega
        simp [this]
      · by_cases b2 : c < b
        · rw [if_neg b1, if_pos b2] at h2; omega
        · have : a < c := by rw [UInt8.lt_iff_toNat_lt] at *; omega
          simp [this]
    · by_cases a2 : b < a
      · rw [if_neg a1, if_pos a2] at h1; omega
      · obtain rfl := u8_eq a1 a2
        by_cases b1 : a < c
        · simp [b1]
        · by_cases b2 : c < a
          · rw [if_neg b1, if_pos b2] at h2; omega
          · rw [if_neg a1, if_neg a1] at h1
            rw [if_neg b1, if_neg b2] at h2
            have := cb_trans as bs cs h1 h2
            simp only [if_neg b1, if_neg b2, if_neg a1]
            exact this
theorem cb_less : ∀ a b : List UInt8, Op.bytesLess a b = decide (compareBytes a b < 0)
  | [], [] => by simp [compareBytes, Op.bytesLess]
  | [], _ :: _ => by simp [compareBytes, Op.bytesLess]
  | _ :: _, [] => by simp [compareBytes, Op.bytesLess]
  | a :: as, b :: bs => by
    rw [compareBytes, Op.bytesLess]
    by_cases h1 : a < b
    · simp [h1]
    · by_cases h2 : b < a
      · have : a ≠ b := by rintro rfl; exact h1 h2
        simp [h1, h2, this]
      · obtain rfl := u8_eq h1 h2
        simp [h1, cb_less as bs]
end Go.Proofs.YthfpmhnnjjikcaaGreatDoor
