/- What the reference's first and decode answer. -/
import Derived.Test.YtfllomfjhkgaoabGreatDoorRdec
namespace Go.Proofs.YtfllomfjhkgaoabGreatDoor
open Go Go.RowKit Go.Lib Go.PlainAid
set_option linter.unusedVariables false

theorem bt_at (s : ByteArray) (k j : Nat) (x : UInt8) (h : (s.data.toList.drop k)[j]? = some x) : bt s (k + j) = (x.toNat : Int) ∧ k + j < s.size := by
  rw [List.getElem?_drop] at h
  obtain ⟨h1, h2⟩ := List.getElem?_eq_some_iff.1 h
  rw [size_toList] at h1
  refine ⟨?_, h1⟩
  unfold bt
  rw [dif_pos h1, ← h2]
  rfl

theorem bt_enc (s : ByteArray) (k j : Nat) (z : Int) (l : List UInt8) (hz0 : 0 ≤ z) (hz1 : z < 256) (hd : s.data.toList.drop k = l) (h : l[j]? = some z.toNat.toUInt8) : bt s (k + j) = z ∧ k + j < s.size := by
  obtain ⟨h1, h2⟩ := bt_at s k j _ (by rw [hd]; exact h)
  rw [u8_nat _ hz0 hz1] at h1
  exact ⟨by omega, h2⟩

theorem ref_first_ok (s : ByteArray) (k : Nat) (w : World) (hs : s.size ≤ 140737488351232) (r : Nat) (h : scal r) (t : List UInt8) (hd : s.data.toList.drop k = enc r ++ t) :
    Calls Tryz.prog 68 #[.string s, .int .i64 k] w fun e w' => e = .returned (.tuple #[.int .i32 r, .int .i64 ((enc r).length : Nat)]) ∧ Below w.heap.size w w' := by
  have hX : s.extract k (k + (enc r).length) = ⟨(enc r).toArray⟩ := extract_of s (enc r) k (k + (enc r).length) (by rw [hd, Nat.add_sub_cancel_left, List.take_left])
  have hh := h
  unfold scal at hh
  by_cases h1 : r < 128
  · have e := enc_one h1
    rw [e] at hd
    obtain ⟨a0, s0⟩ := bt_enc s k 0 _ _ (by omega) (by omega) hd rfl
    rw [Nat.add_zero] at a0 s0
    have hl : (enc r).length = 1 := by rw [e]; rfl
    rw [hl] at hX ⊢
    exact rf1_same s k w hs s0 (by omega) s0 r h r rfl (by omega) hX
  by_cases h2 : r < 2048
  · have e := enc_two (by omega) h2
    rw [e] at hd
    obtain ⟨a0, s0⟩ := bt_enc s k 0 _ _ (by omega) (by omega) hd rfl
    obtain ⟨a1, s1⟩ := bt_enc s k 1 _ _ (by omega) (by omega) hd rfl
    rw [Nat.add_zero] at a0 s0
    have hl : (enc r).length = 2 := by rw [e]; rfl
    rw [hl] at hX ⊢
    exact rf2_same s k w hs s0 (by omega) (by omega) s1 r h r rfl (by omega) hX
  by_cases h3 : r < 65536
  · have e := enc_three (by omega) h3 h
    rw [e] at hd
    obtain ⟨a0, s0⟩ := bt_enc s k 0 _ _ (by omega) (by omega) hd rfl
    obtain ⟨a1, s1⟩ := bt_enc s k 1 _ _ (by omega) (by omega) hd rfl
    obtain ⟨a2, s2⟩ := bt_enc s k 2 _ _ (by omega) (by omega) hd rfl
    rw [Nat.add_zero] at a0 s0
    have hl : (enc r).length = 3 := by rw [e]; rfl
    rw [hl] at hX ⊢
    exact rf3_same s k w hs s0 (by omega) (by omega) s2 r h r rfl (by omega) hX
  · have e := enc_four (by omega) (by omega : r ≤ 1114111)
    rw [e] at hd
    obtain ⟨a0, s0⟩ := bt_enc s k 0 _ _ (by omega) (by omega) hd rfl
    obtain ⟨a1, s1⟩ := bt_enc s k 1 _ _ (by omega) (by omega) hd rfl
    obtain ⟨a2, s2⟩ := bt_enc s k 2 _ _ (by omega) (by omega) hd rfl
    obtain ⟨a3, s3⟩ := bt_enc s k 3 _ _ (by omega) (by omega) hd rfl
    rw [Nat.add_zero] at a0 s0
    have hl : (enc r).length = 4 := by rw [e]; rfl
    rw [hl] at hX ⊢
    exact rf4_same s k w hs s0 (by omega) s3 r h r rfl (by omega) hX

theorem not_extract {s : ByteArray} {k n : Nat} {R : Nat} (hR : scal R) (hst : stuckL (s.data.toList.drop k)) : ¬ ⟨(enc R).toArray⟩ = s.extract k (k + n) := by
  intro e
  have e1 := congrArg (fun x : ByteArray => x.data.toList) e
  simp only [extract_data, Nat.add_sub_cancel_left] at e1
  have e2 : s.data.toList.drop k = enc R ++ (s.data.toList.drop k).drop n := by
    conv => lhs; rw [← List.take_append_drop n (s.data.toList.drop k)]
    rw [← e1]
  exact not_stuck_enc hR _ (e2 ▸ hst)

theorem ref_first_bad (s : ByteArray) (k : Nat) (w : World) (hs : s.size ≤ 140737488351232) (hk : k < s.size) (hst : stuckL (s.data.toList.drop k)) :
    Calls Tryz.prog 68 #[.string s, .int .i64 k] w fun e w' => e = .returned (.tuple #[.int .i32 0, .int .i64 0]) ∧ Below w.heap.size w w' := by
  have q0 := bt_nonneg s k
  have q1 := bt_nonneg s (k + 1)
  have q2 := bt_nonneg s (k + 2)
  have q3 := bt_nonneg s (k + 3)
  have go : ∀ Z : Int, isScal Z → ∃ R : Nat, scal R ∧ Z = R := fun Z hz => ⟨Z.toNat, by unfold isScal at hz; unfold scal; omega, by unfold isScal at hz; omega⟩
  by_cases h1 : bt s k < 192
  · by_cases hZ : isScal (bt s k)
    · obtain ⟨R, hR, e⟩ := go _ hZ
      exact rf1_other s k w hs hk h1 hk R hR _ e rfl (not_extract hR hst)
    · exact rf1_non s k w hs hk h1 hk _ rfl hZ
  by_cases h2 : bt s k < 224
  · by_cases ho : s.size < k + 2
    · exact rf2_out s k w hs hk (by omega) h2 ho
    by_cases hZ : isScal ((bt s k - 192) * 64 + bt s (k + 1) % 64)
    · obtain ⟨R, hR, e⟩ := go _ hZ
      exact rf2_other s k w hs hk (by omega) h2 (by omega) R hR _ e rfl (not_extract hR hst)
    · exact rf2_non s k w hs hk (by omega) h2 (by omega) _ rfl hZ
  by_cases h3 : bt s k < 240
  · by_cases ho : s.size < k + 3
    · exact rf3_out s k w hs hk (by omega) h3 ho
    by_cases hZ : isScal (((bt s k - 224) * 64 + bt s (k + 1) % 64) * 64 + bt s (k + 2) % 64)
    · obtain ⟨R, hR, e⟩ := go _ hZ
      exact rf3_other s k w hs hk (by omega) h3 (by omega) R hR _ e rfl (not_extract hR hst)
    · exact rf3_non s k w hs hk (by omega) h3 (by omega) _ rfl hZ
  · by_cases ho : s.size < k + 4
    · exact rf4_out s k w hs hk (by omega) ho
    by_cases hZ : isScal ((((bt s k - 240) * 64 + bt s (k + 1) % 64) * 64 + bt s (k + 2) % 64) * 64 + bt s (k + 3) % 64)
    · obtain ⟨R, hR, e⟩ := go _ hZ
      exact rf4_other s k w hs hk (by omega) (by omega) R hR _ e rfl (not_extract hR hst)
    · exact rf4_non s k w hs hk (by omega) (by omega) _ rfl hZ
end Go.Proofs.YtfllomfjhkgaoabGreatDoor
