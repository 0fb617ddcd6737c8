/- Of all operations and numbers vellumlaw04.ContentBack answers true. -/
import Derived.Test.YtecmdlecfddeeaaDoorBv
import Derived.Test.YtecmdlecfddeeaaDoorThra
namespace Go.Proofs.YtecmdlecfddeeaaDoor
open Go Go.RowKit Go.Lib
set_option linter.unusedVariables false

theorem m_back (x : Int) (K : Nat) (hK : 2 ≤ K) (hz : K ≤ 281474976710656) : ∃ m : Nat, wrap64 (1 + wrap64 ((IntKind.u64.wrap x).tmod ((K : Int) - 1))) = m ∧ 1 ≤ m ∧ m < K := by
  obtain ⟨U, hU⟩ : ∃ U, IntKind.u64.wrap x = U := ⟨_, rfl⟩
  have hU0 : 0 ≤ U := by
    rw [← hU, IntKind.wrap_u64]; omega
  rw [hU, Int.tmod_eq_emod_of_nonneg hU0]
  have h1 := Int.emod_nonneg U (show ((K : Int) - 1) ≠ 0 by omega)
  have h2 := Int.emod_lt_of_pos U (show 0 < ((K : Int) - 1) by omega)
  obtain ⟨R, hR⟩ : ∃ R, U % ((K : Int) - 1) = R := ⟨_, rfl⟩
  rw [hR] at h1 h2 ⊢
  refine ⟨(1 + R).toNat, ?_, by omega, by omega⟩
  unfold wrap64
  omega

theorem back_any4 {I : List Nat} {ad : Nat → Addr} (o : Op5) (va : Value) (x : Int) (w : World) (hI : ∀ i ∈ IC, i ∈ I) (hS : Std I ad w) (ra : RN w va o.A)
    (fa : Fit o) (ta : o.t.size ≤ 1048576) (hx : -9223372036854775808 ≤ x ∧ x ≤ 9223372036854775807) :
    Calls Tryd.prog 6 #[opV o va, .int .i64 x] w fun r w' => r = .returned (.bool true) ∧ Below w.heap.size w w' := by
  have b0 := bxO_below w o va
  have S0 := hS.below b0
  have cL := lives_any4 (bxO w o va) hI S0
  have ra := ra.below b0
  cases h1 : insE o with
  | succ e =>
    refine back_1 (ad := ad) o va x w e cL ra fun W hW h => ?_
    exact length_no o va W hI (S0.below hW) h fa e h1
  | zero =>
    have io := ins_of h1
    have cN : LC o va (bxO w o va) (lenO o) .nilIface := fun W hW h => length_ok o va W hI (S0.below hW) h fa io
    have hp := lenO_pos io
    have hl := lenO_le io
    by_cases h2 : 2 ≤ lenO o
    · obtain ⟨hk, he⟩ := lenO_2 io h2
      obtain ⟨m, hm, m1, m2⟩ := m_back x (lenO o) h2 (by omega)
      rw [he] at m2
      obtain ⟨ih, lh⟩ := ins_head io m1 m2
      obtain ⟨it, lt⟩ := ins_tail io m2
      rw [← he] at lt m2
      refine back_3 (ad := ad) o va x w (lenO o) m (headO o m) (tailO o m) cL ra h2 (by omega) hx hm m1 m2 cN (fun W hW h => ?_) (fun s W hW h => ?_) (fun s W hW h => ?_) (fun s s' W hW h h' => ?_) (by have := fa.n; omega) (cellsOf (headO o m)) (cellsOf (tailO o m)) (cellsOf o) (cells_cut io hk m1 (by rw [← he]; exact m2)) (fun e he => by rw [cellsOf_A _ e he]; have := fa.n; omega) (by rw [cellsOf_len]; omega) (by rw [cellsOf_len, lh])
        (fun W hW h => cellsO_any o va W hI (S0.below hW) h fa io) (fun s W hW h => cellsO_any _ s W hI (S0.below hW) h (fit_head fa m) ih) (fun s W hW h => cellsO_any _ s W hI (S0.below hW) h (fit_tail fa m) it)
      · exact (cutO_ok o va m W hI (S0.below hW) h fa io hk m1 (by rw [← he]; exact m2)).mono fun r w' ⟨s1, s2, h1, h2, h3, _, h4⟩ => ⟨s1, s2, h1, own_RN h2, own_RN h3, h4⟩
      · have := length_ok _ s W hI (S0.below hW) h (fit_head fa m) ih
        rwa [lh] at this
      · have := length_ok _ s W hI (S0.below hW) h (fit_tail fa m) it
        rwa [lt] at this
      · have e3 : jB (headO o m) (tailO o m) = true := jB_of ih it rfl rfl rfl
        have := join_any (headO o m) (tailO o m) s s' W hI (S0.below hW) h h' (fit_head fa m) (fit_tail fa m)
        rwa [jR_of e3, e3, jE_of ih it, errOf_zero, head_tail io hk m] at this
    · have h1 : lenO o = 1 := by omega
      rw [h1] at cN
      exact back_2 (ad := ad) o va x w cL ra cN
end Go.Proofs.YtecmdlecfddeeaaDoor
