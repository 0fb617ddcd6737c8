/- vellumlaw05.fixed answers true. -/
import Derived.Test.YtkgflmbhkbeakabDoorQm
import Derived.Deep.DeepCutAuto
namespace Go.Proofs.YtkgflmbhkbeakabDoor
open Go Go.RowKit Go.Lib
set_option linter.unusedVariables false

set_option maxHeartbeats 1000000 in
set_option maxRecDepth 100000 in
theorem fixed5_any {I : List Nat} {a : Nat → Addr} (w : World) (hI : ∀ i ∈ IxO, i ∈ I) (hS : Std I a w) :
    Calls Tryd.prog 6 #[] w fun r w' => r = .returned (.bool true) ∧ Below w.heap.size w w' := by
  have b0 := (Below.refl w.heap.size w).alloc (Nat.le_refl _) (.cells fxC 37)
  have r0 := fx_row w 3 (Nat.le_refl _)
  obtain ⟨W0, hW0⟩ : ∃ W, W = w.alloc (.cells fxC 37) := ⟨_, rfl⟩
  rw [← hW0] at b0 r0
  have S0 := hS.below b0
  have cL : Hid (∀ W, Below W0.heap.size W0 W → Calls Tryd.prog 7 #[.slice (some ⟨w.heap.size, 0, none⟩) 3 3] W fun r w' => r = .returned (.tuple #[.int .i64 5, .int .i64 5, .nilIface]) ∧ Below W.heap.size W w') := fun W hW => by
    have := lens_any _ fxL W hI (S0.below hW) (r0.below hW) fx_fit (by decide)
    rw [fx_sum] at this
    exact this
  have cO : Hid (∀ W, Below W0.heap.size W0 W → Calls Tryd.prog 12 #[.slice (some ⟨w.heap.size, 0, none⟩) 3 3] W fun r w' => ∃ g cap p1 n1 c1, r = .returned (.tuple #[.slice (some ⟨g, 0, none⟩) 3 cap, .int .i64 0, .nilIface]) ∧ w'.cell? ⟨g, 1, none⟩ = some (.iface 74 (.agg #[.slice p1 n1 c1, .string ⟨#[97, 98]⟩, .int .i64 2])) ∧ Below W.heap.size W w') := fun W hW => by
    refine (of_any _ fxL W hI (S0.below hW) (r0.below hW) fx_fit (by decide)).mono fun r w' ⟨v', h1, h2, _, h4⟩ => ?_
    rw [fx_bad] at h1 h2
    obtain ⟨P, hP, hD⟩ := h2 rfl
    have hl : P.length = 3 := forall2_len hD
    obtain ⟨g, cap, x, hv, hB, hx, hc⟩ := own_cell hP 1 (by omega)
    obtain ⟨e, s, he, rfl, ho⟩ := oneI hD hx
    obtain rfl : fx2 = e := by simpa using he
    obtain ⟨p1, c1, rfl⟩ := own_slice ho
    rw [hl] at hv
    have hq : pieceQ fx2 (.slice p1 fx2.A.length c1) = .iface 74 (.agg #[.slice p1 fx2.A.length c1, .string ⟨#[97, 98]⟩, .int .i64 2]) := by
      rw [pieceQ_1 (o := fx2) rfl, show ((scs fx2.t.data.toList).length : Int) = 2 by decide +kernel]; rfl
    rw [hq] at hc
    exact ⟨g, cap, p1, _, c1, by rw [h1, hv]; rfl, hc, h4⟩
  have cC : Hid (∀ W, Below W0.heap.size W0 W → Calls Tryd.prog 10 #[.slice (some ⟨w.heap.size, 0, none⟩) 3 3] W fun r w' => r = .returned (.bool true) ∧ Below W.heap.size W w') := fun W hW => by
    have := canon_any _ fxL W hI (S0.below hW) (r0.below hW) fx_fit (by decide)
    rw [fx_canon] at this
    exact this
  have cD : Hid (∀ W, Below W0.heap.size W0 W → Calls Tryd.prog 10 #[.slice (some ⟨w.heap.size, 0, none⟩) 1 3] W fun r w' => r = .returned (.bool false) ∧ Below W.heap.size W w') := fun W hW => by
    have := canon_any _ [fx1] W hI (S0.below hW) (re_one (cap' := 3) (r0.below hW) (by decide)) (fun o ho => fx_fit o (by simp only [List.mem_singleton] at ho; subst ho; exact List.mem_cons_self ..)) (by decide)
    rw [fx_plain] at this
    exact this
  have cS : Hid (∀ W, Below W0.heap.size W0 W → Calls Tryd.prog 16 #[.slice (some ⟨w.heap.size, 0, none⟩) 3 3, .slice (some ⟨w.heap.size, 0, none⟩) 3 3] W fun r w' => r = .returned (.bool true) ∧ Below W.heap.size W w') := fun W hW => by
    have := sameL_any _ _ fxL fxL W (r0.below hW) (r0.below hW) (by decide) (by decide) (fun e he => (fx_fit e he).n) (fun e he => (fx_fit e he).n)
    rw [decide_eq_true rfl] at this
    exact this
  have cK : Hid (∀ W, Below W0.heap.size W0 W → Calls Tryd.prog 11 #[.agg #[.int .i64 4, .string ⟨#[]⟩, .int .i64 0, .int .i64 0, .string ⟨#[]⟩, .int .i64 0, .slice none 0 0]] W fun r w' => r = .returned (errV a 8) ∧ Below W.heap.size W w') := fun W hW => by
    have := checkO_any fx4 (.slice none 0 0) W hI (S0.below hW) (RN.nil W) fit4
    rw [fx_opE.2.2.2, show (9 : Nat) = 8 + 1 from rfl, errOf_succ] at this
    exact this
  have gO : Hid (∀ W, Below W0.heap.size W0 W → W.cell? ⟨0, 0, none⟩ = some (errV a 8)) := fun W hW => (S0.below hW).er.cell 8 (hI 8 (by simp))
  have eq8 := eql_same a 8
  clear hS hI S0 r0
  go_enter Tryd.func6, Tryd.ntmps6
  go_wp2_with fail
  rw [← hW0]
  clear hW0
  refine (cL.out _ (Below.refl _ _)).mono ?_; rintro r w2 ⟨rfl, h2⟩
  have c3 := cO.out _ h2
  go_wp2_with fail
  refine c3.mono ?_; rintro r w3 ⟨g, cap, p1, n1, c1, rfl, hc, h3⟩
  have b3 := h2.trans (h3.mono h2.size)
  clear c3 h3 h2
  go_wp2_with fail
  refine (ilen_any _ _ _ _).mono ?_; rintro r w4 ⟨rfl, h4⟩
  have b4 := b3.trans (h4.mono b3.size)
  clear h4 b3 hc
  go_wp2_with fail
  have gO4 := gO.out w4 b4
  have cC4 := cC.out
  have cD4 := cD.out
  have cS4 := cS.out
  have cK4 := cK.out
  have HG : Hid (∀ W, Below W0.heap.size W0 W → W.cell? ⟨0, 0, none⟩ = some (errV a 8)) := gO
  clear cC cD cS cK gO cL cO
  go_region_held3 (fun w' => w'.cell? ⟨0, 0, none⟩ = some (errV a 8) ∧ Below W0.heap.size W0 w')
    (exact ⟨by first | (with_reducible assumption) | exact gO4, by first | (with_reducible assumption) | exact b4.drew⟩)
    (first
      | (go_at_call 11; refine (cK4 _ (by with_reducible assumption)).mono ?_; rintro r w8 ⟨rfl, h8⟩; have b8 := b7.trans (h8.mono b7.size); have g8 := HG.out _ b8)
      | (go_at_call 16; refine (cS4 _ (by with_reducible assumption)).mono ?_; rintro r w7 ⟨rfl, h7⟩; have b7 := b6.trans (h7.mono b6.size); have g7 := HG.out _ b7)
      | (go_at_call_of 10 (1 : Nat); refine (cD4 _ (by with_reducible assumption)).mono ?_; rintro r w6 ⟨rfl, h6⟩; have b6 := b5.trans (h6.mono b5.size); have g6 := HG.out _ b6)
      | (go_at_call 10; refine (cC4 _ (by first | (with_reducible assumption) | exact b4.drew)).mono ?_; rintro r w5 ⟨rfl, h5⟩; have b5 := b4.drew.trans (h5.mono b4.size); have g5 := HG.out _ b5))
  have b9 := b0.trans (b8.mono b0.size)
  go_wp2
  go_ret
  exact ⟨rfl, b9⟩
end Go.Proofs.YtkgflmbhkbeakabDoor
