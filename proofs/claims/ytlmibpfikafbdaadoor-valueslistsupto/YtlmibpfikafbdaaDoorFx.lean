/- What vellumlaw02.fixed answers: true. -/
import Derived.Test.YtlmibpfikafbdaaDoorVm
namespace Go.Proofs.YtlmibpfikafbdaaDoor
open Go Go.RowKit Go.Lib
set_option linter.unusedVariables false

def its : ByteArray := ⟨#[105, 116, 39, 115]⟩
theorem its_good : txtE its = 0 := by
  have h : brk its.data.toList = its.size := by kernel_rfl
  rw [txtE, if_pos h]; rfl
theorem prs_its : prs ⟨#[39, 105, 116, 39, 115]⟩ = (0, 3, 0, its) := by
  have e : tlB ⟨#[39, 105, 116, 39, 115]⟩ = its := rfl
  rw [prs, if_neg (by decide), if_neg (by decide), if_neg (by decide), if_pos (by decide), e, if_pos its_good]
theorem prs_m0 : prs ⟨#[45, 48]⟩ = (5, 0, 0, ⟨#[]⟩) := by
  have h : isDec [45, 48] = false := by decide
  rw [prs, if_neg (by decide), if_neg (by decide), if_neg (by decide), if_neg (by decide), h]; rfl

set_option maxHeartbeats 1000000 in
set_option maxRecDepth 100000 in
theorem fixed_any {I : List Nat} {a : Nat → Addr} (w : World) (hI : ∀ i ∈ [0, 3, 4, 9], i ∈ I) (hS : Std I a w) (hT : Strc w) :
    Calls Tryd.prog 9 #[] w fun e w' => e = .returned (.bool true) ∧ Below w.heap.size w w' := by
  have hI' : ∀ i ∈ [0, 4, 9], i ∈ I := fun i hi => hI i (by simp at hi ⊢; omega)
  have c1 := fun W (hW : Below w.heap.size w W) => from_below hW (of_ok 2 (-5) ⟨#[]⟩ W hI' (hS.below hW) (Nat.zero_le _) (chk_num (-5)))
  have c2 := fun W (hW : Below w.heap.size w W) => from_below hW (parse_any ⟨#[39, 105, 116, 39, 115]⟩ W hI (hS.below hW) (hT.below hW) (by show 5 ≤ _; omega))
  have c3 := fun W (hW : Below w.heap.size w W) => from_below hW (text_ok 1 1 ⟨#[]⟩ W hI' (hS.below hW) (hT.below hW) (Nat.zero_le _) (by omega) (by omega) chk_true)
  have c4 := fun W (hW : Below w.heap.size w W) => from_below hW (parse_any ⟨#[45, 48]⟩ W hI (hS.below hW) (hT.below hW) (by show 2 ≤ _; omega))
  have c5 := fun W (hW : Below w.heap.size w W) => from_below hW (check_any' 4 0 ⟨#[]⟩ W hI' (hS.below hW) (Nat.zero_le _))
  rw [prs_its] at c2
  rw [prs_m0] at c4
  rw [show chk 4 0 ⟨#[]⟩ = 5 from rfl] at c5
  have e2 : resV (0, 3, 0, its) = .iface 55 (.string ⟨#[105, 116, 39, 115]⟩) := rfl
  have e4 : resV (5, 0, 0, ⟨#[]⟩) = .nilIface := rfl
  rw [e2] at c2
  rw [e4] at c4
  have k2 := fun W (hW : Below w.heap.size w W) => from_below hW (kind_d (-5) W)
  have p2 := fun W (hW : Below w.heap.size w W) => from_below hW (plain_d (-5) W)
  have p3 := fun W (hW : Below w.heap.size w W) => from_below hW (plain_t ⟨#[105, 116, 39, 115]⟩ W)
  have hg : ∀ W, Below w.heap.size w W → W.cell? ⟨0, 0, none⟩ = some (errV a 4) := fun W hW => (hS.below hW).er.cell 4 (hI 4 (by simp))
  clear hS hT hI hI' e2 e4
  go_enter Tryd.func9, Tryd.ntmps9
  go_wp2_with fail
  refine (c1 _ (Below.refl _ _)).mono ?_; rintro e w1 ⟨rfl, b1⟩
  rw [show valOf 2 (-5) ⟨#[]⟩ = .iface 50 (.int .i64 (-5)) from rfl]
  go_wp2_with (first
    | (go_at_call 101; refine (k2 _ b1).mono ?_; rintro e w2 ⟨rfl, b2⟩)
    | (go_at_call 102; refine (p2 _ b2).mono ?_; rintro e w3 ⟨rfl, b3⟩))
  refine (c2 _ b3).mono ?_; rintro e w4 ⟨rfl, b4⟩
  go_wp2_with fail
  refine (c3 _ b4).mono ?_; rintro e w5 ⟨rfl, b5⟩
  rw [show txtOf 1 1 ⟨#[]⟩ = ⟨#[116, 114, 117, 101]⟩ from rfl]
  go_wp2_with fail
  refine (c4 _ b5).mono ?_; rintro e w6 ⟨rfl, b6⟩
  have hg6 := hg _ b6
  have q := eql_same a 4
  clear c1 c2 c3 c4 k2 p2 b1 b2 b3 b4 b5
  rw [show errOf a 0 = .nilIface from rfl, show errOf a 5 = errV a 4 from rfl] at *
  go_wp2_with fail
  go_region_held3 (fun w' => w'.cell? ⟨0, 0, none⟩ = some (errV a 4) ∧ Below w.heap.size w w') (exact ⟨by first | assumption | (simpa using hg6), by first | assumption | exact b6.drew⟩)
    (first
      | (go_at_call 108; refine (p3 _ ?_).mono ?_; (· first | assumption | (apply And.right; assumption)); rintro e w7 ⟨rfl, b7⟩; have hg7 := hg _ b7)
      | (go_at_call 13; refine (c5 _ ?_).mono ?_; (· first | assumption | (apply And.right; assumption)); rintro e w7 ⟨rfl, b7⟩; have hg7 := hg _ b7))
  go_wp2
  go_ret
  exact ⟨rfl, by first | assumption | (apply And.right; assumption)⟩
end Go.Proofs.YtlmibpfikafbdaaDoor
