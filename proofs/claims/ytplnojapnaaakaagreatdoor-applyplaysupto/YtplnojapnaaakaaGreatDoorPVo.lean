/- What values.Check and values.Of answer. -/
import Derived.Test.YtplnojapnaaakaaGreatDoorPVc
import Derived.Test.YtplnojapnaaakaaGreatDoorPSc
namespace Go.Proofs.YtplnojapnaaakaaGreatDoor
open Go Go.RowKit Go.Lib
set_option linter.unusedVariables false
theorem check_bad {I : List Nat} {a : Nat → Addr} (k n : Int) (t : ByteArray) (w : World) (hI : ∀ i ∈ [0, 4, 9], i ∈ I) (hS : Std I a w) (h : fitB k n t = false) :
    Calls Tryz.prog 164 #[pl k n t] w fun e w' => e = .returned (errV a 4) ∧ Below w.heap.size w w' := by
  have c := fun W => fits_any k n t W
  rw [h] at c
  have hg : ∀ W, Below w.heap.size w W → W.cell? ⟨6, 0, none⟩ = some (errV a 4) := fun W hW => (hS.below hW).er.cell 4 (hI 4 (by simp))
  clear hS hI h
  go_enter Tryz.func164, Tryz.ntmps164
  go_wp2_with (go_at_call 173; refine (c _).mono ?_; rintro e w1 ⟨rfl, b⟩; have b1 := ((Below.refl w.heap.size w).alloc (Nat.le_refl _) _).trans (b.mono (by simp)); have hg1 := hg _ b1)
  go_ret
  exact ⟨rfl, b1⟩

theorem check_txt {I : List Nat} {a : Nat → Addr} (k n : Int) (t : ByteArray) (w : World) (hI : ∀ i ∈ [0, 4, 9], i ∈ I) (hS : Std I a w) (hs : t.size ≤ 281474976710656) (h : fitB k n t = true) :
    Calls Tryz.prog 164 #[pl k n t] w fun e w' => e = .returned (errOf a (txtE t)) ∧ Below w.heap.size w w' := by
  have c := fun W => fits_any k n t W
  rw [h] at c
  rcases txtE_cases t with ⟨he, hv, hl⟩ | ⟨he, hv, hl⟩ | ⟨he, hv⟩
  all_goals rw [he]
  · rw [errOf_zero]
    have c2 := fun W (hW : Below w.heap.size w W) => check_ok t W (hI 0 (by simp)) (hS.below hW) hs hv
    have hl' : (t.size : Int) ≤ 1048576 := by omega
    clear hS hI h hv he
    go_enter Tryz.func164, Tryz.ntmps164
    go_wp2_with (first
      | (go_at_call 173; refine (c _).mono ?_; rintro e w1 ⟨rfl, b⟩; have b1 := ((Below.refl w.heap.size w).alloc (Nat.le_refl _) _).trans (b.mono (by simp)); have hc1 := b.cell (p := ⟨w.heap.size, 2, none⟩) (by simp); have c3 := c2 _ b1; clear c2)
      | (go_at_call 162; refine c3.mono ?_; rintro e w2 ⟨rfl, b2⟩; have hc2 := b2.cell (p := ⟨w.heap.size, 2, none⟩) (by have := b.size; simp at this; simp; omega)))
    go_ret
    exact ⟨rfl, b1.trans (b2.mono b1.size)⟩
  · rw [show errOf a 10 = errV a 9 from rfl]
    have c2 := fun W (hW : Below w.heap.size w W) => check_ok t W (hI 0 (by simp)) (hS.below hW) hs hv
    have hl' : (1048576 : Int) < t.size := by omega
    have hg : ∀ W, Below w.heap.size w W → W.cell? ⟨11, 0, none⟩ = some (errV a 9) := fun W hW => (hS.below hW).er.cell 9 (hI 9 (by simp))
    clear hS hI h hv he
    go_enter Tryz.func164, Tryz.ntmps164
    go_wp2_with (first
      | (go_at_call 173; refine (c _).mono ?_; rintro e w1 ⟨rfl, b⟩; have b1 := ((Below.refl w.heap.size w).alloc (Nat.le_refl _) _).trans (b.mono (by simp)); have hc1 := b.cell (p := ⟨w.heap.size, 2, none⟩) (by simp); have c3 := c2 _ b1; clear c2)
      | (go_at_call 162; refine c3.mono ?_; rintro e w2 ⟨rfl, b2⟩; have hc2 := b2.cell (p := ⟨w.heap.size, 2, none⟩) (by have := b.size; simp at this; simp; omega); have b3 := b1.trans (b2.mono b1.size); have hg2 := hg _ b3))
    go_ret
    exact ⟨rfl, b3⟩
  · rw [show errOf a 1 = errV a 0 from rfl]
    have c2 := fun W (hW : Below w.heap.size w W) => check_no t W (hI 0 (by simp)) (hS.below hW) hs hv
    clear hS hI h hv he
    go_enter Tryz.func164, Tryz.ntmps164
    go_wp2_with (first
      | (go_at_call 173; refine (c _).mono ?_; rintro e w1 ⟨rfl, b⟩; have b1 := ((Below.refl w.heap.size w).alloc (Nat.le_refl _) _).trans (b.mono (by simp)); have hc1 := b.cell (p := ⟨w.heap.size, 2, none⟩) (by simp); have c3 := c2 _ b1; clear c2)
      | (go_at_call 162; refine c3.mono ?_; rintro e w2 ⟨rfl, b2⟩))
    go_ret
    exact ⟨rfl, b1.trans (b2.mono b1.size)⟩

theorem check_any' {I : List Nat} {a : Nat → Addr} (k n : Int) (t : ByteArray) (w : World) (hI : ∀ i ∈ [0, 4, 9], i ∈ I) (hS : Std I a w) (hs : t.size ≤ 281474976710656) :
    Calls Tryz.prog 164 #[pl k n t] w fun e w' => e = .returned (errOf a (chk k n t)) ∧ Below w.heap.size w w' := by
  cases h : fitB k n t
  · rw [show chk k n t = 5 by rw [chk, h]; rfl]
    exact check_bad k n t w hI hS h
  · rw [show chk k n t = txtE t by rw [chk, h]; rfl]
    exact check_txt k n t w hI hS hs h
end Go.Proofs.YtplnojapnaaakaaGreatDoor
