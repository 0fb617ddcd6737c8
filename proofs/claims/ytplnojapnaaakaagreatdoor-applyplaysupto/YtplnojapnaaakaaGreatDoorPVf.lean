/- What values.Of answers. -/
import Derived.Test.YtplnojapnaaakaaGreatDoorPVo
import Derived.Test.YtplnojapnaaakaaGreatDoorPShelf
namespace Go.Proofs.YtplnojapnaaakaaGreatDoor
open Go Go.RowKit Go.Lib
set_option linter.unusedVariables false
theorem clone_any (s : ByteArray) (w : World) (hs : s.size ≤ 281474976710656) :
    Calls Tryz.prog 151 #[.string s] w fun e w' => e = .returned (.string s) ∧ Below w.heap.size w w' := by
  have c := fun W => Tryz.stringslite_Clone s W hs
  go_enter Tryz.func151, Tryz.ntmps151
  go_wp2_with (go_at_call 165; refine (c _).mono ?_; rintro e w' ⟨rfl, hb⟩)
  go_ret
  exact ⟨rfl, hb⟩

theorem of_no {I : List Nat} {a : Nat → Addr} (k n : Int) (t : ByteArray) (w : World) (hI : ∀ i ∈ [0, 4, 9], i ∈ I) (hS : Std I a w) (hs : t.size ≤ 281474976710656) (e : Nat) (he : chk k n t = e + 1) :
    Calls Tryz.prog 150 #[pl k n t] w fun r w' => r = .returned (.tuple #[.nilIface, errV a e]) ∧ Below w.heap.size w w' := by
  have c := fun W (hW : Below w.heap.size w W) => from_below hW (check_any' k n t W hI (hS.below hW) hs)
  rw [he, errOf_succ] at c
  have c1 := c _ ((Below.refl w.heap.size w).alloc (Nat.le_refl _) (.cells #[.int .i64 k, .int .i64 n, .string t] 30))
  clear hS hI he c
  go_enter Tryz.func150, Tryz.ntmps150
  go_wp2_with (go_at_call 164; refine c1.mono ?_; rintro e w1 ⟨rfl, b1⟩)
  go_ret2
  exact ⟨rfl, b1⟩

set_option maxHeartbeats 400000 in
theorem of_ok {I : List Nat} {a : Nat → Addr} (k n : Int) (t : ByteArray) (w : World) (hI : ∀ i ∈ [0, 4, 9], i ∈ I) (hS : Std I a w) (hs : t.size ≤ 281474976710656) (he : chk k n t = 0) :
    Calls Tryz.prog 150 #[pl k n t] w fun r w' => r = .returned (.tuple #[valOf k n t, .nilIface]) ∧ Below w.heap.size w w' := by
  have c := fun W (hW : Below w.heap.size w W) => check_any' k n t W hI (hS.below hW) hs
  rw [he, errOf_zero] at c
  have c1 := c _ ((Below.refl w.heap.size w).alloc (Nat.le_refl _) (.cells #[.int .i64 k, .int .i64 n, .string t] 30))
  have b0 := (Below.refl w.heap.size w).alloc (Nat.le_refl _) (.cells #[.int .i64 k, .int .i64 n, .string t] 30)
  have cc := fun W => clone_any t W hs
  obtain ⟨V, hV⟩ : ∃ V, valOf k n t = V := ⟨_, rfl⟩
  rw [hV]
  clear hS hI c
  rcases good_cases he with ⟨rfl, rfl, rfl⟩ | ⟨rfl, rfl, rfl⟩ | ⟨rfl, rfl, rfl⟩ | ⟨rfl, rfl⟩ | ⟨rfl, rfl, _⟩
  all_goals simp [valOf] at hV; subst hV; clear he
  · go_enter Tryz.func150, Tryz.ntmps150
    go_wp2_with (go_at_call 164; refine c1.mono ?_; rintro e w1 ⟨rfl, b⟩; have b1 := b0.trans (b.mono b0.size); have hc0 := b.cell (p := ⟨w.heap.size, 0, none⟩) (by simp))
    go_ret2
    exact ⟨rfl, b1⟩
  · go_enter Tryz.func150, Tryz.ntmps150
    go_wp2_with (go_at_call 164; refine c1.mono ?_; rintro e w1 ⟨rfl, b⟩; have b1 := b0.trans (b.mono b0.size); have hc0 := b.cell (p := ⟨w.heap.size, 0, none⟩) (by simp); have hc1 := b.cell (p := ⟨w.heap.size, 1, none⟩) (by simp))
    go_ret2
    exact ⟨rfl, b1⟩
  · go_enter Tryz.func150, Tryz.ntmps150
    go_wp2_with (go_at_call 164; refine c1.mono ?_; rintro e w1 ⟨rfl, b⟩; have b1 := b0.trans (b.mono b0.size); have hc0 := b.cell (p := ⟨w.heap.size, 0, none⟩) (by simp); have hc1 := b.cell (p := ⟨w.heap.size, 1, none⟩) (by simp))
    go_ret2
    exact ⟨rfl, b1⟩
  · go_enter Tryz.func150, Tryz.ntmps150
    go_wp2_with (go_at_call 164; refine c1.mono ?_; rintro e w1 ⟨rfl, b⟩; have b1 := b0.trans (b.mono b0.size); have hc0 := b.cell (p := ⟨w.heap.size, 0, none⟩) (by simp); have hc1 := b.cell (p := ⟨w.heap.size, 1, none⟩) (by simp))
    go_ret2
    exact ⟨rfl, b1⟩
  · go_enter Tryz.func150, Tryz.ntmps150
    go_wp2_with (first
      | (go_at_call 164; refine c1.mono ?_; rintro e w1 ⟨rfl, b⟩; have b1 := b0.trans (b.mono b0.size); have hc0 := b.cell (p := ⟨w.heap.size, 0, none⟩) (by simp); have hc2 := b.cell (p := ⟨w.heap.size, 2, none⟩) (by simp))
      | (go_at_call 151; refine (cc _).mono ?_; rintro e w2 ⟨rfl, b2⟩))
    go_ret2
    exact ⟨rfl, b1.trans (b2.mono b1.size)⟩
end Go.Proofs.YtplnojapnaaakaaGreatDoor
