/- content.checkFields and Marked.Attributes. -/
import Derived.Test.YtplnojapnaaakaaGreatDoorPCo
import Derived.Test.YtplnojapnaaakaaGreatDoorPAx
import Derived.BigQuiet
namespace Go.Proofs.YtplnojapnaaakaaGreatDoor
open Go Go.RowKit Go.Lib
set_option linter.unusedVariables false
/-- Those that its Of wants. -/
abbrev IW : List Nat := [0, 4, 5, 6, 7, 8, 9]
abbrev opC (o : Op5) (s : Value) : Array Value := #[.int .i64 o.k, .string o.t, .int .i64 o.v.1, .int .i64 o.v.2.1, .string o.v.2.2, .int .i64 o.c, s]

set_option maxHeartbeats 1000000 in
theorem fields_any0 {I : List Nat} {a : Nat → Addr} (o : Op5) (s : Value) (w : World) (hI : ∀ i ∈ IW, i ∈ I) (hS : Std I a w) :
    Calls Tryz.prog 148 #[opV o s] w fun r w' => r = .returned (errOf a (fldE o)) ∧ Below w.heap.size w w' := by
  obtain ⟨k, t, ⟨x, n, u⟩, c, A⟩ := o
  have b0 := (Below.refl w.heap.size w).alloc (Nat.le_refl _) (.cells (opC ⟨k, t, (x, n, u), c, A⟩ s) 33)
  have gK : (w.alloc (.cells (opC ⟨k, t, (x, n, u), c, A⟩ s) 33)).cell? ⟨6, 0, none⟩ = some (errV a 4) := (hS.below b0).er.cell 4 (hI 4 (by simp))
  have gO : (w.alloc (.cells (opC ⟨k, t, (x, n, u), c, A⟩ s) 33)).cell? ⟨10, 0, none⟩ = some (errV a 8) := (hS.below b0).er.cell 8 (hI 8 (by simp))
  have gY : (w.alloc (.cells (opC ⟨k, t, (x, n, u), c, A⟩ s) 33)).cell? ⟨7, 0, none⟩ = some (errV a 5) := (hS.below b0).er.cell 5 (hI 5 (by simp))
  simp only [opC] at b0 gK gO gY
  have gd := fun op x' y' w => guard_pl op x' y' (x, n, u) (0, 0, ⟨#[]⟩) w
  clear hS hI
  unfold fldE
  simp only
  by_cases k1 : k = 1
  · subst k1
    rw [if_neg (by simp)]
    by_cases c0 : c = 0
    · subst c0
      cases he : t.toList.isEmpty with
      | true =>
        rw [if_pos (Or.inr ⟨rfl, Or.inl rfl⟩)]
        clear gd gK gY
        go_enter Tryz.func148, Tryz.ntmps148
        go_wp2
        go_quiet (fail)
        go_wp2
        go_ret
        exact ⟨rfl, below_drewN b0 _⟩
      | false =>
        by_cases hz : (x, n, u) = z0
        · have hne := neq_pl (x, n, u) (0, 0, ⟨#[]⟩) false (by rw [hz]; show (!samP z0 z0) = false; rw [samP_self]; rfl)
          rw [if_neg (by simp [hz]), if_neg (by simp)]
          clear gK gY gO hz
          go_enter Tryz.func148, Tryz.ntmps148
          go_wp2
          go_quiet (fail)
          go_wp2
          go_ret
          exact ⟨rfl, below_drewN b0 _⟩
        · have hne := neq_pl (x, n, u) (0, 0, ⟨#[]⟩) true (by show (!samP (x, n, u) z0) = true; rw [samP_ne hz]; rfl)
          rw [if_pos (Or.inr ⟨rfl, Or.inr hz⟩)]
          clear gK gY hz
          go_enter Tryz.func148, Tryz.ntmps148
          go_wp2
          go_quiet (fail)
          go_wp2
          go_ret
          exact ⟨rfl, below_drewN b0 _⟩
    · rw [if_pos (Or.inl c0)]
      clear gd gK gY
      have hc : (c == 0) = false := by simpa using c0
      go_enter Tryz.func148, Tryz.ntmps148
      go_wp2
      go_quiet (fail)
      go_wp2
      go_ret
      exact ⟨rfl, below_drewN b0 _⟩
  · have e1 : (k == 1) = false := by simpa using k1
    by_cases k2 : k = 2
    · subst k2
      rw [if_neg (by simp)]
      by_cases c0 : c = 0
      · subst c0
        rw [if_neg (by simp)]
        cases he : t.toList.isEmpty with
        | true =>
          rw [if_pos ⟨rfl, Or.inl rfl⟩]
          clear gd gK gO
          go_enter Tryz.func148, Tryz.ntmps148
          go_wp2
          go_quiet (fail)
          go_wp2
          go_ret
          exact ⟨rfl, below_drewN b0 _⟩
        | false =>
          by_cases h64 : 64 < t.size
          · rw [if_pos ⟨rfl, Or.inr h64⟩]
            have hI : (64 : Int) < t.size := by omega
            clear gd gK gO
            go_enter Tryz.func148, Tryz.ntmps148
            go_wp2
            go_quiet (fail)
            go_wp2
            go_ret
            exact ⟨rfl, below_drewN b0 _⟩
          · rw [if_neg (by simp [h64])]
            have hI : ¬ (64 : Int) < t.size := by omega
            clear gd gK gO gY
            go_enter Tryz.func148, Tryz.ntmps148
            go_wp2
            go_quiet (fail)
            go_wp2
            go_ret
            exact ⟨rfl, below_drewN b0 _⟩
      · rw [if_pos (Or.inl c0)]
        clear gd gK gY
        have hc : (c == 0) = false := by simpa using c0
        go_enter Tryz.func148, Tryz.ntmps148
        go_wp2
        go_quiet (fail)
        go_wp2
        go_ret
        exact ⟨rfl, below_drewN b0 _⟩
    · have e2 : (k == 2) = false := by simpa using k2
      rw [if_pos ⟨k1, k2⟩]
      clear gd gO gY
      go_enter Tryz.func148, Tryz.ntmps148
      go_wp2
      go_quiet (fail)
      go_wp2
      go_ret
      exact ⟨rfl, below_drewN b0 _⟩

set_option maxHeartbeats 400000 in
theorem attributes_any (v : Value) (A : List A2) (w : World) (hA : RowA w v A) (zA : ∀ m c, v = .slice none m c → m = 0 ∧ c = 0) (hl : A.length ≤ 2097152) :
    Calls Tryz.prog 124 #[.agg #[v]] w fun r w' => ∃ v', r = .returned v' ∧ OwnA w' w.heap.size v' A ∧ Below w.heap.size w w' := by
  have b0 := (Below.refl w.heap.size w).alloc (Nat.le_refl _) (.cells #[v] 149)
  have HA : Hid (RowA (w.alloc (.cells #[v] 149)) v A) := hA.below b0
  have HZ : Hid (∀ m c, v = .slice none m c → m = 0 ∧ c = 0) := zA
  have oN : ∀ W, OwnA W w.heap.size (.slice none 0 0) [] := fun W => ⟨rfl, Or.inl ⟨rfl, rfl⟩⟩
  clear hA zA
  go_enter Tryz.func124, Tryz.ntmps124
  go_wp2_with (at_builtin; refine wpList_append_row rfl (.const (.slice none 0 0)) (.tmp 4) rfl w.heap.size (.slice none 0 0) [] rfl (oN _) v A rfl HA.out HZ.out (by simpa using hl) b0.size ?_; intro v9 w9 own9 gr9)
  have b9 := b0.grown gr9 b0.size (fun j hj => by simp [Value.ownBlock] at hj)
  go_ret
  exact ⟨_, rfl, own9, b9⟩
end Go.Proofs.YtplnojapnaaakaaGreatDoor
