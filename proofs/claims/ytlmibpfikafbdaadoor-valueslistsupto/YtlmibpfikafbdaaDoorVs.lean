/- What values.Same and values.Compare answer. -/
import Derived.Test.YtlmibpfikafbdaaDoorVf
import Derived.Deep.RegionHeld3
namespace Go.Proofs.YtlmibpfikafbdaaDoor
open Go Go.RowKit Go.Lib
set_option linter.unusedVariables false

def samB (k n : Int) (t : ByteArray) (k' n' : Int) (t' : ByteArray) : Bool := (k == k') && ((n == n') && (t.toList == t'.toList))
theorem samB_iff {k n : Int} {t : ByteArray} {k' n' : Int} {t' : ByteArray} : samB k n t k' n' t' = true ↔ k = k' ∧ n = n' ∧ t = t' := by
  simp only [samB, Bool.and_eq_true, beq_iff_eq, toList_data]
  constructor
  · rintro ⟨h1, h2, h3⟩
    exact ⟨h1, h2, ByteArray.ext (Array.ext' h3)⟩
  · rintro ⟨h1, h2, rfl⟩
    exact ⟨h1, h2, rfl⟩

theorem eqIn_pl (k n : Int) (t : ByteArray) (k' n' : Int) (t' : ByteArray) (w : World) :
    (Op.equalIn 10000 23 (pl k n t) (pl k' n' t')).run Tryd.prog w = .ok (samB k n t k' n' t') w := by
  rw [run_equalIn_agg w 9999 23 _ _ (by kernel_rfl) (by kernel_rfl)]
  simp only [Program.fieldsOf, Tryd.underlying23]
  go_simp
  by_cases h1 : k = k'
  · by_cases h2 : n = n'
    · by_cases h3 : t.toList = t'.toList <;> simp [samB, h1, h2, h3]
    · simp [samB, h1, h2]
  · simp [samB, h1]

/-- cmp.Or at three numbers. -/
def orZ (x y z : Int) : Int := if x = 0 then (if y = 0 then z else y) else x
set_option maxHeartbeats 400000 in
theorem or3 (x y z : Int) (g : Nat) (w : World) (h0 : w.cell? ⟨g, 0, none⟩ = some (.int .i64 x)) (h1 : w.cell? ⟨g, 1, none⟩ = some (.int .i64 y)) (h2 : w.cell? ⟨g, 2, none⟩ = some (.int .i64 z)) :
    Calls Tryd.prog 30 #[.slice (some ⟨g, 0, none⟩) 3 3] w fun e w' => e = .returned (.int .i64 (orZ x y z)) ∧ w' = w := by
  obtain ⟨R, hR⟩ : ∃ R, orZ x y z = R := ⟨_, rfl⟩
  rw [hR]
  by_cases a : x = 0
  · by_cases b : y = 0
    · by_cases c : z = 0
      · subst a b c
        simp [orZ] at hR
        subst hR
        go_enter Tryd.func30, Tryd.ntmps30
        go_wp2
        go_rounds 4
        go_ret
        exact ⟨rfl, rfl⟩
      · subst a b
        have hc : (z == 0) = false := by simpa using c
        simp [orZ] at hR
        subst hR
        go_enter Tryd.func30, Tryd.ntmps30
        go_wp2
        go_rounds 4
        go_ret
        exact ⟨rfl, rfl⟩
    · subst a
      have hc : (y == 0) = false := by simpa using b
      simp [orZ, b] at hR
      subst hR
      go_enter Tryd.func30, Tryd.ntmps30
      go_wp2
      go_rounds 4
      go_ret
      exact ⟨rfl, rfl⟩
  · have hc : (x == 0) = false := by simpa using a
    simp [orZ, a] at hR
    subst hR
    go_enter Tryd.func30, Tryd.ntmps30
    go_wp2
    go_rounds 4
    go_ret
    exact ⟨rfl, rfl⟩

theorem cmp64 (x y : Int) (w : World) : Calls Tryd.prog 32 #[.int .i64 x, .int .i64 y] w fun e w' => e = .returned (.int .i64 (compareInt x y)) ∧ w' = w := by
  go_enter Tryd.func32, Tryd.ntmps32
  go_wp2
  all_goals (go_ret; refine ⟨?_, rfl⟩; unfold compareInt; (repeat' split) <;> first | rfl | (exfalso; omega))

theorem same_any (k n : Int) (t : ByteArray) (k' n' : Int) (t' : ByteArray) (w : World) :
    Calls Tryd.prog 17 #[pl k n t, pl k' n' t'] w fun e w' => e = .returned (.bool (samB k n t k' n' t')) ∧ Below w.heap.size w w' := by
  have c := fun W => eqIn_pl k n t k' n' t' W
  obtain ⟨B, hB⟩ : ∃ B, samB k n t k' n' t' = B := ⟨_, rfl⟩
  rw [hB] at c ⊢
  clear hB
  go_enter Tryd.func17, Tryd.ntmps17
  go_wp2
  go_ret
  exact ⟨rfl, ((Below.refl _ _).alloc (Nat.le_refl _) _).alloc (by simp) _⟩

/-- The order of Plains. -/
def cmpP (k n : Int) (t : ByteArray) (k' n' : Int) (t' : ByteArray) : Int := orZ (compareInt k k') (compareInt n n') (compareBytes t.data.toList t'.data.toList)

set_option maxHeartbeats 1000000 in
theorem compare_any (k n : Int) (t : ByteArray) (k' n' : Int) (t' : ByteArray) (w : World) :
    Calls Tryd.prog 18 #[pl k n t, pl k' n' t'] w fun e w' => e = .returned (.int .i64 (cmpP k n t k' n' t')) ∧ Below w.heap.size w w' := by
  have c1 := fun W => Tryd.cmp_Compare_int k k' W
  have c2 := fun W => cmp64 n n' W
  have c3 := fun W => Tryd.strings_Compare t t' W
  have c4 := fun g W h0 h1 h2 => or3 (compareInt k k') (compareInt n n') (compareBytes t.data.toList t'.data.toList) g W h0 h1 h2
  obtain ⟨x, hx⟩ : ∃ x, compareInt k k' = x := ⟨_, rfl⟩
  obtain ⟨y, hy⟩ : ∃ x, compareInt n n' = x := ⟨_, rfl⟩
  obtain ⟨z, hz⟩ : ∃ x, compareBytes t.data.toList t'.data.toList = x := ⟨_, rfl⟩
  rw [hx, hy, hz] at c4
  rw [hx] at c1
  rw [hy] at c2
  rw [hz] at c3
  obtain ⟨R, hR⟩ : ∃ R, orZ x y z = R := ⟨_, rfl⟩
  rw [hR] at c4
  rw [show cmpP k n t k' n' t' = R by rw [cmpP, hx, hy, hz, hR]]
  clear hx hy hz hR
  go_enter Tryd.func18, Tryd.ntmps18
  go_wp2_with fail
  obtain ⟨W0, hW0⟩ : ∃ W0, W0 = (w.alloc (.cells #[.int .i64 k, .int .i64 n, .string t] 23)).alloc (.cells #[.int .i64 k', .int .i64 n', .string t'] 23) := ⟨_, rfl⟩
  have k0 : W0.cell? ⟨w.heap.size, 0, none⟩ = some (.int .i64 k) := by rw [hW0]; simp
  have k1 : W0.cell? ⟨w.heap.size, 1, none⟩ = some (.int .i64 n) := by rw [hW0]; simp
  have k2 : W0.cell? ⟨w.heap.size, 2, none⟩ = some (.string t) := by rw [hW0]; simp
  have k3 : W0.cell? ⟨w.heap.size + 1, 0, none⟩ = some (.int .i64 k') := by rw [hW0]; simp
  have k4 : W0.cell? ⟨w.heap.size + 1, 1, none⟩ = some (.int .i64 n') := by rw [hW0]; simp
  have k5 : W0.cell? ⟨w.heap.size + 1, 2, none⟩ = some (.string t') := by rw [hW0]; simp
  have hb : Below w.heap.size w W0 := by rw [hW0]; exact ((Below.refl _ _).alloc (Nat.le_refl _) _).alloc (by simp) _
  rw [← hW0]
  clear hW0
  have hz := hb.size
  go_region_held3 (fun w' => w'.cell? ⟨w.heap.size, 0, none⟩ = some (.int .i64 k) ∧ w'.cell? ⟨w.heap.size, 1, none⟩ = some (.int .i64 n) ∧ w'.cell? ⟨w.heap.size, 2, none⟩ = some (.string t) ∧ w'.cell? ⟨w.heap.size + 1, 0, none⟩ = some (.int .i64 k') ∧ w'.cell? ⟨w.heap.size + 1, 1, none⟩ = some (.int .i64 n') ∧ w'.cell? ⟨w.heap.size + 1, 2, none⟩ = some (.string t')) (go_keep)
    (first
      | (go_at_call 31; refine (c1 _).mono ?_; rintro e w1 ⟨rfl, rfl⟩)
      | (go_at_call 32; refine (c2 _).mono ?_; rintro e w1 ⟨rfl, rfl⟩)
      | (go_at_call 33; refine (c3 _).mono ?_; rintro e w1 ⟨rfl, rfl⟩)
      | (go_at_call 30; refine (c4 _ _ ?_ ?_ ?_).mono ?_; (simp); (simp); (simp); rintro e w1 ⟨rfl, rfl⟩))
  go_wp2
  go_ret
  exact ⟨rfl, by first | go_grown | exact (below_drewN hb 1).alloc hz _⟩
end Go.Proofs.YtlmibpfikafbdaaDoor
