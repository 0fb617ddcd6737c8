/- ops: what an operation is refused with; checkCount, retainOf, deleteOf, pieceOf, Check. -/
import Derived.Test.YtplnojapnaaakaaGreatDoorPCp
import Derived.Test.YtplnojapnaaakaaGreatDoorPCq
namespace Go.Proofs.YtplnojapnaaakaaGreatDoor
open Go Go.RowKit Go.Lib
set_option linter.unusedVariables false
/-- Where ops wants its errors. -/
abbrev IxO : List Nat := [0, 4, 5, 6, 7, 8, 9, 10]
theorem IO_w {I : List Nat} (hI : ∀ i ∈ IxO, i ∈ I) : ∀ i ∈ IW, i ∈ I := fun i hi => hI i (by simp at hi ⊢; omega)
/-- What the count of a retain or a delete is refused with. -/
def cntE (o : Op5) : Nat := if o.t.toList.isEmpty = false ∨ o.v ≠ z0 ∨ o.c < 1 then 9 else if 1099511627776 < o.c then 11 else 0
/-- What an operation is refused with. -/
def opE (o : Op5) : Nat :=
  if o.k = 1 ∨ o.k = 2 then insE o
  else if o.k = 3 then (if cntE o ≠ 0 then cntE o else listE true none o.A)
  else if o.k = 4 then (if o.A ≠ [] then 9 else cntE o)
  else 9
/-- How many cells an operation inserts, retains or deletes. -/
def len5 (o : Op5) : Int := if o.k = 1 ∨ o.k = 2 then lenO o else o.c
/-- What is known of a count that isn't refused. -/
structure Cnt (o : Op5) : Prop where
  text : o.t.toList.isEmpty = true
  val : o.v = z0
  lo : 1 ≤ o.c
  hi : o.c ≤ 1099511627776
theorem cnt_iff {o : Op5} : cntE o = 0 ↔ Cnt o := by
  unfold cntE
  by_cases h : o.t.toList.isEmpty = false ∨ o.v ≠ z0 ∨ o.c < 1
  · rw [if_pos h]
    refine ⟨fun h => (by cases h), fun ⟨h1, h2, h3, h4⟩ => ?_⟩
    rcases h with h | h | h
    · rw [h1] at h; cases h
    · exact absurd h2 h
    · omega
  · rw [if_neg h]
    have h1 : o.t.toList.isEmpty = true := by
      cases e : o.t.toList.isEmpty
      · exact absurd (Or.inl e) h
      · rfl
    have h2 : o.v = z0 := Decidable.byContradiction fun e => h (Or.inr (Or.inl e))
    have h3 : ¬ o.c < 1 := fun e => h (Or.inr (Or.inr e))
    by_cases h4 : 1099511627776 < o.c
    · rw [if_pos h4]
      exact ⟨fun h => (by cases h), fun ⟨_, _, _, h⟩ => by omega⟩
    · rw [if_neg h4]
      exact ⟨fun _ => ⟨h1, h2, by omega, by omega⟩, fun _ => rfl⟩
/-- What is known of an operation that isn't refused. -/
theorem op_good {o : Op5} (h : opE o = 0) : (Ins o ∧ (o.k = 1 ∨ o.k = 2)) ∨ (Cnt o ∧ listE true none o.A = 0 ∧ o.k = 3) ∨ (Cnt o ∧ o.A = [] ∧ o.k = 4) := by
  unfold opE at h
  by_cases h1 : o.k = 1 ∨ o.k = 2
  · rw [if_pos h1] at h
    exact Or.inl ⟨ins_of h, h1⟩
  · rw [if_neg h1] at h
    by_cases h3 : o.k = 3
    · rw [if_pos h3] at h
      by_cases hc : cntE o = 0
      · rw [if_neg (by simpa using hc)] at h
        exact Or.inr (Or.inl ⟨cnt_iff.1 hc, h, h3⟩)
      · rw [if_pos hc] at h; exact absurd h hc
    · rw [if_neg h3] at h
      by_cases h4 : o.k = 4
      · rw [if_pos h4] at h
        by_cases hA : o.A = []
        · rw [if_neg (by simpa using hA)] at h
          exact Or.inr (Or.inr ⟨cnt_iff.1 h, hA, h4⟩)
        · rw [if_pos hA] at h; cases h
      · rw [if_neg h4] at h; cases h

set_option maxHeartbeats 1000000 in
theorem count_any {I : List Nat} {a : Nat → Addr} (o : Op5) (s : Value) (w : World) (hI : ∀ i ∈ IxO, i ∈ I) (hS : Std I a w) :
    Calls Tryz.prog 152 #[opV o s] w fun r w' => r = .returned (errOf a (cntE o)) ∧ Below w.heap.size w w' := by
  obtain ⟨k, t, ⟨x, n, u⟩, c, A⟩ := o
  have b0 := (Below.refl w.heap.size w).alloc (Nat.le_refl _) (.cells (opC ⟨k, t, (x, n, u), c, A⟩ s) 33)
  have gO : (w.alloc (.cells (opC ⟨k, t, (x, n, u), c, A⟩ s) 33)).cell? ⟨10, 0, none⟩ = some (errV a 8) := (hS.below b0).er.cell 8 (hI 8 (by simp))
  have gL : (w.alloc (.cells (opC ⟨k, t, (x, n, u), c, A⟩ s) 33)).cell? ⟨12, 0, none⟩ = some (errV a 10) := (hS.below b0).er.cell 10 (hI 10 (by simp))
  simp only [opC] at b0 gO gL
  have gd := fun op x' y' w => guard_pl op x' y' (x, n, u) (0, 0, ⟨#[]⟩) w
  clear hS hI
  unfold cntE
  simp only
  cases he : t.toList.isEmpty with
  | false =>
    rw [if_pos (Or.inl rfl)]
    clear gd gL
    go_enter Tryz.func152, Tryz.ntmps152
    go_wp2
    go_ret
    exact ⟨rfl, b0⟩
  | true =>
    by_cases hz : (x, n, u) = z0
    · have hne := neq_pl (x, n, u) (0, 0, ⟨#[]⟩) false (by rw [hz]; show (!samP z0 z0) = false; rw [samP_self]; rfl)
      by_cases h1 : c < 1
      · rw [if_pos (Or.inr (Or.inr h1))]
        clear gL hz
        go_enter Tryz.func152, Tryz.ntmps152
        go_wp2
        go_ret
        exact ⟨rfl, b0⟩
      · by_cases h2 : 1099511627776 < c
        · rw [if_neg (by simp [hz, h1]), if_pos h2]
          clear gO hz
          go_enter Tryz.func152, Tryz.ntmps152
          go_wp2
          go_ret
          exact ⟨rfl, b0⟩
        · rw [if_neg (by simp [hz, h1]), if_neg h2]
          clear gO gL hz
          go_enter Tryz.func152, Tryz.ntmps152
          go_wp2
          go_ret
          exact ⟨rfl, b0⟩
    · have hne := neq_pl (x, n, u) (0, 0, ⟨#[]⟩) true (by show (!samP (x, n, u) z0) = true; rw [samP_ne hz]; rfl)
      rw [if_pos (Or.inr (Or.inl hz))]
      clear gL hz
      go_enter Tryz.func152, Tryz.ntmps152
      go_wp2
      go_ret
      exact ⟨rfl, b0⟩
end Go.Proofs.YtplnojapnaaakaaGreatDoor
