/- What exchanging two runs, and rotating, makes of a row of pairs: place by place. Of no program. -/
import Derived.Test.YtigmhbgdnmkooaaDoorMs
import Derived.Sort.Defs
namespace Go.Proofs.YtigmhbgdnmkooaaDoor
open Go Go.RowKit Go.Lib Go.Sort
set_option linter.unusedVariables false

instance : Inhabited A2 := ⟨(⟨#[]⟩, 0, 0, ⟨#[]⟩)⟩
/-- m exchanges of two runs, the first j of them done. -/
def swr (d : Array A2) (a b : Nat) : Nat → Array A2
  | 0 => d
  | j + 1 => swp (swr d a b j) (a + j) (b + j)
theorem swr_size (d : Array A2) (a b : Nat) : ∀ j, (swr d a b j).size = d.size
  | 0 => rfl
  | j + 1 => by rw [swr, swp, Array.size_setIfInBounds, Array.size_setIfInBounds, swr_size d a b j]
/-- Block swaps about m: i to its left, j to its right are still to change places. -/
def rotL (m i j : Nat) (d : Array A2) : Array A2 :=
  if i = 0 ∨ j = 0 then d else if i = j then swr d (m - i) m i else if j < i then rotL m (i - j) j (swr d (m - i) m j) else rotL m i (j - i) (swr d (m - i) (m + j - i) i)
termination_by i + j
decreasing_by all_goals omega
theorem swp_at (d : Array A2) (i j k : Nat) (hi : i < d.size) (hj : j < d.size) : (swp d i j)[k]? = if k = j then d[i]? else if k = i then d[j]? else d[k]? := by
  unfold swp
  rw [getElem!_pos d i hi, getElem!_pos d j hj, Array.getElem?_setIfInBounds, Array.getElem?_setIfInBounds]
  simp only [Array.size_setIfInBounds]
  rw [Array.getElem?_eq_getElem hi, Array.getElem?_eq_getElem hj]
  repeat' split
  all_goals first | omega | rfl
theorem swr_at (d : Array A2) (a b : Nat) : ∀ (n k : Nat), a + n ≤ b → b + n ≤ d.size → (swr d a b n)[k]? = if a ≤ k ∧ k < a + n then d[b + (k - a)]? else if b ≤ k ∧ k < b + n then d[a + (k - b)]? else d[k]?
  | 0, k, h1, h2 => by rw [swr, if_neg (by omega), if_neg (by omega)]
  | n + 1, k, h1, h2 => by
    have ih := fun k => swr_at d a b n k (by omega) (by omega)
    have hz := swr_size d a b n
    rw [swr, swp_at _ _ _ _ (by omega) (by omega), ih, ih, ih]
    repeat' split
    all_goals first | omega | rfl | (congr 1; omega)
theorem rotL_at (m : Nat) (i j : Nat) (d : Array A2) (hi : i ≤ m) (hj : m + j ≤ d.size) (k : Nat) :
    (rotL m i j d)[k]? = if m - i ≤ k ∧ k < m - i + j then d[k + i]? else if m - i + j ≤ k ∧ k < m + j then d[k - j]? else d[k]? := by
  induction i, j, d using rotL.induct m with
  | case1 i j d h =>
    rw [rotL, if_pos h]
    repeat' split
    all_goals first | omega | rfl | (congr 1; omega)
  | case2 i d h => 
    rw [rotL, if_neg h, if_pos rfl, swr_at _ _ _ _ _ (by omega) hj]
    repeat' split
    all_goals first | omega | rfl | (congr 1; omega)
  | case3 i j d h h1 h2 ih =>
    have hz := swr_size d (m - i) m j
    have ih := ih (by omega) (by omega)
    rw [rotL, if_neg h, if_neg h1, if_pos h2, ih, swr_at _ _ _ _ _ (by omega) (by omega), swr_at _ _ _ _ _ (by omega) (by omega), swr_at _ _ _ _ _ (by omega) (by omega)]
    repeat' split
    all_goals first | omega | rfl | (congr 1; omega)
  | case4 i j d h h1 h2 ih =>
    have hz := swr_size d (m - i) (m + j - i) i
    have ih := ih (by omega) (by omega)
    rw [rotL, if_neg h, if_neg h1, if_neg h2, ih, swr_at _ _ _ _ _ (by omega) (by omega), swr_at _ _ _ _ _ (by omega) (by omega), swr_at _ _ _ _ _ (by omega) (by omega)]
    repeat' split
    all_goals first | omega | rfl | (congr 1; omega)
theorem rotL_size (m : Nat) (i j : Nat) (d : Array A2) : (rotL m i j d).size = d.size := by
  induction i, j, d using rotL.induct m with
  | case1 i j d h => rw [rotL, if_pos h]
  | case2 i d h => rw [rotL, if_neg h, if_pos rfl, swr_size]
  | case3 i j d h h1 h2 ih => rw [rotL, if_neg h, if_neg h1, if_pos h2, ih, swr_size]
  | case4 i j d h h1 h2 ih => rw [rotL, if_neg h, if_neg h1, if_neg h2, ih, swr_size]
end Go.Proofs.YtigmhbgdnmkooaaDoor
