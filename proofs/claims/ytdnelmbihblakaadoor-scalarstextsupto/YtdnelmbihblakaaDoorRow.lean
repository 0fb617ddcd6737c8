/- A slice of numbers among the arguments: what its reading gives the walk. -/
import Derived.Test.YtdnelmbihblakaaDoorStd
import Derived.Test.YtdnelmbihblakaaDoorLst
namespace Go.Proofs.YtdnelmbihblakaaDoor
open Go Go.RowKit Go.Lib Go.ChangeShapes Go.WideShapes Go.ChangeAt
open Go.WideMaps Go.WideElems
set_option linter.unusedVariables false

theorem laidOutP : laidOutB Tryd.prog = true := by kernel_rfl

theorem open_row32 {H : Type} {enc : TypeId × Value → H} {W : World} {base : Nat} {v : Value} {d : DataW H} {p : List MemPlace} {ts : List TypeId} {ds : List (DataW H)} {j : Nat}
    (hok : Value.okWide Tryd.prog W .any base 30 v) (h : DataW.Trod enc Tryd.prog W 0 (fun _ => true) true 30 v d p)
    (hsz : (DataW.weightsEach Tryd.prog ts ds).all (· ≤ reachBytes) = true) (ht : ts[j]? = some 30) (hd : ds[j]? = some d) :
    ∃ zs : List Int, (∀ z ∈ zs, -2147483648 ≤ z ∧ z ≤ 2147483647) ∧ zs.length ≤ 35184372087808 ∧ Row32 W v zs ∧ (∀ x ∈ p, x.block < W.heap.size) ∧ (d = .nil ∧ zs = [] ∨ ∃ sp, d = .slice (lits .i32 zs) sp) ∧
      (v = .slice none 0 0 ∧ zs = [] ∨ ∃ a cap, v = .slice (some a) zs.length cap ∧ ∀ j u, (cells32 zs)[j]? = some u → W.cell? (a.add j) = some u) := by
  obtain ⟨a0, len, cap, rfl⟩ := okWide_slice Tryd.underlying30 hok
  obtain ⟨fuel, hf⟩ := h
  have c32 : Tryd.prog.cellsOf 21 = 1 := by kernel_rfl
  have b32 : Tryd.prog.bytesOf 21 = 4 := by kernel_rfl
  rcases open_ints Tryd.underlying30 Tryd.underlying21 c32 hf with ⟨hcs, hx⟩ | ⟨a, len', cap', zs, hcs, _, hl, hm, hz, hx, hcell, hwz⟩
  · simp only [Prod.mk.injEq] at hx
    obtain ⟨rfl, rfl⟩ := hx
    simp only [Value.cells, List.cons.injEq, and_true] at hcs
    have hcs' : a0 = none ∧ len = 0 ∧ cap = 0 := by simpa using hcs
    obtain ⟨rfl, rfl, rfl⟩ := hcs'
    exact ⟨[], by simp, by simp, ⟨none, 0, rfl, fun j hj => by simp at hj⟩, by simp, Or.inl ⟨rfl, rfl⟩, Or.inl ⟨rfl, rfl⟩⟩
  · have hcs' : a0 = some a ∧ len = len' ∧ cap = cap' := by simpa [Value.cells] using hcs
    obtain ⟨rfl, rfl, rfl⟩ := hcs'
    simp only [Prod.mk.injEq] at hx
    obtain ⟨rfl, rfl⟩ := hx
    have hlz : len ≤ zs.length := by rw [hz]; split <;> omega
    have hs := sized_slice hsz ht hd Tryd.underlying30
    rw [b32] at hs
    have hlen : (lits IntKind.i32 (zs.take len) : List (DataW H)).length + (lits IntKind.i32 (zs.drop len) : List (DataW H)).length = zs.length := by
      simp [lits]; omega
    rw [hlen] at hs
    have hs2 : zs.length * 4 ≤ 140737488351232 := hs
    have htl : (zs.take len).length = len := by rw [List.length_take]; omega
    refine ⟨zs.take len, fun z hz => ?_, by omega, ⟨some a, cap, by rw [htl], fun j hj => ?_⟩, fun x hx => ?_, Or.inr ⟨_, rfl⟩, Or.inr ⟨a, cap, by rw [htl], fun j u hu => ?_⟩⟩
    · have := hwz z (List.mem_of_mem_take hz)
      simpa [Lit.wf, IntKind.min, IntKind.max, IntKind.signed, IntKind.bits] using this
    · rw [htl] at hj
      obtain ⟨b, off, rfl, hc⟩ := ints_at hcell (by omega)
      refine ⟨b, off, rfl, ?_⟩
      rw [hc j (by omega)]
      congr 2
      simp [List.getD, hj]
    · have h0 : 0 < zs.length := by
        rcases Nat.eq_zero_or_pos zs.length with h0 | h0
        · rw [h0] at hx; simp [MemPlace.row] at hx
        · exact h0
      obtain ⟨b, off, rfl, hc⟩ := ints_at hcell h0
      have := lt_of_cell (hc 0 h0)
      simp only [MemPlace.row, List.mem_map, List.mem_range] at hx
      obtain ⟨i, _, rfl⟩ := hx
      exact this
    · have hj : j < len := by
        have := (List.getElem?_eq_some_iff.1 hu).1
        rw [cells32, List.length_map, htl] at this
        exact this
      rw [hcell j (by omega), ← hu]
      simp [cells32, List.getD, hj, List.getElem?_eq_getElem (show j < zs.length by omega)]
end Go.Proofs.YtdnelmbihblakaaDoor
