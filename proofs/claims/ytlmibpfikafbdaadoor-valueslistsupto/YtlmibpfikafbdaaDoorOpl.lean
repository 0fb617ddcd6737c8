/- A slice of Plains among the arguments: what its reading gives the walk. -/
import Derived.Test.YtlmibpfikafbdaaDoorPl
import Derived.Test.YtlmibpfikafbdaaDoorOwn
import Derived.Deep.Slices
import Derived.Test.YtlmibpfikafbdaaDoorRows
namespace Go.Proofs.YtlmibpfikafbdaaDoor
open Go Go.RowKit Go.Lib Go.ChangeShapes Go.WideShapes Go.ChangeAt Go.Joins
set_option linter.unusedVariables false

theorem bulk_mem {H : Type} : ∀ (l : List (DataW H)) (x : DataW H), x ∈ l → Rows.uptoBulk x ≤ Rows.uptoBulkAll l
  | [], x, h => by cases h
  | y :: r, x, h => by
    simp only [Rows.uptoBulkAll]
    rcases List.mem_cons.1 h with rfl | h
    · omega
    · have := bulk_mem r x h; omega
theorem bulk_len {H : Type} : ∀ (l : List (DataW H)), (∀ x ∈ l, 1 ≤ Rows.uptoBulk x) → l.length ≤ Rows.uptoBulkAll l
  | [], _ => Nat.zero_le _
  | y :: r, h => by
    have h1 := h y (List.mem_cons_self ..)
    have h2 := bulk_len r fun x hx => h x (List.mem_cons_of_mem _ hx)
    simp only [Rows.uptoBulkAll, List.length_cons]; omega
theorem bulk_plD {H : Type} (k n : Int) (t : ByteArray) : Rows.uptoBulk (plD k n t : DataW H) = t.size + 4 := by
  simp only [Rows.uptoBulk, Rows.uptoBulkAll, size_toList]; omega

set_option maxRecDepth 100000 in
theorem open_rowP {H : Type} {enc : TypeId × Value → H} {W : World} {base : Nat} {v : Value} {d : DataW H} {p : List MemPlace}
    (hok : Value.okWide Tryd.prog W .any base 45 v) (h : DataW.Trod enc Tryd.prog W 0 (fun _ => true) true 45 v d p) :
    ∃ ps : List P3, RowP W v ps ∧ (∀ m c, v = .slice none m c → c = 0) ∧ (∀ x ∈ p, x.block < W.heap.size) ∧ ps.length ≤ Rows.uptoBulk d ∧ ∀ q ∈ ps, q.2.2.size ≤ Rows.uptoBulk d := by
  obtain ⟨a0, len0, cap0, rfl⟩ := okWide_slice Tryd.underlying45 hok
  obtain ⟨fuel, hf⟩ := h
  rcases Go.Deep.open_slice Tryd.underlying45 hf with ⟨hcs, hx⟩ | ⟨a, len, cap, m, n, D, Pl, hcs, _, hlc, _, hm, hx, hel⟩
  · have hcs' : a0 = none ∧ len0 = 0 ∧ cap0 = 0 := by simpa [Value.cells] using hcs
    obtain ⟨rfl, rfl, rfl⟩ := hcs'
    simp only [Prod.mk.injEq] at hx
    obtain ⟨rfl, rfl⟩ := hx
    exact ⟨[], ⟨none, 0, rfl, fun j q hq => by simp at hq⟩, fun m c he => by simp at he; exact he.2.symm, by simp, Nat.zero_le _, by simp⟩
  · have hcs' : a0 = some a ∧ len0 = len ∧ cap0 = cap := by simpa [Value.cells] using hcs
    obtain ⟨rfl, rfl, rfl⟩ := hcs'
    simp only [Prod.mk.injEq] at hx
    obtain ⟨rfl, rfl⟩ := hx
    simp only [if_true] at hm
    subst hm
    have each : ∀ i, i < m → ∃ q : P3, W.cell? (a.add (i * 3)) = some (.int .i64 q.1) ∧ W.cell? ((a.add (i * 3)).add 1) = some (.int .i64 q.2.1) ∧ W.cell? ((a.add (i * 3)).add 2) = some (.string q.2.2) ∧ D i = plD q.1 q.2.1 q.2.2 ∧ Pl i = [] := by
      intro i hi
      obtain ⟨cs', h1, h2⟩ := hel i hi
      rw [cellsPlain] at h1
      obtain ⟨_, hlen, hcell⟩ := World.cells?_some h1
      have k0 : Tryd.prog.cellsOf 3 = 1 := by kernel_rfl
      have k1 : Tryd.prog.cellsOf 2 = 1 := by kernel_rfl
      have k2 : Tryd.prog.cellsOf 9 = 1 := by kernel_rfl
      obtain ⟨xs, kk, _, hxy, _, hxl, hf⟩ := DataW.trod_struct Tryd.underlying23 h2
      match xs, hxl, cs', hlen with
      | [y0, y1, y2], _, [v0, v1, v2], _ =>
        have g0 := hf 0 _ rfl
        have g1 := hf 1 _ rfl
        have g2 := hf 2 _ rfl
        simp [k0] at g0
        simp [k1] at g1
        simp [k2] at g2
        obtain ⟨k, e0, rfl, _⟩ := DataW.trod_int Tryd.underlying3 g0
        obtain ⟨n', e1, rfl, _⟩ := DataW.trod_int Tryd.underlying2 g1
        obtain ⟨t, e2, rfl, _⟩ := DataW.trod_string Tryd.underlying9 g2
        simp at e0 e1 e2
        subst e0 e1 e2
        have q0 := hcell 0 (by omega)
        have q1 := hcell 1 (by omega)
        have q2 := hcell 2 (by omega)
        simp only [Prod.mk.injEq] at hxy
        exact ⟨(k, n', t), by simpa [Addr.add] using q0, by simpa using q1, by simpa using q2, by simpa using hxy.1, by simpa using hxy.2⟩
    obtain ⟨q, hq⟩ := Go.Deep.choose_lt each
    have hlen : ((List.range len0).map q).length = len0 := by simp
    have hD : ∀ i, i < len0 → D i = plD (q i).1 (q i).2.1 (q i).2.2 := fun i hi => (hq i (by omega)).2.2.2.1
    have hb : ∀ i, i < len0 → Rows.uptoBulk (D i) ≤ Rows.uptoBulk (DataW.slice ((List.range len0).map D) ((List.range (m - len0)).map fun j => D (len0 + j))) := fun i hi => by
      have := bulk_mem ((List.range len0).map D) (D i) (List.mem_map.2 ⟨i, List.mem_range.2 hi, rfl⟩)
      simp only [Rows.uptoBulk]; omega
    refine ⟨(List.range len0).map q, ⟨some a, m, by rw [hlen], fun j x hx => ?_⟩, fun m c he => by simp at he, fun x hx => ?_, ?_, fun x hx => ?_⟩
    · have hj : j < len0 := by have := (List.getElem?_eq_some_iff.1 hx).1; rw [hlen] at this; exact this
      obtain rfl : q j = x := by simpa [hj] using hx
      obtain ⟨c0, c1, c2, _⟩ := hq j (by omega)
      obtain ⟨b, off, spot⟩ := a
      have hspot : spot = none := by
        by_cases h0 : j * 3 = 0
        · rw [h0] at c0; simpa [Addr.add] using World.cell?_spot c0
        · have h00 := (hq 0 (by omega)).1
          simpa [Addr.add] using World.cell?_spot h00
      subst hspot
      simp only [Addr.add_lit] at c0 c1 c2
      exact ⟨b, off, rfl, c0, c1, c2⟩
    · rcases List.mem_append.1 hx with hx | hx
      · obtain ⟨i, hi, rfl⟩ := MemPlace.mem_row.1 hx
        rcases Nat.eq_zero_or_pos m with h0 | h0
        · rw [h0, Nat.zero_mul] at hi; omega
        have := lt_of_cell (hq 0 h0).1
        show a.block < W.heap.size
        simpa [Addr.add] using this
      · obtain ⟨i, hi, hx⟩ := List.mem_flatMap.1 hx
        rw [(hq i (List.mem_range.1 hi)).2.2.2.2] at hx
        cases hx
    · rw [hlen]
      have := bulk_len ((List.range len0).map D) (fun x hx => by
        obtain ⟨i, hi, rfl⟩ := List.mem_map.1 hx
        rw [hD i (List.mem_range.1 hi), bulk_plD]; omega)
      simp only [List.length_map, List.length_range] at this
      simp only [Rows.uptoBulk]; omega
    · obtain ⟨i, hi, rfl⟩ := List.mem_map.1 hx
      have := hb i (List.mem_range.1 hi)
      rw [hD i (List.mem_range.1 hi), bulk_plD] at this
      omega
end Go.Proofs.YtlmibpfikafbdaaDoor
