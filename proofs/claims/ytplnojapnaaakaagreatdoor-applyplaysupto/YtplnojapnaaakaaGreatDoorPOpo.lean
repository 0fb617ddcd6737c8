/- An operation among the arguments: what its reading gives the walk. -/
import Derived.Test.YtplnojapnaaakaaGreatDoorPOpa
import Derived.Test.YtplnojapnaaakaaGreatDoorPCp
namespace Go.Proofs.YtplnojapnaaakaaGreatDoor
open Go Go.RowKit Go.Lib Go.ChangeShapes Go.WideShapes Go.ChangeAt Go.Joins
set_option linter.unusedVariables false
set_option maxRecDepth 100000 in
/-- A slice of pairs within what is handed in. -/
theorem trod_rowA {H : Type} {enc : TypeId × Value → H} {W : World} {v : Value} {d : DataW H} {p : List MemPlace} {fuel : Nat}
    (hf : DataW.trod enc Tryz.prog W 0 (fun _ => true) true fuel 31 [v] = some (d, p)) :
    ∃ L : List A2, RN W v L ∧ (∀ x ∈ p, x.block < W.heap.size) ∧ L.length ≤ Rows.uptoBulk d ∧ ∀ q ∈ L, q.1.size ≤ Rows.uptoBulk d ∧ q.2.2.2.size ≤ Rows.uptoBulk d := by
  rcases Go.Deep.open_slice Tryz.underlying31 hf with ⟨hcs, hx⟩ | ⟨a, len, cap, m, n, D, Pl, hcs, _, hlc, _, hm, hx, hel⟩
  · obtain rfl : v = .slice none 0 0 := by simpa using hcs
    simp only [Prod.mk.injEq] at hx
    obtain ⟨rfl, rfl⟩ := hx
    exact ⟨[], ⟨RowA.nil _ _ _, fun m c he => by simp at he; exact ⟨he.1.symm, he.2.symm⟩⟩, by simp, Nat.zero_le _, by simp⟩
  · obtain rfl : v = .slice (some a) len cap := by simpa using hcs
    simp only [Prod.mk.injEq] at hx
    obtain ⟨rfl, rfl⟩ := hx
    simp only [if_true] at hm
    subst hm
    have each : ∀ i, i < m → ∃ q : A2, W.cell? (a.add (i * 4)) = some (.string q.1) ∧ W.cell? ((a.add (i * 4)).add 1) = some (.int .i64 q.2.1) ∧ W.cell? ((a.add (i * 4)).add 2) = some (.int .i64 q.2.2.1) ∧ W.cell? ((a.add (i * 4)).add 3) = some (.string q.2.2.2) ∧ D i = atD q ∧ Pl i = [] := by
      intro i hi
      obtain ⟨cs', h1, h2⟩ := hel i hi
      rw [cellsAttr] at h1
      obtain ⟨_, hlen, hcell⟩ := World.cells?_some h1
      obtain ⟨q, rfl, hD, hP⟩ := trod_at hlen ⟨_, h2⟩
      have q0 := hcell 0 (by simp)
      have q1 := hcell 1 (by simp)
      have q2 := hcell 2 (by simp)
      have q3 := hcell 3 (by simp)
      exact ⟨q, by simpa [Addr.add] using q0, by simpa using q1, by simpa using q2, by simpa using q3, hD, hP⟩
    obtain ⟨q, hq⟩ := Go.Deep.choose_lt each
    have hlen : ((List.range len).map q).length = len := by simp
    have hD : ∀ i, i < len → D i = atD (q i) := fun i hi => (hq i (by omega)).2.2.2.2.1
    have hb : ∀ i, i < len → Rows.uptoBulk (D i) ≤ Rows.uptoBulk (DataW.slice ((List.range len).map D) ((List.range (m - len)).map fun j => D (len + j))) := fun i hi => by
      have := bulk_mem ((List.range len).map D) (D i) (List.mem_map.2 ⟨i, List.mem_range.2 hi, rfl⟩)
      simp only [Rows.uptoBulk]; omega
    refine ⟨(List.range len).map q, ⟨⟨some a, m, by rw [hlen], by rw [hlen]; exact hlc, fun j x hx => ?_⟩, fun m c he => by simp at he⟩, fun x hx => ?_, ?_, fun x hx => ?_⟩
    · have hj : j < len := by have := (List.getElem?_eq_some_iff.1 hx).1; rw [hlen] at this; exact this
      obtain rfl : q j = x := by simpa [hj] using hx
      obtain ⟨c0, c1, c2, c3, _⟩ := hq j (by omega)
      obtain ⟨b, off, spot⟩ := a
      have hspot : spot = none := by
        by_cases h0 : j * 4 = 0
        · rw [h0] at c0; simpa [Addr.add] using World.cell?_spot c0
        · have h00 := (hq 0 (by omega)).1
          simpa [Addr.add] using World.cell?_spot h00
      subst hspot
      simp only [Addr.add_lit] at c0 c1 c2 c3
      exact ⟨b, off, rfl, c0, c1, c2, c3⟩
    · rcases List.mem_append.1 hx with hx | hx
      · obtain ⟨i, hi, rfl⟩ := MemPlace.mem_row.1 hx
        rcases Nat.eq_zero_or_pos m with h0 | h0
        · rw [h0, Nat.zero_mul] at hi; omega
        have := lt_of_cell (hq 0 h0).1
        show a.block < W.heap.size
        simpa [Addr.add] using this
      · obtain ⟨i, hi, hx⟩ := List.mem_flatMap.1 hx
        rw [(hq i (List.mem_range.1 hi)).2.2.2.2.2] at hx
        cases hx
    · rw [hlen]
      have := bulk_len ((List.range len).map D) (fun x hx => by
        obtain ⟨i, hi, rfl⟩ := List.mem_map.1 hx
        rw [hD i (List.mem_range.1 hi), bulk_atD]; omega)
      simp only [List.length_map, List.length_range] at this
      simp only [Rows.uptoBulk]; omega
    · obtain ⟨i, hi, rfl⟩ := List.mem_map.1 hx
      have := hb i (List.mem_range.1 hi)
      rw [hD i (List.mem_range.1 hi), bulk_atD] at this
      exact ⟨by omega, by omega⟩

theorem cellsOp : Tryz.prog.cellsOf 33 = 7 := by kernel_rfl
set_option maxRecDepth 100000 in
theorem trod_op {H : Type} {enc : TypeId × Value → H} {W : World} {cs : List Value} {d : DataW H} {p : List MemPlace} {fuel : Nat} (hlen : cs.length = 7)
    (h : DataW.trod enc Tryz.prog W 0 (fun _ => true) true fuel 33 cs = some (d, p)) :
    ∃ (o : Op5) (s : Value), cs = (opC o s).toList ∧ RN W s o.A ∧ (∀ x ∈ p, x.block < W.heap.size) ∧ o.t.size ≤ Rows.uptoBulk d ∧ o.v.2.2.size ≤ Rows.uptoBulk d ∧ o.A.length ≤ Rows.uptoBulk d ∧
      ∀ q ∈ o.A, q.1.size ≤ Rows.uptoBulk d ∧ q.2.2.2.size ≤ Rows.uptoBulk d := by
  have k0 : Tryz.prog.cellsOf 9 = 1 := by kernel_rfl
  have k1 : Tryz.prog.cellsOf 3 = 1 := by kernel_rfl
  have k2 : Tryz.prog.cellsOf 2 = 1 := by kernel_rfl
  have k3 : Tryz.prog.cellsOf 30 = 3 := cellsPlain
  have k4 : Tryz.prog.cellsOf 31 = 1 := by kernel_rfl
  obtain ⟨xs, kk, _, hxy, _, hxl, hf⟩ := DataW.trod_struct Tryz.underlying33 h
  match xs, hxl, cs, hlen with
  | [y0, y1, y2, y3, y4], _, [v0, v1, v2, v3, v4, v5, v6], _ =>
    have g0 := hf 0 _ rfl
    have g1 := hf 1 _ rfl
    have g2 := hf 2 _ rfl
    have g3 := hf 3 _ rfl
    have g4 := hf 4 _ rfl
    simp [k1] at g0
    simp [k0] at g1
    simp [k3] at g2
    simp [k1] at g3
    simp [k4] at g4
    obtain ⟨k, e0, rfl, _⟩ := DataW.trod_int Tryz.underlying3 g0
    obtain ⟨t, e1, rfl, _⟩ := DataW.trod_string Tryz.underlying9 g1
    obtain ⟨c, e3, rfl, _⟩ := DataW.trod_int Tryz.underlying3 g3
    obtain ⟨ys, kk', _, hxy', _, hyl, hf'⟩ := DataW.trod_struct Tryz.underlying30 g2
    obtain ⟨d4, p4⟩ := y4
    obtain ⟨L, hL, hP, hB, hE⟩ := trod_rowA g4
    match ys, hyl with
    | [z0, z1, z2], _ =>
      have j0 := hf' 0 _ rfl
      have j1 := hf' 1 _ rfl
      have j2 := hf' 2 _ rfl
      simp [k1] at j0
      simp [k2] at j1
      simp [k0] at j2
      obtain ⟨x, e4, rfl, _⟩ := DataW.trod_int Tryz.underlying3 j0
      obtain ⟨n, e5, rfl, _⟩ := DataW.trod_int Tryz.underlying2 j1
      obtain ⟨u, e6, rfl, _⟩ := DataW.trod_string Tryz.underlying9 j2
      simp at e0 e1 e3 e4 e5 e6
      subst e0 e1 e3 e4 e5 e6
      simp only [Prod.mk.injEq] at hxy
      subst hxy'
      obtain ⟨rfl, rfl⟩ := hxy
      refine ⟨⟨k, t, (x, n, u), c, L⟩, v6, rfl, hL, fun y hy => hP y (by simpa using hy), ?_, ?_, ?_, fun q hq => ?_⟩
      · simp [Rows.uptoBulk, Rows.uptoBulkAll]; omega
      · simp [Rows.uptoBulk, Rows.uptoBulkAll]; omega
      · simp [Rows.uptoBulk, Rows.uptoBulkAll]; omega
      · have := hE q hq
        simp [Rows.uptoBulk, Rows.uptoBulkAll]
        omega

theorem fit_bulk {o : Op5} {n : Nat} (hn : n ≤ 1048576) (h : o.t.size ≤ n ∧ o.v.2.2.size ≤ n ∧ o.A.length ≤ n ∧ ∀ q ∈ o.A, q.1.size ≤ n ∧ q.2.2.2.size ≤ n) : Fit o :=
  ⟨by omega, by omega, fun q hq => by have := h.2.2.2 q hq; omega, by omega⟩
end Go.Proofs.YtplnojapnaaakaaGreatDoor
