/- A slice of cells among the arguments: what its reading gives the walk. -/
import Derived.Test.YtfllomfjhkgaoaaGreatDoorOpp
import Derived.Test.YtfllomfjhkgaoaaGreatDoorCe
namespace Go.Proofs.YtfllomfjhkgaoaaGreatDoor
open Go Go.RowKit Go.Lib Go.ChangeShapes Go.WideShapes Go.ChangeAt Go.Joins
set_option linter.unusedVariables false

theorem cellsCe : Tryz.prog.cellsOf 59 = 6 := by kernel_rfl
set_option maxRecDepth 100000 in
theorem trod_ce {H : Type} {enc : TypeId × Value → H} {W : World} {cs : List Value} {d : DataW H} {p : List MemPlace} {fuel : Nat} (hlen : cs.length = 6)
    (h : DataW.trod enc Tryz.prog W 0 (fun _ => true) true fuel 59 cs = some (d, p)) :
    ∃ (e : C5) (s : Value), cs = [.int .i32 e.1, .string e.2.1, .int .i64 e.2.2.1.1, .int .i64 e.2.2.1.2.1, .string e.2.2.1.2.2, s] ∧ RN W s e.2.2.2 ∧ (∀ x ∈ p, x.block < W.heap.size) ∧ e.2.2.2.length ≤ Rows.uptoBulk d ∧
      ∀ q ∈ e.2.2.2, q.1.size ≤ Rows.uptoBulk d ∧ q.2.2.2.size ≤ Rows.uptoBulk d := by
  have k0 : Tryz.prog.cellsOf 9 = 1 := by kernel_rfl
  have k1 : Tryz.prog.cellsOf 21 = 1 := by kernel_rfl
  have k5 : Tryz.prog.cellsOf 3 = 1 := by kernel_rfl
  have k2 : Tryz.prog.cellsOf 2 = 1 := by kernel_rfl
  have k3 : Tryz.prog.cellsOf 45 = 3 := cellsPlain
  have k4 : Tryz.prog.cellsOf 46 = 1 := by kernel_rfl
  obtain ⟨xs, kk, _, hxy, _, hxl, hf⟩ := DataW.trod_struct Tryz.underlying59 h
  match xs, hxl, cs, hlen with
  | [y0, y1, y2, y4], _, [v0, v1, v2, v3, v4, v6], _ =>
    have g0 := hf 0 _ rfl
    have g1 := hf 1 _ rfl
    have g2 := hf 2 _ rfl
    have g4 := hf 3 _ rfl
    simp [k1] at g0
    simp [k0] at g1
    simp [k3] at g2
    simp [k4] at g4
    obtain ⟨k, e0, rfl, _⟩ := DataW.trod_int Tryz.underlying21 g0
    obtain ⟨t, e1, rfl, _⟩ := DataW.trod_string Tryz.underlying9 g1
    obtain ⟨ys, kk', _, hxy', _, hyl, hf'⟩ := DataW.trod_struct Tryz.underlying45 g2
    obtain ⟨d4, p4⟩ := y4
    obtain ⟨L, hL, hP, hB, hE⟩ := trod_rowA g4
    match ys, hyl with
    | [z0, z1, z2], _ =>
      have j0 := hf' 0 _ rfl
      have j1 := hf' 1 _ rfl
      have j2 := hf' 2 _ rfl
      simp [k5] at j0
      simp [k2] at j1
      simp [k0] at j2
      obtain ⟨x, e4, rfl, _⟩ := DataW.trod_int Tryz.underlying3 j0
      obtain ⟨n, e5, rfl, _⟩ := DataW.trod_int Tryz.underlying2 j1
      obtain ⟨u, e6, rfl, _⟩ := DataW.trod_string Tryz.underlying9 j2
      simp at e0 e1 e4 e5 e6
      subst e0 e1 e4 e5 e6
      simp only [Prod.mk.injEq] at hxy
      subst hxy'
      obtain ⟨rfl, rfl⟩ := hxy
      refine ⟨(k, t, (x, n, u), L), v6, rfl, hL, fun y hy => hP y (by simpa using hy), ?_, fun q hq => ?_⟩
      · simp [Rows.uptoBulk, Rows.uptoBulkAll]; omega
      · have := hE q hq
        simp [Rows.uptoBulk, Rows.uptoBulkAll]
        omega
set_option maxRecDepth 100000 in
theorem open_cells {H : Type} {enc : TypeId × Value → H} {W : World} {base : Nat} {v : Value} {d : DataW H} {p : List MemPlace}
    (hok : Value.okWide Tryz.prog W .any base 55 v) (h : DataW.Trod enc Tryz.prog W 0 (fun _ => true) true 55 v d p) :
    ∃ (D : List CV) (E : List C5), RowC W v D ∧ Are W D E ∧ (∀ x ∈ p, x.block < W.heap.size) ∧ E.length + 1 ≤ Rows.uptoBulk d ∧ ∀ e ∈ E, e.2.2.2.length ≤ Rows.uptoBulk d ∧ ∀ q ∈ e.2.2.2, q.1.size ≤ Rows.uptoBulk d ∧ q.2.2.2.size ≤ Rows.uptoBulk d := by
  obtain ⟨a0, len0, cap0, rfl⟩ := okWide_slice Tryz.underlying55 hok
  obtain ⟨fuel, hf⟩ := h
  rcases Go.Deep.open_slice Tryz.underlying55 hf with ⟨hcs, hx⟩ | ⟨a, len, cap, m, n, D, Pl, hcs, _, hlc, _, hm, hx, hel⟩
  · have hcs' : a0 = none ∧ len0 = 0 ∧ cap0 = 0 := by simpa [Value.cells] using hcs
    obtain ⟨rfl, rfl, rfl⟩ := hcs'
    simp only [Prod.mk.injEq] at hx
    obtain ⟨rfl, rfl⟩ := hx
    exact ⟨[], [], ⟨none, 0, rfl, Nat.le_refl _, fun _ => rfl, fun h => absurd rfl h⟩, .nil, by simp, Nat.le_refl _, by simp⟩
  · have hcs' : a0 = some a ∧ len0 = len ∧ cap0 = cap := by simpa [Value.cells] using hcs
    obtain ⟨rfl, rfl, rfl⟩ := hcs'
    simp only [Prod.mk.injEq] at hx
    obtain ⟨rfl, rfl⟩ := hx
    simp only [if_true] at hm
    subst hm
    have each : ∀ i, i < m → ∃ q : C5 × Sl, (W.cell? (a.add (i * 6)) = some (.int .i32 q.1.1) ∧ W.cell? ((a.add (i * 6)).add 1) = some (.string q.1.2.1) ∧ W.cell? ((a.add (i * 6)).add 2) = some (.int .i64 q.1.2.2.1.1) ∧ W.cell? ((a.add (i * 6)).add 3) = some (.int .i64 q.1.2.2.1.2.1) ∧ W.cell? ((a.add (i * 6)).add 4) = some (.string q.1.2.2.1.2.2) ∧ W.cell? ((a.add (i * 6)).add 5) = some (slV q.2)) ∧ RN W (slV q.2) q.1.2.2.2 ∧ (∀ x ∈ Pl i, x.block < W.heap.size) ∧ q.1.2.2.2.length ≤ Rows.uptoBulk (D i) ∧ ∀ z ∈ q.1.2.2.2, z.1.size ≤ Rows.uptoBulk (D i) ∧ z.2.2.2.size ≤ Rows.uptoBulk (D i) := by
      intro i hi
      obtain ⟨cs', h1, h2⟩ := hel i hi
      rw [cellsCe] at h1
      obtain ⟨_, hlen, hcell⟩ := World.cells?_some h1
      obtain ⟨e, s, hcs, hR, hP, b3, b4⟩ := trod_ce hlen h2
      obtain ⟨x, rfl⟩ := rn_sl hR
      subst hcs
      have q0 := hcell 0 (by simp)
      have q1 := hcell 1 (by simp)
      have q2 := hcell 2 (by simp)
      have q3 := hcell 3 (by simp)
      have q4 := hcell 4 (by simp)
      have q5 := hcell 5 (by simp)
      exact ⟨(e, x), ⟨by simpa [Addr.add] using q0, by simpa [Addr.add] using q1, by simpa [Addr.add] using q2, by simpa [Addr.add] using q3, by simpa [Addr.add] using q4, by simpa [Addr.add] using q5⟩, hR, hP, b3, b4⟩
    haveI : Inhabited (C5 × Sl) := ⟨((0, ⟨#[]⟩, z0, []), (none, 0, 0))⟩
    obtain ⟨q, hq⟩ := Go.Deep.choose_lt each
    have hb : ∀ i, i < len0 → Rows.uptoBulk (D i) ≤ Rows.uptoBulk (DataW.slice ((List.range len0).map D) ((List.range (m - len0)).map fun j => D (len0 + j))) := fun i hi => by
      have := bulk_mem ((List.range len0).map D) (D i) (List.mem_map.2 ⟨i, List.mem_range.2 hi, rfl⟩)
      simp only [Rows.uptoBulk]; omega
    have hlm : len0 ≤ m := by simpa using hlc
    refine ⟨(List.range len0).map fun i => ((q i).1.1, (q i).1.2.1, (q i).1.2.2.1, (q i).2), (List.range len0).map fun i => (q i).1, ⟨some a, m, by simp, by simpa using hlc, fun h => (by cases h), fun hne => ?_⟩, ?_, fun x hx => ?_, ?_, fun e he => ?_⟩
    · have hl0 : 0 < len0 := by rcases Nat.eq_zero_or_pos len0 with h | h; subst h; simp at hne; exact h
      obtain ⟨b, off, spot⟩ := a
      have h00 := (hq 0 (by omega)).1.1
      have : spot = none := by simpa [Addr.add] using World.cell?_spot h00
      subst this
      refine ⟨b, off, rfl, fun j u hu => ?_⟩
      obtain ⟨i, r, hir, hji⟩ : ∃ i r, r < 6 ∧ j = i * 6 + r := ⟨j / 6, j % 6, Nat.mod_lt _ (by decide), by omega⟩
      subst hji
      have hjl := (List.getElem?_eq_some_iff.1 hu).1
      rw [cellsC_len, List.length_map, List.length_range] at hjl
      have hi : i < len0 := by omega
      obtain ⟨y0, y1, y2, y3, y4, y5⟩ := cellsC_get ((List.range len0).map fun i => ((q i).1.1, (q i).1.2.1, (q i).1.2.2.1, (q i).2)) i ((q i).1.1, (q i).1.2.1, (q i).1.2.2.1, (q i).2) (by simp [hi])
      obtain ⟨c0, c1, c2, c3, c4, c5⟩ := (hq i (by omega)).1
      simp only [Addr.add_lit, Nat.add_assoc] at c0 c1 c2 c3 c4 c5
      match r, hir with
      | 0, _ => rw [Nat.add_zero] at hu; rw [y0] at hu; cases hu; exact c0
      | 1, _ => rw [y1] at hu; cases hu; exact c1
      | 2, _ => rw [y2] at hu; cases hu; exact c2
      | 3, _ => rw [y3] at hu; cases hu; exact c3
      | 4, _ => rw [y4] at hu; cases hu; exact c4
      | 5, _ => rw [y5] at hu; cases hu; exact c5
    · exact forall2_maps _ _ _ fun i hi => ⟨rfl, rfl, rfl, (hq i (by have := List.mem_range.1 hi; omega)).2.1⟩
    · rcases List.mem_append.1 hx with hx | hx
      · obtain ⟨i, hi, rfl⟩ := MemPlace.mem_row.1 hx
        rcases Nat.eq_zero_or_pos m with h0 | h0
        · rw [h0, Nat.zero_mul] at hi; omega
        have := lt_of_cell (hq 0 h0).1.1
        show a.block < W.heap.size
        simpa [Addr.add] using this
      · obtain ⟨i, hi, hx⟩ := List.mem_flatMap.1 hx
        exact (hq i (List.mem_range.1 hi)).2.2.1 x hx
    · have := bulk_len ((List.range len0).map D) (fun x _ => bulk_pos x)
      simp only [List.length_map, List.length_range] at this ⊢
      simp only [Rows.uptoBulk]; omega
    · obtain ⟨i, hi, rfl⟩ := List.mem_map.1 he
      have hi' : i < len0 := List.mem_range.1 hi
      have h1 := hb i hi'
      obtain ⟨_, _, _, b3, b4⟩ := hq i (by omega)
      exact ⟨by omega, fun x hx => by have := b4 x hx; omega⟩
end Go.Proofs.YtfllomfjhkgaoaaGreatDoor
