/- A slice of operations among the arguments: what its reading gives the walk. -/
import Derived.Test.YthfpmhnnjjikcaaGreatDoorOpo
import Derived.Test.YthfpmhnnjjikcaaGreatDoorQd
namespace Go.Proofs.YthfpmhnnjjikcaaGreatDoor
open Go Go.RowKit Go.Lib Go.ChangeShapes Go.WideShapes Go.ChangeAt Go.Joins
set_option linter.unusedVariables false
theorem bulk_pos {H : Type} (d : DataW H) : 1 ≤ Rows.uptoBulk d := by
  cases d with
  | lit l => cases l <;> simp only [Rows.uptoBulk] <;> omega
  | nil => simp only [Rows.uptoBulk]; omega
  | ptr d => simp only [Rows.uptoBulk]; omega
  | slice a b => simp only [Rows.uptoBulk]; omega
  | agg p => simp only [Rows.uptoBulk]; omega
  | iface t d => simp only [Rows.uptoBulk]; omega
  | map e => simp only [Rows.uptoBulk]; omega
  | held h => simp only [Rows.uptoBulk]; omega
theorem rn_sl {w : World} {s : Value} {A : List A2} (h : RN w s A) : ∃ x : Sl, s = slV x := by
  obtain ⟨p, c, rfl, _⟩ := h.row.val
  exact ⟨(p, _, c), rfl⟩
theorem forall2_maps {α β γ : Type} {R : β → γ → Prop} : ∀ (l : List α) (f : α → β) (g : α → γ), (∀ a ∈ l, R (f a) (g a)) → All2 R (l.map f) (l.map g)
  | [], f, g, _ => .nil
  | a :: r, f, g, h => .cons (h a (List.mem_cons_self ..)) (forall2_maps r f g fun x hx => h x (List.mem_cons_of_mem _ hx))
set_option maxRecDepth 100000 in
theorem open_ops {H : Type} {enc : TypeId × Value → H} {W : World} {base : Nat} {v : Value} {d : DataW H} {p : List MemPlace}
    (hok : Value.okWide Tryz.prog W .any base 26 v) (h : DataW.Trod enc Tryz.prog W 0 (fun _ => true) true 26 v d p) :
    ∃ E : List Op5, ReO W v E ∧ (∀ x ∈ p, x.block < W.heap.size) ∧ E.length + 1 ≤ Rows.uptoBulk d ∧ ∀ e ∈ E, e.t.size ≤ Rows.uptoBulk d ∧ e.v.2.2.size ≤ Rows.uptoBulk d ∧ e.A.length ≤ Rows.uptoBulk d ∧ ∀ q ∈ e.A, q.1.size ≤ Rows.uptoBulk d ∧ q.2.2.2.size ≤ Rows.uptoBulk d := by
  obtain ⟨a0, len0, cap0, rfl⟩ := okWide_slice Tryz.underlying26 hok
  obtain ⟨fuel, hf⟩ := h
  rcases Go.Deep.open_slice Tryz.underlying26 hf with ⟨hcs, hx⟩ | ⟨a, len, cap, m, n, D, Pl, hcs, _, hlc, _, hm, hx, hel⟩
  · have hcs' : a0 = none ∧ len0 = 0 ∧ cap0 = 0 := by simpa [Value.cells] using hcs
    obtain ⟨rfl, rfl, rfl⟩ := hcs'
    simp only [Prod.mk.injEq] at hx
    obtain ⟨rfl, rfl⟩ := hx
    exact ⟨[], ⟨[], RowO.nil _, .nil⟩, by simp, Nat.le_refl _, by simp⟩
  · have hcs' : a0 = some a ∧ len0 = len ∧ cap0 = cap := by simpa [Value.cells] using hcs
    obtain ⟨rfl, rfl, rfl⟩ := hcs'
    simp only [Prod.mk.injEq] at hx
    obtain ⟨rfl, rfl⟩ := hx
    simp only [if_true] at hm
    subst hm
    have each : ∀ i, i < m → ∃ q : Op5 × Sl, (W.cell? (a.add (i * 7)) = some (.int .i64 q.1.k) ∧ W.cell? ((a.add (i * 7)).add 1) = some (.string q.1.t) ∧ W.cell? ((a.add (i * 7)).add 2) = some (.int .i64 q.1.v.1) ∧ W.cell? ((a.add (i * 7)).add 3) = some (.int .i64 q.1.v.2.1) ∧ W.cell? ((a.add (i * 7)).add 4) = some (.string q.1.v.2.2) ∧ W.cell? ((a.add (i * 7)).add 5) = some (.int .i64 q.1.c) ∧ W.cell? ((a.add (i * 7)).add 6) = some (slV q.2)) ∧ RN W (slV q.2) q.1.A ∧ (∀ x ∈ Pl i, x.block < W.heap.size) ∧ q.1.t.size ≤ Rows.uptoBulk (D i) ∧ q.1.v.2.2.size ≤ Rows.uptoBulk (D i) ∧ q.1.A.length ≤ Rows.uptoBulk (D i) ∧ ∀ x ∈ q.1.A, x.1.size ≤ Rows.uptoBulk (D i) ∧ x.2.2.2.size ≤ Rows.uptoBulk (D i) := by
      intro i hi
      obtain ⟨cs', h1, h2⟩ := hel i hi
      rw [cellsOp] at h1
      obtain ⟨_, hlen, hcell⟩ := World.cells?_some h1
      obtain ⟨o, s, hcs, hR, hP, b1, b2, b3, b4⟩ := trod_op hlen h2
      obtain ⟨x, rfl⟩ := rn_sl hR
      subst hcs
      have q0 := hcell 0 (by simp)
      have q1 := hcell 1 (by simp)
      have q2 := hcell 2 (by simp)
      have q3 := hcell 3 (by simp)
      have q4 := hcell 4 (by simp)
      have q5 := hcell 5 (by simp)
      have q6 := hcell 6 (by simp)
      exact ⟨(o, x), ⟨by simpa [Addr.add, opC] using q0, by simpa [Addr.add, opC] using q1, by simpa [Addr.add, opC] using q2, by simpa [Addr.add, opC] using q3, by simpa [Addr.add, opC] using q4, by simpa [Addr.add, opC] using q5, by simpa [Addr.add, opC] using q6⟩, hR, hP, b1, b2, b3, b4⟩
    haveI : Inhabited (Op5 × Sl) := ⟨(opZ, (none, 0, 0))⟩
    obtain ⟨q, hq⟩ := Go.Deep.choose_lt each
    have hb : ∀ i, i < len0 → Rows.uptoBulk (D i) ≤ Rows.uptoBulk (DataW.slice ((List.range len0).map D) ((List.range (m - len0)).map fun j => D (len0 + j))) := fun i hi => by
      have := bulk_mem ((List.range len0).map D) (D i) (List.mem_map.2 ⟨i, List.mem_range.2 hi, rfl⟩)
      simp only [Rows.uptoBulk]; omega
    have hspot : ∀ i, i < m → ∃ b off, a = ⟨b, off, none⟩ := fun i hi => by
      obtain ⟨b, off, spot⟩ := a
      have h00 := (hq 0 (by omega)).1.1
      have : spot = none := by simpa [Addr.add] using World.cell?_spot h00
      subst this
      exact ⟨b, off, rfl⟩
    refine ⟨(List.range len0).map fun i => (q i).1, ⟨(List.range len0).map fun i => ((q i).1.k, (q i).1.t, (q i).1.v, (q i).1.c, (q i).2), ⟨some a, m, by simp, by simpa using hlc, fun h => (by cases h), fun j d hd => ?_⟩, ?_⟩, fun x hx => ?_, ?_, fun e he => ?_⟩
    · have hj : j < len0 := by have := (List.getElem?_eq_some_iff.1 hd).1; simpa using this
      obtain rfl : _ = d := by simpa [hj] using hd
      obtain ⟨b, off, rfl⟩ := hspot j (by omega)
      obtain ⟨c0, c1, c2, c3, c4, c5, c6⟩ := (hq j (by omega)).1
      simp only [Addr.add_lit] at c0 c1 c2 c3 c4 c5 c6
      exact ⟨b, off, rfl, c0, c1, c2, c3, c4, c5, c6⟩
    · exact forall2_maps _ _ _ fun i hi => ⟨rfl, rfl, rfl, rfl, (hq i (by have := List.mem_range.1 hi; omega)).2.1⟩
    · rcases List.mem_append.1 hx with hx | hx
      · obtain ⟨i, hi, rfl⟩ := MemPlace.mem_row.1 hx
        rcases Nat.eq_zero_or_pos m with h0 | h0
        · rw [h0, Nat.zero_mul] at hi; omega
        have := lt_of_cell (hq 0 h0).1.1
        show a.block < W.heap.size
        simpa [Addr.add] using this
      · obtain ⟨i, hi, hx⟩ := List.mem_flatMap.1 hx
        exact (hq i (List.mem_range.1 hi)).2.2.1 x hx
    · have := bulk_len ((List.range len0).map D) (fun x _ => bulk_pos x)
      simp only [List.length_map, List.length_range] at this ⊢
      simp only [Rows.uptoBulk]; omega
    · obtain ⟨i, hi, rfl⟩ := List.mem_map.1 he
      have hi' : i < len0 := List.mem_range.1 hi
      have h1 := hb i hi'
      obtain ⟨_, _, _, b1, b2, b3, b4⟩ := hq i (by omega)
      exact ⟨by omega, by omega, by omega, fun x hx => by have := b4 x hx; omega⟩
theorem fitL_bulk {E : List Op5} {n : Nat} (hn : n ≤ 1048576) (h : ∀ e ∈ E, e.t.size ≤ n ∧ e.v.2.2.size ≤ n ∧ e.A.length ≤ n ∧ ∀ q ∈ e.A, q.1.size ≤ n ∧ q.2.2.2.size ≤ n) : FitL E := fun e he => fit_bulk hn (h e he)
end Go.Proofs.YthfpmhnnjjikcaaGreatDoor
