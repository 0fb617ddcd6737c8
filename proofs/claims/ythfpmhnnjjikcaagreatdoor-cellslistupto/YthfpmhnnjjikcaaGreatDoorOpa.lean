/- A slice of pairs among the arguments: what its reading gives the walk. -/
import Derived.Test.YthfpmhnnjjikcaaGreatDoorAl
import Derived.Test.YthfpmhnnjjikcaaGreatDoorPl
import Derived.Deep.Slices
import Derived.Test.YthfpmhnnjjikcaaGreatDoorRows
import Derived.Lib.SmallJoins
namespace Go.Proofs.YthfpmhnnjjikcaaGreatDoor
open Go Go.RowKit Go.Lib Go.ChangeShapes Go.WideShapes Go.ChangeAt Go.Joins
set_option linter.unusedVariables false

theorem bulk_mem {H : Type} : ∀ (l : List (DataW H)) (x : DataW H), x ∈ l → Rows.uptoBulk x ≤ Rows.uptoBulkAll l
  | [], x, h => by cases h
  | y :: r, x, h => by
    simp only [Rows.uptoBulkAll]
    rcases List.mem_cons.1 h with rfl | h
    · omega
    · have := bulk_mem r x h; omega
theorem bulk_len {H : Type} : ∀ (l : List (DataW H)), (∀ x ∈ l, 1 ≤ Rows.uptoBulk x) → l.length ≤ Rows.uptoBulkAll l
  | [], _ => Nat.zero_le _
  | y :: r, h => by
    have h1 := h y (List.mem_cons_self ..)
    have h2 := bulk_len r fun x hx => h x (List.mem_cons_of_mem _ hx)
    simp only [Rows.uptoBulkAll, List.length_cons]; omega
abbrev atD {H : Type} (q : A2) : DataW H := .agg [.lit (.string q.1.data.toList), plD q.2.1 q.2.2.1 q.2.2.2]
theorem bulk_atD {H : Type} (q : A2) : Rows.uptoBulk (atD q : DataW H) = q.1.size + q.2.2.2.size + 6 := by
  simp only [Rows.uptoBulk, Rows.uptoBulkAll, size_toList]; omega
theorem weights_all {H : Type} {P : Program} {e : TypeId} : ∀ (l : List (DataW H)) (x : DataW H), x ∈ l → ∀ n ∈ x.weights P e, n ∈ DataW.weightsAll P e l
  | [], x, h, n, hn => by cases h
  | y :: r, x, h, n, hn => by
    simp only [DataW.weightsAll, List.mem_append]
    rcases List.mem_cons.1 h with rfl | h
    · exact Or.inl hn
    · exact Or.inr (weights_all r x h n hn)
theorem cellsAttr : Tryz.prog.cellsOf 163 = 4 := by kernel_rfl
theorem bytesAttr : Tryz.prog.bytesOf 163 = 48 := by kernel_rfl

set_option maxRecDepth 100000 in
/-- A pair's datum. -/
theorem trod_at {H : Type} {enc : TypeId × Value → H} {W : World} {cs : List Value} {d : DataW H} {p : List MemPlace} (hlen : cs.length = 4)
    (h : ∃ fuel, DataW.trod enc Tryz.prog W 0 (fun _ => true) true fuel 163 cs = some (d, p)) :
    ∃ q : A2, cs = [.string q.1, .int .i64 q.2.1, .int .i64 q.2.2.1, .string q.2.2.2] ∧ d = atD q ∧ p = [] := by
  obtain ⟨fuel, h2⟩ := h
  have k0 : Tryz.prog.cellsOf 9 = 1 := by kernel_rfl
  have k1 : Tryz.prog.cellsOf 3 = 1 := by kernel_rfl
  have k2 : Tryz.prog.cellsOf 2 = 1 := by kernel_rfl
  have k3 : Tryz.prog.cellsOf 30 = 3 := cellsPlain
  obtain ⟨xs, kk, _, hxy, _, hxl, hf⟩ := DataW.trod_struct Tryz.underlying163 h2
  match xs, hxl, cs, hlen with
  | [y0, y1], _, [v0, v1, v2, v3], _ =>
    have g0 := hf 0 _ rfl
    have g1 := hf 1 _ rfl
    simp [k0] at g0
    simp [k3] at g1
    obtain ⟨t, e0, rfl, _⟩ := DataW.trod_string Tryz.underlying9 g0
    obtain ⟨ys, kk', _, hxy', _, hyl, hf'⟩ := DataW.trod_struct Tryz.underlying30 g1
    match ys, hyl with
    | [z0, z1, z2], _ =>
      have j0 := hf' 0 _ rfl
      have j1 := hf' 1 _ rfl
      have j2 := hf' 2 _ rfl
      simp [k1] at j0
      simp [k2] at j1
      simp [k0] at j2
      obtain ⟨k, e1, rfl, _⟩ := DataW.trod_int Tryz.underlying3 j0
      obtain ⟨n, e2, rfl, _⟩ := DataW.trod_int Tryz.underlying2 j1
      obtain ⟨t', e3, rfl, _⟩ := DataW.trod_string Tryz.underlying9 j2
      simp at e0 e1 e2 e3
      subst e0 e1 e2 e3
      simp only [Prod.mk.injEq] at hxy
      subst hxy'
      exact ⟨(t, k, n, t'), rfl, by rw [hxy.1]; simp, by rw [hxy.2]; simp⟩

set_option maxRecDepth 100000 in
theorem open_rowA {H : Type} {enc : TypeId × Value → H} {W : World} {base : Nat} {v : Value} {d : DataW H} {p : List MemPlace} {ts : List TypeId} {ds : List (DataW H)} {j : Nat}
    (hok : Value.okWide Tryz.prog W .any base 31 v) (h : DataW.Trod enc Tryz.prog W 0 (fun _ => true) true 31 v d p)
    (hsz : (DataW.weightsEach Tryz.prog ts ds).all (· ≤ reachBytes) = true) (ht : ts[j]? = some 31) (hd : ds[j]? = some d) :
    ∃ L : List A2, RowA W v L ∧ (∀ m c, v = .slice none m c → m = 0 ∧ c = 0) ∧ (∀ x ∈ p, x.block < W.heap.size) ∧ L.length ≤ 35184372087808 ∧ (∀ q ∈ L, q.1.size ≤ 140737488351232 ∧ q.2.2.2.size ≤ 140737488351232) ∧
      L.length ≤ Rows.uptoBulk d ∧ ∀ q ∈ L, q.1.size ≤ Rows.uptoBulk d ∧ q.2.2.2.size ≤ Rows.uptoBulk d := by
  obtain ⟨a0, len0, cap0, rfl⟩ := okWide_slice Tryz.underlying31 hok
  obtain ⟨fuel, hf⟩ := h
  rcases Go.Deep.open_slice Tryz.underlying31 hf with ⟨hcs, hx⟩ | ⟨a, len, cap, m, n, D, Pl, hcs, _, hlc, _, hm, hx, hel⟩
  · have hcs' : a0 = none ∧ len0 = 0 ∧ cap0 = 0 := by simpa [Value.cells] using hcs
    obtain ⟨rfl, rfl, rfl⟩ := hcs'
    simp only [Prod.mk.injEq] at hx
    obtain ⟨rfl, rfl⟩ := hx
    exact ⟨[], RowA.nil _ _ _, fun m c he => by simp at he; exact ⟨he.1.symm, he.2.symm⟩, by simp, by simp, by simp, Nat.zero_le _, by simp⟩
  · have hcs' : a0 = some a ∧ len0 = len ∧ cap0 = cap := by simpa [Value.cells] using hcs
    obtain ⟨rfl, rfl, rfl⟩ := hcs'
    simp only [Prod.mk.injEq] at hx
    obtain ⟨rfl, rfl⟩ := hx
    simp only [if_true] at hm
    subst hm
    have each : ∀ i, i < m → ∃ q : A2, W.cell? (a.add (i * 4)) = some (.string q.1) ∧ W.cell? ((a.add (i * 4)).add 1) = some (.int .i64 q.2.1) ∧ W.cell? ((a.add (i * 4)).add 2) = some (.int .i64 q.2.2.1) ∧ W.cell? ((a.add (i * 4)).add 3) = some (.string q.2.2.2) ∧ D i = atD q ∧ Pl i = [] := by
      intro i hi
      obtain ⟨cs', h1, h2⟩ := hel i hi
      rw [cellsAttr] at h1
      obtain ⟨_, hlen, hcell⟩ := World.cells?_some h1
      obtain ⟨q, rfl, hD, hP⟩ := trod_at hlen ⟨_, h2⟩
      have q0 := hcell 0 (by simp)
      have q1 := hcell 1 (by simp)
      have q2 := hcell 2 (by simp)
      have q3 := hcell 3 (by simp)
      exact ⟨q, by simpa [Addr.add] using q0, by simpa using q1, by simpa using q2, by simpa using q3, hD, hP⟩
    obtain ⟨q, hq⟩ := Go.Deep.choose_lt each
    have hlen : ((List.range len0).map q).length = len0 := by simp
    have hD : ∀ i, i < len0 → D i = atD (q i) := fun i hi => (hq i (by omega)).2.2.2.2.1
    have hb : ∀ i, i < len0 → Rows.uptoBulk (D i) ≤ Rows.uptoBulk (DataW.slice ((List.range len0).map D) ((List.range (m - len0)).map fun j => D (len0 + j))) := fun i hi => by
      have := bulk_mem ((List.range len0).map D) (D i) (List.mem_map.2 ⟨i, List.mem_range.2 hi, rfl⟩)
      simp only [Rows.uptoBulk]; omega
    have hw : ∀ i, i < len0 → ∀ n ∈ (D i).weights Tryz.prog 163, n ≤ 140737488351232 := fun i hi n hn => by
      have hmem : n ∈ (DataW.slice ((List.range len0).map D) ((List.range (m - len0)).map fun j => D (len0 + j))).weights Tryz.prog 31 := by
        simp only [DataW.weights, Tryz.underlying31, List.mem_cons, List.mem_append]
        exact Or.inr (Or.inl (weights_all _ (D i) (List.mem_map.2 ⟨i, List.mem_range.2 hi, rfl⟩) n hn))
      exact of_decide_eq_true (List.all_eq_true.1 hsz n (DataW.weights_mem_each ht hd n hmem))
    have hs := sized_slice hsz ht hd Tryz.underlying31
    rw [bytesAttr, List.length_map, List.length_range] at hs
    refine ⟨(List.range len0).map q, ⟨some a, m, by rw [hlen], by rw [hlen]; exact hlc, fun j x hx => ?_⟩, fun m c he => by simp at he, fun x hx => ?_, ?_, fun x hx => ?_, ?_, fun x hx => ?_⟩
    · have hj : j < len0 := by have := (List.getElem?_eq_some_iff.1 hx).1; rw [hlen] at this; exact this
      obtain rfl : q j = x := by simpa [hj] using hx
      obtain ⟨c0, c1, c2, c3, _⟩ := hq j (by omega)
      obtain ⟨b, off, spot⟩ := a
      have hspot : spot = none := by
        by_cases h0 : j * 4 = 0
        · rw [h0] at c0; simpa [Addr.add] using World.cell?_spot c0
        · have h00 := (hq 0 (by omega)).1
          simpa [Addr.add] using World.cell?_spot h00
      subst hspot
      simp only [Addr.add_lit] at c0 c1 c2 c3
      exact ⟨b, off, rfl, c0, c1, c2, c3⟩
    · rcases List.mem_append.1 hx with hx | hx
      · obtain ⟨i, hi, rfl⟩ := MemPlace.mem_row.1 hx
        rcases Nat.eq_zero_or_pos m with h0 | h0
        · rw [h0, Nat.zero_mul] at hi; omega
        have := lt_of_cell (hq 0 h0).1
        show a.block < W.heap.size
        simpa [Addr.add] using this
      · obtain ⟨i, hi, hx⟩ := List.mem_flatMap.1 hx
        rw [(hq i (List.mem_range.1 hi)).2.2.2.2.2] at hx
        cases hx
    · rw [hlen]
      have : reachBytes = 140737488351232 := rfl
      simp only [List.length_map, List.length_range] at hs
      omega
    · obtain ⟨i, hi, rfl⟩ := List.mem_map.1 hx
      have hi' := List.mem_range.1 hi
      have h1 := hw i hi'
      rw [hD i hi'] at h1
      have e1 := h1 (q i).1.data.toList.length (by simp [DataW.weights, Tryz.underlying163, Tryz.underlying30, DataW.weightsEach])
      have e2 := h1 (q i).2.2.2.data.toList.length (by simp [DataW.weights, Tryz.underlying163, Tryz.underlying30, DataW.weightsEach])
      rw [size_toList] at e1 e2
      exact ⟨e1, e2⟩
    · rw [hlen]
      have := bulk_len ((List.range len0).map D) (fun x hx => by
        obtain ⟨i, hi, rfl⟩ := List.mem_map.1 hx
        rw [hD i (List.mem_range.1 hi), bulk_atD]; omega)
      simp only [List.length_map, List.length_range] at this
      simp only [Rows.uptoBulk]; omega
    · obtain ⟨i, hi, rfl⟩ := List.mem_map.1 hx
      have := hb i (List.mem_range.1 hi)
      rw [hD i (List.mem_range.1 hi), bulk_atD] at this
      exact ⟨by omega, by omega⟩
end Go.Proofs.YthfpmhnnjjikcaaGreatDoor
