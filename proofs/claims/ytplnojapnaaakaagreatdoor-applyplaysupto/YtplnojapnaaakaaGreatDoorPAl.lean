/- Rows of pairs as cells; rows that the call owns. -/
import Derived.Test.YtplnojapnaaakaaGreatDoorPAo
import Derived.Laws.OwnMore
import Derived.OneCell
import Derived.Laws.AppendOwnNone
import Derived.Maps.AppendAt
namespace Go.Proofs.YtplnojapnaaakaaGreatDoor
open Go Go.RowKit Go.Lib
set_option linter.unusedVariables false
def cellsA : List A2 → List Value
  | [] => []
  | q :: r => .string q.1 :: .int .i64 q.2.1 :: .int .i64 q.2.2.1 :: .string q.2.2.2 :: cellsA r
theorem cellsA_len : ∀ L : List A2, (cellsA L).length = L.length * 4
  | [] => rfl
  | q :: r => by simp [cellsA, cellsA_len r]; omega
theorem cellsA_append : ∀ L M : List A2, cellsA (L ++ M) = cellsA L ++ cellsA M
  | [], M => rfl
  | q :: r, M => by simp [cellsA, cellsA_append r M]
theorem cellsA_one : ∀ (L : List A2), ∀ u ∈ cellsA L, u.oneCell' = true
  | [], u, h => by cases h
  | q :: r, u, h => by
    simp only [cellsA, List.mem_cons] at h
    rcases h with rfl | rfl | rfl | rfl | h
    · rfl
    · rfl
    · rfl
    · rfl
    · exact cellsA_one r u h
theorem cellsA_get : ∀ (L : List A2) (i : Nat) (q : A2), L[i]? = some q → (cellsA L)[i * 4]? = some (.string q.1) ∧ (cellsA L)[i * 4 + 1]? = some (.int .i64 q.2.1) ∧ (cellsA L)[i * 4 + 2]? = some (.int .i64 q.2.2.1) ∧ (cellsA L)[i * 4 + 3]? = some (.string q.2.2.2)
  | [], i, q, h => by simp at h
  | p :: r, 0, q, h => by
    obtain rfl : p = q := by simpa using h
    exact ⟨rfl, rfl, rfl, rfl⟩
  | p :: r, i + 1, q, h => by
    have := cellsA_get r i q (by simpa using h)
    rw [show (i + 1) * 4 = i * 4 + 1 + 1 + 1 + 1 by omega]
    simpa [cellsA] using this
theorem cellsA_inv : ∀ (L : List A2) (j : Nat) (u : Value), (cellsA L)[j]? = some u → ∃ i q, L[i]? = some q ∧ ((j = i * 4 ∧ u = .string q.1) ∨ (j = i * 4 + 1 ∧ u = .int .i64 q.2.1) ∨ (j = i * 4 + 2 ∧ u = .int .i64 q.2.2.1) ∨ (j = i * 4 + 3 ∧ u = .string q.2.2.2))
  | [], j, u, h => by simp [cellsA] at h
  | p :: r, 0, u, h => ⟨0, p, rfl, Or.inl ⟨rfl, by simpa [cellsA] using h.symm⟩⟩
  | p :: r, 1, u, h => ⟨0, p, rfl, Or.inr (Or.inl ⟨rfl, by simpa [cellsA] using h.symm⟩)⟩
  | p :: r, 2, u, h => ⟨0, p, rfl, Or.inr (Or.inr (Or.inl ⟨rfl, by simpa [cellsA] using h.symm⟩))⟩
  | p :: r, 3, u, h => ⟨0, p, rfl, Or.inr (Or.inr (Or.inr ⟨rfl, by simpa [cellsA] using h.symm⟩))⟩
  | p :: r, j + 4, u, h => by
    obtain ⟨i, q, hq, hh⟩ := cellsA_inv r j u (by simpa [cellsA] using h)
    refine ⟨i + 1, q, by simpa using hq, ?_⟩
    rcases hh with ⟨h1, h2⟩ | ⟨h1, h2⟩ | ⟨h1, h2⟩ | ⟨h1, h2⟩
    · exact Or.inl ⟨by omega, h2⟩
    · exact Or.inr (Or.inl ⟨by omega, h2⟩)
    · exact Or.inr (Or.inr (Or.inl ⟨by omega, h2⟩))
    · exact Or.inr (Or.inr (Or.inr ⟨by omega, h2⟩))

/-- A pair's four cells. -/
structure PairAt (w : World) (b off : Nat) (q : A2) : Prop where
  c0 : w.cell? ⟨b, off, none⟩ = some (.string q.1)
  c1 : w.cell? ⟨b, off + 1, none⟩ = some (.int .i64 q.2.1)
  c2 : w.cell? ⟨b, off + 2, none⟩ = some (.int .i64 q.2.2.1)
  c3 : w.cell? ⟨b, off + 3, none⟩ = some (.string q.2.2.2)
theorem PairAt.below {w w' : World} {b off : Nat} {q : A2} (h : PairAt w b off q) (hb : Below w.heap.size w w') : PairAt w' b off q :=
  ⟨(hb.cell (lt_of_cell h.c0)).trans h.c0, (hb.cell (lt_of_cell h.c1)).trans h.c1, (hb.cell (lt_of_cell h.c2)).trans h.c2, (hb.cell (lt_of_cell h.c3)).trans h.c3⟩
theorem PairAt.drew {w : World} {b off : Nat} {q : A2} (h : PairAt w b off q) : PairAt w.drew b off q := ⟨h.c0, h.c1, h.c2, h.c3⟩
theorem PairAt.drewN {w : World} {b off : Nat} {q : A2} (h : PairAt w b off q) (n : Nat) : PairAt (w.drewN n) b off q := ⟨h.c0, h.c1, h.c2, h.c3⟩
theorem PairAt.lt {w : World} {b off : Nat} {q : A2} (h : PairAt w b off q) : b < w.heap.size := lt_of_cell h.c0
/-- A slice of pairs, as it lies in memory. -/
def RowA (w : World) (v : Value) (L : List A2) : Prop :=
  ∃ p cap, v = .slice p L.length cap ∧ L.length ≤ cap ∧ ∀ (j : Nat) (q : A2), L[j]? = some q → ∃ b off, p = some ⟨b, off, none⟩ ∧ PairAt w b (off + j * 4) q
theorem RowA.below {w w' : World} {v : Value} {L : List A2} (h : RowA w v L) (hb : Below w.heap.size w w') : RowA w' v L := by
  obtain ⟨p, cap, rfl, hl, hc⟩ := h
  refine ⟨p, cap, rfl, hl, fun j q hq => ?_⟩
  obtain ⟨b, off, hp, h0⟩ := hc j q hq
  exact ⟨b, off, hp, h0.below hb⟩
theorem RowA.from {w W w' : World} {v : Value} {L : List A2} (h : RowA w v L) (hb : Below w.heap.size w w') : RowA w' v L := h.below hb
theorem RowA.drewN {w : World} {v : Value} {L : List A2} (h : RowA w v L) (n : Nat) : RowA (w.drewN n) v L := by
  obtain ⟨p, cap, rfl, hl, hc⟩ := h
  refine ⟨p, cap, rfl, hl, fun j q hq => ?_⟩
  obtain ⟨b, off, hp, h0⟩ := hc j q hq
  exact ⟨b, off, hp, h0.drewN n⟩
theorem RowA.nil (w : World) (p : Option Addr) (c : Nat) : RowA w (.slice p 0 c) [] := ⟨p, c, rfl, Nat.zero_le _, fun j q hq => by simp at hq⟩
/-- A row that isn't empty: its first pair, and where the rest lies. -/
theorem RowA.cons {w : World} {v : Value} {q : A2} {r : List A2} (h : RowA w v (q :: r)) :
    ∃ b off cap, v = .slice (some ⟨b, off, none⟩) (r.length + 1) cap ∧ r.length + 1 ≤ cap ∧ PairAt w b off q ∧ ∀ (j : Nat) (x : A2), r[j]? = some x → PairAt w b (off + 4 + j * 4) x := by
  obtain ⟨p, cap, rfl, hl, hc⟩ := h
  obtain ⟨b, off, rfl, h0⟩ := hc 0 q rfl
  refine ⟨b, off, cap, rfl, by simpa using hl, by simpa using h0, fun j x hx => ?_⟩
  obtain ⟨b', off', hp, h1⟩ := hc (j + 1) x (by simpa using hx)
  simp only [Option.some.injEq, Addr.mk.injEq, and_true] at hp
  obtain ⟨rfl, rfl⟩ := hp
  rw [show off + 4 + j * 4 = off + (j + 1) * 4 by omega]
  exact h1
theorem RowA.val {w : World} {v : Value} {L : List A2} (h : RowA w v L) : ∃ p cap, v = .slice p L.length cap ∧ L.length ≤ cap := by
  obtain ⟨p, cap, rfl, hl, _⟩ := h
  exact ⟨p, cap, rfl, hl⟩
/-- What the call owns, as a row. -/
theorem own_rowA {w : World} {B : Nat} {e : TypeId} {v : Value} {L : List A2} (h : w.ownsRow B e 4 v L.length (cellsA L)) : RowA w v L := by
  rcases h.2 with ⟨rfl, h0⟩ | ⟨g, cap, cur, rfl, h2, h3, h4, h5, h6, h7⟩
  · have : L = [] := List.eq_nil_of_length_eq_zero h0
    subst this
    exact RowA.nil _ _ _
  · refine ⟨some ⟨g, 0, none⟩, cap, rfl, h4, fun j q hq => ?_⟩
    have hc := h.cells (g := g) rfl
    obtain ⟨c0, c1, c2, c3⟩ := cellsA_get L j q hq
    have d0 := hc _ _ c0
    have d1 := hc _ _ c1
    have d2 := hc _ _ c2
    have d3 := hc _ _ c3
    rw [Addr.add_lit] at d0 d1 d2 d3
    exact ⟨g, 0, rfl, d0, d1, d2, d3⟩
theorem infoAt : ∃ i z, Tryz.prog.info? 154 = some i ∧ i.zero = some z ∧ i.size = 4 ∧ i.bytes = 48 ∧ z.cells.size = 4 := by
  obtain ⟨i, hi, h⟩ := Option.map_eq_some_iff.1 (show (Tryz.prog.info? 154).map (fun i => (i.zero, i.size, i.bytes)) = some (some (.agg #[.string ⟨#[]⟩, .int .i64 0, .int .i64 0, .string ⟨#[]⟩]), 4, 48) by kernel_rfl)
  simp only [Prod.mk.injEq] at h
  exact ⟨i, _, hi, h.1, h.2.1, h.2.2, rfl⟩
/-- append(own, one pair). -/
theorem wpList_append_at {w : World} {ops : Array Oper} {rest : List Oper} {o : Oper} {a : Act} {Q : Exit → Act → World → Prop} (hgd : o.guard = none) (s x : Operand)
    (ho : o.op = .call { callee := .builtin .append, args := #[s, x], argTypes := #[31, 31] })
    (base : Nat) (v : Value) (L : List A2) (hs : a.eval s = v) (hown : w.ownsRow base 154 4 v L.length (cellsA L))
    (b c : Nat) (q : A2) (hx : a.eval x = .slice (some ⟨b, 0, none⟩) 1 c) (hq : PairAt w b 0 q)
    (h63 : L.length ≤ 1048676) (hbase : base ≤ w.heap.size)
    (h : ∀ v' w', w'.ownsRow base 154 4 v' (L ++ [q]).length (cellsA (L ++ [q])) → w.grownBy w' v.ownBlock → wpList Tryz.prog ops Q rest (a.put o.dst v') w') : wpList Tryz.prog ops Q (o :: rest) a w := by
  obtain ⟨i, z, hi, hz, hz1, hz2, hz3⟩ := infoAt
  refine wpList_append_own _ hgd s x _ ho base 154 i z 4 48 Tryz.underlying31 hi hz hz1 hz2 hz3 (by decide) v L.length (cellsA L) hs hown ⟨b, 0, none⟩ 1 c (cellsA [q]) hx rfl (fun j y hj => ?_) (cellsA_one _) (by unfold maxLen; omega) (by omega) hbase (fun v' w' h1 h2 _ => ?_)
  · obtain ⟨k, q', hk, hh⟩ := cellsA_inv [q] j y hj
    match k, hk with
    | 0, hk =>
      obtain rfl : q = q' := by simpa using hk
      rw [Addr.add_lit]
      rcases hh with ⟨rfl, rfl⟩ | ⟨rfl, rfl⟩ | ⟨rfl, rfl⟩ | ⟨rfl, rfl⟩
      · exact hq.c0
      · exact hq.c1
      · exact hq.c2
      · exact hq.c3
    | k + 1, hk => simp at hk
  · refine h v' w' ?_ h2
    rw [cellsA_append]
    simpa using h1
theorem own_slice {w : World} {B : Nat} {e : TypeId} {size : Nat} {v : Value} {m : Nat} {xs : List Value} (h : w.ownsRow B e size v m xs) : ∃ p c, v = .slice p m c := by
  rcases h.2 with ⟨rfl, rfl⟩ | ⟨g, cap, cur, rfl, _⟩
  · exact ⟨none, 0, rfl⟩
  · exact ⟨_, _, rfl⟩
end Go.Proofs.YtplnojapnaaakaaGreatDoor
