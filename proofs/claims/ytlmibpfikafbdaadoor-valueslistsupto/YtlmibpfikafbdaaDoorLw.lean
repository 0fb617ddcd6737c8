/- Rows of Plains as cells; rows that the call owns. -/
import Derived.Test.YtlmibpfikafbdaaDoorOwn
import Derived.Laws.OwnMore
import Derived.OneCell
import Derived.Laws.AppendOwnNone
import Derived.Maps.AppendAt
namespace Go.Proofs.YtlmibpfikafbdaaDoor
open Go Go.RowKit Go.Lib
set_option linter.unusedVariables false

def cellsP : List P3 → List Value
  | [] => []
  | q :: r => .int .i64 q.1 :: .int .i64 q.2.1 :: .string q.2.2 :: cellsP r
theorem cellsP_len : ∀ ps : List P3, (cellsP ps).length = ps.length * 3
  | [] => rfl
  | q :: r => by simp [cellsP, cellsP_len r]; omega
theorem cellsP_append : ∀ ps qs : List P3, cellsP (ps ++ qs) = cellsP ps ++ cellsP qs
  | [], qs => rfl
  | q :: r, qs => by simp [cellsP, cellsP_append r qs]
theorem cellsP_one : ∀ (ps : List P3), ∀ u ∈ cellsP ps, u.oneCell' = true
  | [], u, h => by cases h
  | q :: r, u, h => by
    simp only [cellsP, List.mem_cons] at h
    rcases h with rfl | rfl | rfl | h
    · rfl
    · rfl
    · rfl
    · exact cellsP_one r u h
theorem cellsP_get : ∀ (ps : List P3) (i : Nat) (q : P3), ps[i]? = some q → (cellsP ps)[i * 3]? = some (.int .i64 q.1) ∧ (cellsP ps)[i * 3 + 1]? = some (.int .i64 q.2.1) ∧ (cellsP ps)[i * 3 + 2]? = some (.string q.2.2)
  | [], i, q, h => by simp at h
  | p :: r, 0, q, h => by
    obtain rfl : p = q := by simpa using h
    exact ⟨rfl, rfl, rfl⟩
  | p :: r, i + 1, q, h => by
    have := cellsP_get r i q (by simpa using h)
    rw [show (i + 1) * 3 = i * 3 + 1 + 1 + 1 by omega]
    simpa [cellsP] using this
theorem cellsP_inv : ∀ (ps : List P3) (j : Nat) (u : Value), (cellsP ps)[j]? = some u → ∃ i q, ps[i]? = some q ∧ ((j = i * 3 ∧ u = .int .i64 q.1) ∨ (j = i * 3 + 1 ∧ u = .int .i64 q.2.1) ∨ (j = i * 3 + 2 ∧ u = .string q.2.2))
  | [], j, u, h => by simp [cellsP] at h
  | p :: r, 0, u, h => ⟨0, p, rfl, Or.inl ⟨rfl, by simpa [cellsP] using h.symm⟩⟩
  | p :: r, 1, u, h => ⟨0, p, rfl, Or.inr (Or.inl ⟨rfl, by simpa [cellsP] using h.symm⟩)⟩
  | p :: r, 2, u, h => ⟨0, p, rfl, Or.inr (Or.inr ⟨rfl, by simpa [cellsP] using h.symm⟩)⟩
  | p :: r, j + 3, u, h => by
    obtain ⟨i, q, hq, hh⟩ := cellsP_inv r j u (by simpa [cellsP] using h)
    refine ⟨i + 1, q, by simpa using hq, ?_⟩
    rcases hh with ⟨h1, h2⟩ | ⟨h1, h2⟩ | ⟨h1, h2⟩
    · exact Or.inl ⟨by omega, h2⟩
    · exact Or.inr (Or.inl ⟨by omega, h2⟩)
    · exact Or.inr (Or.inr ⟨by omega, h2⟩)

/-- Plains that lie one behind the other in a block. -/
def InRow (w : World) (b off : Nat) (ps : List P3) : Prop := ∀ (i : Nat) (q : P3), ps[i]? = some q →
  w.cell? ⟨b, off + i * 3, none⟩ = some (.int .i64 q.1) ∧ w.cell? ⟨b, off + i * 3 + 1, none⟩ = some (.int .i64 q.2.1) ∧ w.cell? ⟨b, off + i * 3 + 2, none⟩ = some (.string q.2.2)
theorem InRow.rowP {w : World} {b off : Nat} {ps : List P3} (h : InRow w b off ps) (cap : Nat) : RowP w (.slice (some ⟨b, off, none⟩) ps.length cap) ps :=
  ⟨some ⟨b, off, none⟩, cap, rfl, fun j q hq => ⟨b, off, rfl, h j q hq⟩⟩
theorem InRow.below {w w' : World} {b off : Nat} {ps : List P3} (h : InRow w b off ps) (hb : Below w.heap.size w w') : InRow w' b off ps := fun i q hq => by
  obtain ⟨h0, h1, h2⟩ := h i q hq
  exact ⟨by rw [hb.cell (lt_of_cell h0)]; exact h0, by rw [hb.cell (lt_of_cell h1)]; exact h1, by rw [hb.cell (lt_of_cell h2)]; exact h2⟩
theorem InRow.cells {w : World} {b off : Nat} {ps : List P3} (h : InRow w b off ps) (j : Nat) (u : Value) (hu : (cellsP ps)[j]? = some u) : w.cell? ((⟨b, off, none⟩ : Addr).add j) = some u := by
  obtain ⟨i, q, hq, hh⟩ := cellsP_inv ps j u hu
  obtain ⟨h0, h1, h2⟩ := h i q hq
  rw [Addr.add_lit]
  rcases hh with ⟨rfl, rfl⟩ | ⟨rfl, rfl⟩ | ⟨rfl, rfl⟩
  · exact h0
  · exact h1
  · exact h2
/-- What the call owns lies in a block of its own. -/
theorem own_inrow {w : World} {B : Nat} {e : TypeId} {v : Value} {m : Nat} {ps : List P3} (h : w.ownsRow B e 3 v m (cellsP ps)) (hm : 0 < m) :
    ∃ g cap, v = .slice (some ⟨g, 0, none⟩) m cap ∧ B ≤ g ∧ m ≤ cap ∧ cap ≤ maxLen ∧ InRow w g 0 ps := by
  rcases h.2 with ⟨_, h0⟩ | ⟨g, cap, cur, rfl, h2, h3, h4, h5, h6, h7⟩
  · omega
  · refine ⟨g, cap, rfl, h2, h4, h5, fun i q hq => ?_⟩
    have hc := h.cells (g := g) rfl
    obtain ⟨c0, c1, c2⟩ := cellsP_get ps i q hq
    have d0 := hc _ _ c0
    have d1 := hc _ _ c1
    have d2 := hc _ _ c2
    rw [Addr.add_lit] at d0 d1 d2
    exact ⟨d0, d1, d2⟩
theorem infoPl : ∃ i z, Tryd.prog.info? 23 = some i ∧ i.zero = some z ∧ i.size = 3 ∧ i.bytes = 32 ∧ z.cells.size = 3 := by
  obtain ⟨i, hi, h⟩ := Option.map_eq_some_iff.1 (show (Tryd.prog.info? 23).map (fun i => (i.zero, i.size, i.bytes)) = some (some (.agg #[.int .i64 0, .int .i64 0, .string ⟨#[]⟩]), 3, 32) by kernel_rfl)
  simp only [Prod.mk.injEq] at h
  exact ⟨i, _, hi, h.1, h.2.1, h.2.2, rfl⟩
/-- append(own, src...): src as it came in, nil or not. -/
theorem wpList_append_src {w : World} {ops : Array Oper} {rest : List Oper} {o : Oper} {a : Act} {Q : Exit → Act → World → Prop} (hgd : o.guard = none) (s x : Operand) (t : TypeId)
    (ho : o.op = .call { callee := .builtin .append, args := #[s, x], argTypes := #[t, t] })
    (base : Nat) (e : TypeId) (i : TypeInfo) (z : Value) (size bytes : Nat) (ht : Tryd.prog.underlying t = some (.slice e)) (hi : Tryd.prog.info? e = some i) (hz : i.zero = some z)
    (hsize : i.size = size) (hby : i.bytes = bytes) (hzs : z.cells.size = size) (hsz : 0 < size)
    (v : Value) (n : Nat) (xs : List Value) (hs : a.eval s = v) (hown : w.ownsRow base e size v n xs)
    (p : Option Addr) (m c : Nat) (news : List Value) (hx : a.eval x = .slice p m c) (hp : p = none → m = 0 ∧ c = 0) (hl : news.length = m * size) (hnews : ∀ ad, p = some ad → ∀ j u, news[j]? = some u → w.cell? (ad.add j) = some u) (h1 : ∀ u ∈ news, u.oneCell' = true)
    (h63 : n + m ≤ maxLen) (hbytes : (n + m) * bytes ≤ 140737488355328) (hbase : base ≤ w.heap.size)
    (h : ∀ v' w', w'.ownsRow base e size v' (n + m) (xs ++ news) → w.grownBy w' v.ownBlock → wpList Tryd.prog ops Q rest (a.put o.dst v') w') : wpList Tryd.prog ops Q (o :: rest) a w := by
  cases p with
  | some ad => exact wpList_append_own _ hgd s x t ho base e i z size bytes ht hi hz hsize hby hzs hsz v n xs hs hown ad m c news hx hl (hnews ad rfl) h1 h63 hbytes hbase (fun v' w' h1 h2 _ => h v' w' h1 h2)
  | none =>
    obtain ⟨rfl, rfl⟩ := hp rfl
    have hn : news = [] := List.eq_nil_of_length_eq_zero (by simpa using hl)
    subst hn
    refine wpList_append_own_none hgd s x t ho base e i size ht hi v n xs hs hown hx ?_
    exact h v w (by simpa using hown) ⟨rfl, rfl, rfl, Nat.le_refl _, fun _ _ _ => rfl⟩
theorem wpList_make_plain (w : World) {ops : Array Oper} {rest : List Oper} {o : Oper} {a : Act} {Q : Exit → Act → World → Prop}
    (hg : o.guard = none) (l c : Operand) (hop : o.op = Op.makeSlice 45 l c) (base : Nat)
    (kl kc : IntKind) (C : Int) (n : Nat) (hl : a.eval l = .int kl 0) (hc : a.eval c = .int kc C) (hC : C = (n : Int)) (b2 : n ≤ 1048577) (b4 : base ≤ w.heap.size)
    (hK : ∀ v w', w'.ownsRow base 23 3 v 0 [] → w.grownBy w' none → wpList Tryd.prog ops Q rest (a.put o.dst v) w') :
    wpList Tryd.prog ops Q (o :: rest) a w := by
  obtain ⟨i, z, hi, hz, hz1, hz2, hz3⟩ := infoPl
  exact wpList_make_own w hg l c _ hop base 23 i z 3 Tryd.underlying45 hi hz hz1 kl kc C n hl hc hC (by rw [hz2]; omega) (by unfold maxLen; omega) b4 fun w' h1 h2 => hK _ w' h1 h2
theorem wpList_append_plain {w : World} {ops : Array Oper} {rest : List Oper} {o : Oper} {a : Act} {Q : Exit → Act → World → Prop} (hgd : o.guard = none) (s x : Operand)
    (ho : o.op = .call { callee := .builtin .append, args := #[s, x], argTypes := #[45, 45] })
    (base : Nat) (v : Value) (n : Nat) (xs : List Value) (hs : a.eval s = v) (hown : w.ownsRow base 23 3 v n xs)
    (p : Option Addr) (m c : Nat) (news : List Value) (hx : a.eval x = .slice p m c) (hp : p = none → m = 0 ∧ c = 0) (hl : news.length = m * 3) (hnews : ∀ ad, p = some ad → ∀ j u, news[j]? = some u → w.cell? (ad.add j) = some u) (h1 : ∀ u ∈ news, u.oneCell' = true)
    (h63 : n + m ≤ 1048577) (hbase : base ≤ w.heap.size)
    (h : ∀ v' w', w'.ownsRow base 23 3 v' (n + m) (xs ++ news) → w.grownBy w' v.ownBlock → wpList Tryd.prog ops Q rest (a.put o.dst v') w') : wpList Tryd.prog ops Q (o :: rest) a w := by
  obtain ⟨i, z, hi, hz, hz1, hz2, hz3⟩ := infoPl
  exact wpList_append_src hgd s x _ ho base 23 i z 3 32 Tryd.underlying45 hi hz hz1 hz2 hz3 (by decide) v n xs hs hown p m c news hx hp hl hnews h1 (by unfold maxLen; omega) (by omega) hbase h
theorem wpList_append_val {w : World} {ops : Array Oper} {rest : List Oper} {o : Oper} {a : Act} {Q : Exit → Act → World → Prop} (hgd : o.guard = none) (s x : Operand)
    (ho : o.op = .call { callee := .builtin .append, args := #[s, x], argTypes := #[46, 46] })
    (base : Nat) (v : Value) (n : Nat) (xs : List Value) (hs : a.eval s = v) (hown : w.ownsRow base 27 1 v n xs)
    (b c : Nat) (u : Value) (hx : a.eval x = .slice (some ⟨b, 0, none⟩) 1 c) (hu : w.cell? ⟨b, 0, none⟩ = some u) (h1 : u.oneCell' = true)
    (h63 : n ≤ 1048677) (hbase : base ≤ w.heap.size)
    (h : ∀ v' w', w'.ownsRow base 27 1 v' (n + 1) (xs ++ [u]) → w.grownBy w' v.ownBlock → wpList Tryd.prog ops Q rest (a.put o.dst v') w') : wpList Tryd.prog ops Q (o :: rest) a w := by
  obtain ⟨i, z, hi, hz, hz1, hz2, hz3⟩ := infoVal
  exact wpList_append_own _ hgd s x _ ho base 27 i z 1 16 Tryd.underlying46 hi hz hz1 hz2 hz3 (by decide) v n xs hs hown ⟨b, 0, none⟩ 1 c [u] hx rfl (by intro j y hj; cases j with | zero => (simp at hj; subst hj; exact hu) | succ j => simp at hj) (fun y hy => by rw [List.mem_singleton.1 hy]; exact h1) (by unfold maxLen; omega) (by omega) hbase (fun v' w' h1 h2 _ => h v' w' h1 h2)
theorem inrow_left {w : World} {b off : Nat} {ps qs : List P3} (h : InRow w b off (ps ++ qs)) : InRow w b off ps := fun i q hq => h i q (by
  rw [List.getElem?_append_left (by have := List.getElem?_eq_some_iff.1 hq; exact this.1)]; exact hq)
theorem inrow_last {w : World} {b off : Nat} {ps : List P3} {q : P3} (h : InRow w b off (ps ++ [q])) : InRow w b (off + ps.length * 3) [q] := fun i q' hq => by
  match i, hq with
  | 0, hq =>
    obtain rfl : q = q' := by simpa using hq
    have := h ps.length q (by simp)
    simpa using this
  | i + 1, hq => simp at hq
theorem own_slice {w : World} {B : Nat} {e : TypeId} {size : Nat} {v : Value} {m : Nat} {xs : List Value} (h : w.ownsRow B e size v m xs) : ∃ p c, v = .slice p m c := by
  rcases h.2 with ⟨rfl, rfl⟩ | ⟨g, cap, cur, rfl, _⟩
  · exact ⟨none, 0, rfl⟩
  · exact ⟨_, _, rfl⟩
theorem own_in {w : World} {B : Nat} {e : TypeId} {g m cap : Nat} {ps : List P3} (h : w.ownsRow B e 3 (.slice (some ⟨g, 0, none⟩) m cap) m (cellsP ps)) : InRow w g 0 ps := fun i q hq => by
  have hc := h.cells (g := g) rfl
  obtain ⟨c0, c1, c2⟩ := cellsP_get ps i q hq
  have d0 := hc _ _ c0
  have d1 := hc _ _ c1
  have d2 := hc _ _ c2
  rw [Addr.add_lit] at d0 d1 d2
  exact ⟨d0, d1, d2⟩
theorem own_at {w : World} {B : Nat} {e : TypeId} {p : Option Addr} {n c : Nat} {xs : List Value} (h : w.ownsRow B e 1 (.slice p n c) n xs) (k : Nat) (hk : k < n) :
    ∃ ga x, p = some ⟨ga, 0, none⟩ ∧ B ≤ ga ∧ ga < w.heap.size ∧ xs[k]? = some x ∧ w.cell? ⟨ga, k, none⟩ = some x ∧ w.frozen? ⟨ga, k, none⟩ = false := by
  obtain ⟨g, cap, x, hv, hB, hx, hc⟩ := own_cell h k hk
  simp only [Value.slice.injEq] at hv
  obtain ⟨rfl, _, rfl⟩ := hv
  exact ⟨g, x, rfl, hB, lt_of_cell hc, hx, hc, h.frozenAt k⟩
theorem valP_iface (q : P3) : ∃ tu tx, valP q = .iface tu tx := by
  obtain ⟨k, n, t⟩ := q
  show ∃ tu tx, valOf k n t = _
  unfold valOf
  repeat' split
  all_goals exact ⟨_, _, rfl⟩
theorem wpList_append_val_at {w : World} {ops : Array Oper} {rest : List Oper} {o : Oper} {a : Act} {Q : Exit → Act → World → Prop} (hgd : o.guard = none) (s x : Operand)
    (ho : o.op = .call { callee := .builtin .append, args := #[s, x], argTypes := #[46, 46] })
    (base : Nat) (v : Value) (n : Nat) (xs : List Value) (hs : a.eval s = v) (hown : w.ownsRow base 27 1 v n xs)
    (b c : Nat) (u : Value) (hx : a.eval x = .slice (some ⟨b, 0, none⟩) 1 c) (hu : w.cell? ⟨b, 0, none⟩ = some u) (h1 : u.oneCell' = true)
    (h63 : n ≤ 1048677) (hbase : base ≤ w.heap.size)
    (h : ∀ v' w', w'.ownsRow base 27 1 v' (n + 1) (xs ++ [u]) → w.grownBy w' v.ownBlock → (v'.ownBlock = v.ownBlock ∨ v'.ownBlock = some w.heap.size) → wpList Tryd.prog ops Q rest (a.put o.dst v') w') : wpList Tryd.prog ops Q (o :: rest) a w := by
  obtain ⟨i, z, hi, hz, hz1, hz2, hz3⟩ := infoVal
  exact wpList_append_own_at _ hgd s x _ ho base 27 i z 1 16 Tryd.underlying46 hi hz hz1 hz2 hz3 (by decide) v n xs hs hown ⟨b, 0, none⟩ 1 c [u] hx rfl (by intro j y hj; cases j with | zero => (simp at hj; subst hj; exact hu) | succ j => simp at hj) (fun y hy => by rw [List.mem_singleton.1 hy]; exact h1) (by unfold maxLen; omega) (by omega) hbase (fun v' w' h1 h2 _ h4 => h v' w' h1 h2 h4)
/-- A slice that the call owns lies in no block of another's. -/
def Apart (v : Value) (g : Nat) (u : Value) : Prop := ∀ k, v.ownBlock = some k → k ≠ g ∧ ∀ k', u.ownBlock = some k' → k ≠ k'
end Go.Proofs.YtlmibpfikafbdaaDoor
