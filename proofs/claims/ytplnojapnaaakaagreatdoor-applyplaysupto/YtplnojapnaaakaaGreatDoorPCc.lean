/- Rows of cells as they lie in memory. -/
import Derived.Test.YtplnojapnaaakaaGreatDoorPSw
import Derived.Laws.OwnMore
import Derived.Laws.AppendOwnNone
import Derived.OneCell
namespace Go.Proofs.YtplnojapnaaakaaGreatDoor
open Go Go.RowKit Go.Lib
set_option linter.unusedVariables false
abbrev Sl : Type := Option Addr × Nat × Nat
abbrev slV (s : Sl) : Value := .slice s.1 s.2.1 s.2.2
/-- A cell as it lies in memory: its fields, its list as a slice. -/
abbrev CV : Type := Int × ByteArray × P3 × Sl
/-- A cell as plain data. -/
abbrev C5 : Type := Int × ByteArray × P3 × List A2
abbrev ceV (d : CV) : Value := .agg #[.int .i32 d.1, .string d.2.1, .int .i64 d.2.2.1.1, .int .i64 d.2.2.1.2.1, .string d.2.2.1.2.2, slV d.2.2.2]
def cellsC : List CV → List Value
  | [] => []
  | d :: r => .int .i32 d.1 :: .string d.2.1 :: .int .i64 d.2.2.1.1 :: .int .i64 d.2.2.1.2.1 :: .string d.2.2.1.2.2 :: slV d.2.2.2 :: cellsC r
theorem cellsC_len : ∀ L : List CV, (cellsC L).length = L.length * 6
  | [] => rfl
  | q :: r => by simp [cellsC, cellsC_len r]; omega
theorem cellsC_append : ∀ L M : List CV, cellsC (L ++ M) = cellsC L ++ cellsC M
  | [], M => rfl
  | q :: r, M => by simp [cellsC, cellsC_append r M]
theorem cellsC_one : ∀ (L : List CV), ∀ u ∈ cellsC L, u.oneCell' = true
  | [], u, h => by cases h
  | q :: r, u, h => by
    simp only [cellsC, List.mem_cons] at h
    rcases h with rfl | rfl | rfl | rfl | rfl | rfl | h
    · rfl
    · rfl
    · rfl
    · rfl
    · rfl
    · rfl
    · exact cellsC_one r u h
theorem cellsC_get : ∀ (L : List CV) (i : Nat) (d : CV), L[i]? = some d → (cellsC L)[i * 6]? = some (.int .i32 d.1) ∧ (cellsC L)[i * 6 + 1]? = some (.string d.2.1) ∧ (cellsC L)[i * 6 + 2]? = some (.int .i64 d.2.2.1.1) ∧ (cellsC L)[i * 6 + 3]? = some (.int .i64 d.2.2.1.2.1) ∧ (cellsC L)[i * 6 + 4]? = some (.string d.2.2.1.2.2) ∧ (cellsC L)[i * 6 + 5]? = some (slV d.2.2.2)
  | [], i, q, h => by simp at h
  | p :: r, 0, q, h => by
    obtain rfl : p = q := by simpa using h
    exact ⟨rfl, rfl, rfl, rfl, rfl, rfl⟩
  | p :: r, i + 1, q, h => by
    have := cellsC_get r i q (by simpa using h)
    rw [show (i + 1) * 6 = i * 6 + 1 + 1 + 1 + 1 + 1 + 1 by omega]
    simpa [cellsC] using this
/-- Cells that lie in a row from a place on. -/
def InC (w : World) (b off : Nat) (D : List CV) : Prop := ∀ (j : Nat) (u : Value), (cellsC D)[j]? = some u → w.cell? ⟨b, off + j, none⟩ = some u
theorem InC.below {w w' : World} {b off : Nat} {D : List CV} (h : InC w b off D) (hb : Below w.heap.size w w') : InC w' b off D := fun j u hu => (hb.cell (lt_of_cell (h j u hu))).trans (h j u hu)
/-- A slice of cells, as it lies in memory. -/
def RowC (w : World) (v : Value) (D : List CV) : Prop :=
  ∃ p cap, v = .slice p D.length cap ∧ D.length ≤ cap ∧ (p = none → cap = 0) ∧ (D ≠ [] → ∃ b off, p = some ⟨b, off, none⟩ ∧ InC w b off D)
theorem RowC.below {w w' : World} {v : Value} {D : List CV} (h : RowC w v D) (hb : Below w.heap.size w w') : RowC w' v D := by
  obtain ⟨p, cap, rfl, hl, hn, hc⟩ := h
  exact ⟨p, cap, rfl, hl, hn, fun hD => by obtain ⟨b, off, hp, h0⟩ := hc hD; exact ⟨b, off, hp, h0.below hb⟩⟩
abbrev OwnC (w : World) (B : Nat) (v : Value) (D : List CV) : Prop := w.ownsRow B 175 6 v D.length (cellsC D)
theorem own_rowC {w : World} {B : Nat} {v : Value} {D : List CV} (h : OwnC w B v D) : RowC w v D := by
  have hcc := h
  rcases h.2 with ⟨rfl, h0⟩ | ⟨g, cap, cur, rfl, h2, h3, h4, h5, h6, h7⟩
  · have : D = [] := List.eq_nil_of_length_eq_zero h0
    subst this
    exact ⟨none, 0, rfl, Nat.le_refl _, fun _ => rfl, fun h => absurd rfl h⟩
  · refine ⟨some ⟨g, 0, none⟩, cap, rfl, h4, fun h => (by cases h), fun _ => ⟨g, 0, rfl, fun j u hu => ?_⟩⟩
    have := hcc.cells (g := g) rfl j u hu
    rwa [Addr.add_lit] at this
/-- Two lists, place by place. -/
inductive All2 {α β : Type} (R : α → β → Prop) : List α → List β → Prop
  | nil : All2 R [] []
  | cons {a : α} {b : β} {l : List α} {m : List β} (h : R a b) (t : All2 R l m) : All2 R (a :: l) (b :: m)
theorem All2.imp {α β : Type} {R S : α → β → Prop} (h : ∀ a b, R a b → S a b) : ∀ {l : List α} {m : List β}, All2 R l m → All2 S l m
  | _, _, .nil => .nil
  | _, _, .cons hr t => .cons (h _ _ hr) (All2.imp h t)
/-- What the cells of a row are, their lists read from memory. -/
def Are (w : World) (D : List CV) (E : List C5) : Prop := All2 (fun (d : CV) (e : C5) => d.1 = e.1 ∧ d.2.1 = e.2.1 ∧ d.2.2.1 = e.2.2.1 ∧ RN w (slV d.2.2.2) e.2.2.2) D E
/-- The same, each list the call's own. -/
def AreO (w : World) (B : Nat) (D : List CV) (E : List C5) : Prop := All2 (fun (d : CV) (e : C5) => d.1 = e.1 ∧ d.2.1 = e.2.1 ∧ d.2.2.1 = e.2.2.1 ∧ OwnA w B (slV d.2.2.2) e.2.2.2) D E
theorem AreO.are {w : World} {B : Nat} {D : List CV} {E : List C5} (h : AreO w B D E) : Are w D E := All2.imp (fun d e h => ⟨h.1, h.2.1, h.2.2.1, own_RN h.2.2.2⟩) h
theorem Are.below {w w' : World} {D : List CV} {E : List C5} (h : Are w D E) (hb : Below w.heap.size w w') : Are w' D E := All2.imp (fun d e h => ⟨h.1, h.2.1, h.2.2.1, h.2.2.2.below hb⟩) h
/-- All blocks of pairs are as they were. -/
def KeepA (w w' : World) : Prop := ∀ (k : Nat) (cur : Array Value), w.heap[k]? = some (.cells cur 154 (0, 0)) → w'.heap[k]? = w.heap[k]?
theorem KeepA.trans {w w' w'' : World} (h : KeepA w w') (h' : KeepA w' w'') : KeepA w w'' := fun k cur hk => (h' k cur ((h k cur hk).trans hk)).trans (h k cur hk)
theorem keepA_below {w w' : World} (hb : Below w.heap.size w w') : KeepA w w' := fun k cur hk => hb.block k (Array.getElem?_eq_some_iff.1 hk).1
theorem keepA_own {w w' : World} {B : Nat} {v : Value} {A : List A2} (h : OwnA w B v A) (hk : KeepA w w') : OwnA w' B v A := by
  obtain ⟨hl, h⟩ := h
  refine ⟨hl, ?_⟩
  rcases h with h | ⟨g, cap, cur, h1, h2, h3, h4⟩
  · exact Or.inl h
  · exact Or.inr ⟨g, cap, cur, h1, h2, (hk g cur h3).trans h3, h4⟩
theorem AreO.keep {w w' : World} {B : Nat} {D : List CV} {E : List C5} (h : AreO w B D E) (hk : KeepA w w') : AreO w' B D E := All2.imp (fun d e h => ⟨h.1, h.2.1, h.2.2.1, keepA_own h.2.2.2 hk⟩) h
theorem keepA_grown {w w' : World} {B : Nat} {v : Value} {D : List CV} (h : OwnC w B v D) (g : w.grownBy w' v.ownBlock) : KeepA w w' := fun k cur hk => by
  refine g.block k (Array.getElem?_eq_some_iff.1 hk).1 fun e => ?_
  rcases h.2 with ⟨rfl, _⟩ | ⟨b, cap, cur', rfl, _, h3, _⟩
  · cases e
  · simp only [Value.ownBlock, Option.some.injEq] at e
    subst e
    rw [h3] at hk
    simp only [Option.some.injEq, Obj.cells.injEq] at hk
    exact absurd hk.2.1 (by decide)
theorem forall2_append {α β : Type} {R : α → β → Prop} : ∀ {a c : List α} {b d : List β}, All2 R a b → All2 R c d → All2 R (a ++ c) (b ++ d)
  | _, _, _, _, .nil, h => h
  | _, _, _, _, .cons h t, h' => .cons h (forall2_append t h')
theorem forall2_len {α β : Type} {R : α → β → Prop} : ∀ {a : List α} {b : List β}, All2 R a b → a.length = b.length
  | _, _, .nil => rfl
  | _, _, .cons _ t => by simp [forall2_len t]
theorem forall2_get {α β : Type} {R : α → β → Prop} : ∀ {a : List α} {b : List β}, All2 R a b → ∀ (i : Nat) (x : α), a[i]? = some x → ∃ y, b[i]? = some y ∧ R x y
  | _, _, .nil, i, x, h => by simp at h
  | _, _, .cons hr t, 0, x, h => ⟨_, rfl, by simp at h; exact h ▸ hr⟩
  | _, _, .cons hr t, i + 1, x, h => by simpa using forall2_get t i x (by simpa using h)
theorem infoCe : ∃ i z, Tryz.prog.info? 175 = some i ∧ i.zero = some z ∧ i.size = 6 ∧ i.bytes = 80 ∧ z.cells.size = 6 := by
  obtain ⟨i, hi, h⟩ := Option.map_eq_some_iff.1 (show (Tryz.prog.info? 175).map (fun i => (i.zero, i.size, i.bytes)) = some (some (.agg #[.int .i32 0, .string ⟨#[]⟩, .int .i64 0, .int .i64 0, .string ⟨#[]⟩, .slice none 0 0]), 6, 80) by kernel_rfl)
  simp only [Prod.mk.injEq] at h
  exact ⟨i, _, hi, h.1, h.2.1, h.2.2, rfl⟩
/-- append(own, a row of cells). -/
theorem wpList_append_cells {w : World} {ops : Array Oper} {rest : List Oper} {o : Oper} {a : Act} {Q : Exit → Act → World → Prop} (hgd : o.guard = none) (s x : Operand)
    (ho : o.op = .call { callee := .builtin .append, args := #[s, x], argTypes := #[143, 143] })
    (base : Nat) (v : Value) (L : List CV) (hs : a.eval s = v) (hown : OwnC w base v L)
    (u : Value) (M : List CV) (hx : a.eval x = u) (hM : RowC w u M)
    (h63 : L.length + M.length ≤ 33554432) (hbase : base ≤ w.heap.size)
    (h : ∀ v' w', OwnC w' base v' (L ++ M) → w.grownBy w' v.ownBlock → wpList Tryz.prog ops Q rest (a.put o.dst v') w') : wpList Tryz.prog ops Q (o :: rest) a w := by
  obtain ⟨i, z, hi, hz, hz1, hz2, hz3⟩ := infoCe
  obtain ⟨p, cap, rfl, hcap, hnz, hc⟩ := hM
  cases p with
  | none =>
    obtain rfl : cap = 0 := hnz rfl
    obtain rfl : M = [] := List.eq_nil_of_length_eq_zero (by omega)
    exact wpList_append_own_none hgd s x 143 ho base 175 i 6 Tryz.underlying143 hi v L.length (cellsC L) hs hown hx (h v w (by simpa using hown) ⟨rfl, rfl, rfl, Nat.le_refl _, fun _ _ _ => rfl⟩)
  | some ad =>
    refine wpList_append_own _ hgd s x _ ho base 175 i z 6 80 Tryz.underlying143 hi hz hz1 hz2 hz3 (by decide) v L.length (cellsC L) hs hown ad M.length cap (cellsC M) hx (by rw [cellsC_len]) (fun j y hj => ?_) (cellsC_one _) (by unfold maxLen; omega) (by omega) hbase (fun v' w' h1 h2 _ => ?_)
    · obtain ⟨b, off, he, hin⟩ := hc (by intro e; rw [e] at hj; simp [cellsC] at hj)
      cases he
      rw [Addr.add_lit]
      exact hin j y hj
    · refine h v' w' ?_ h2
      show w'.ownsRow _ _ _ _ _ _
      rw [cellsC_append, List.length_append]
      exact h1
theorem own_emptyC (w : World) (B : Nat) (hB : B ≤ w.heap.size) : OwnC (w.alloc (.cells #[] 175)) B (.slice (some ⟨w.heap.size, 0, none⟩) 0 0) [] :=
  ⟨rfl, Or.inr ⟨w.heap.size, 0, #[], rfl, hB, by show (w.heap.push _)[w.heap.size]? = _; simp, Nat.le_refl _, Nat.zero_le _, rfl, rfl⟩⟩
end Go.Proofs.YtplnojapnaaakaaGreatDoor
