/- Rows of operations as they lie in memory. -/
import Derived.Test.YtplnojapnaaakaaGreatDoorPCc
import Derived.Maps.AppendAt
namespace Go.Proofs.YtplnojapnaaakaaGreatDoor
open Go Go.RowKit Go.Lib
set_option linter.unusedVariables false
/-- An operation as it lies in memory: its fields, its list as a slice. -/
abbrev OV : Type := Int × ByteArray × P3 × Int × Sl
abbrev ovC (d : OV) : Array Value := #[.int .i64 d.1, .string d.2.1, .int .i64 d.2.2.1.1, .int .i64 d.2.2.1.2.1, .string d.2.2.1.2.2, .int .i64 d.2.2.2.1, slV d.2.2.2.2]
abbrev ovV (d : OV) : Value := .agg (ovC d)
def cellsO : List OV → List Value
  | [] => []
  | d :: r => .int .i64 d.1 :: .string d.2.1 :: .int .i64 d.2.2.1.1 :: .int .i64 d.2.2.1.2.1 :: .string d.2.2.1.2.2 :: .int .i64 d.2.2.2.1 :: slV d.2.2.2.2 :: cellsO r
theorem cellsO_len : ∀ L : List OV, (cellsO L).length = L.length * 7
  | [] => rfl
  | q :: r => by simp [cellsO, cellsO_len r]; omega
theorem cellsO_append : ∀ L M : List OV, cellsO (L ++ M) = cellsO L ++ cellsO M
  | [], M => rfl
  | q :: r, M => by simp [cellsO, cellsO_append r M]
theorem cellsO_one : ∀ (L : List OV), ∀ u ∈ cellsO L, u.oneCell' = true
  | [], u, h => by cases h
  | q :: r, u, h => by
    simp only [cellsO, List.mem_cons] at h
    rcases h with rfl | rfl | rfl | rfl | rfl | rfl | rfl | h
    · rfl
    · rfl
    · rfl
    · rfl
    · rfl
    · rfl
    · rfl
    · exact cellsO_one r u h
theorem cellsO_get : ∀ (L : List OV) (i : Nat) (d : OV), L[i]? = some d → (cellsO L)[i * 7]? = some (.int .i64 d.1) ∧ (cellsO L)[i * 7 + 1]? = some (.string d.2.1) ∧ (cellsO L)[i * 7 + 2]? = some (.int .i64 d.2.2.1.1) ∧ (cellsO L)[i * 7 + 3]? = some (.int .i64 d.2.2.1.2.1) ∧ (cellsO L)[i * 7 + 4]? = some (.string d.2.2.1.2.2) ∧ (cellsO L)[i * 7 + 5]? = some (.int .i64 d.2.2.2.1) ∧ (cellsO L)[i * 7 + 6]? = some (slV d.2.2.2.2)
  | [], i, q, h => by simp at h
  | p :: r, 0, q, h => by
    obtain rfl : p = q := by simpa using h
    exact ⟨rfl, rfl, rfl, rfl, rfl, rfl, rfl⟩
  | p :: r, i + 1, q, h => by
    have := cellsO_get r i q (by simpa using h)
    rw [show (i + 1) * 7 = i * 7 + 1 + 1 + 1 + 1 + 1 + 1 + 1 by omega]
    simpa [cellsO] using this
/-- An operation at a place. -/
structure OpAt (w : World) (b off : Nat) (d : OV) : Prop where
  c0 : w.cell? ⟨b, off, none⟩ = some (.int .i64 d.1)
  c1 : w.cell? ⟨b, off + 1, none⟩ = some (.string d.2.1)
  c2 : w.cell? ⟨b, off + 2, none⟩ = some (.int .i64 d.2.2.1.1)
  c3 : w.cell? ⟨b, off + 3, none⟩ = some (.int .i64 d.2.2.1.2.1)
  c4 : w.cell? ⟨b, off + 4, none⟩ = some (.string d.2.2.1.2.2)
  c5 : w.cell? ⟨b, off + 5, none⟩ = some (.int .i64 d.2.2.2.1)
  c6 : w.cell? ⟨b, off + 6, none⟩ = some (slV d.2.2.2.2)
theorem OpAt.lt {w : World} {b off : Nat} {d : OV} (h : OpAt w b off d) : b < w.heap.size := lt_of_cell h.c0
theorem OpAt.same {w w' : World} {b off : Nat} {d : OV} (h : OpAt w b off d) (e : ∀ i, w'.cell? ⟨b, i, none⟩ = w.cell? ⟨b, i, none⟩) : OpAt w' b off d :=
  ⟨(e _).trans h.c0, (e _).trans h.c1, (e _).trans h.c2, (e _).trans h.c3, (e _).trans h.c4, (e _).trans h.c5, (e _).trans h.c6⟩
theorem OpAt.below {w w' : World} {b off : Nat} {d : OV} (h : OpAt w b off d) (hb : Below w.heap.size w w') : OpAt w' b off d := h.same fun i => World.cell?_of_block (a := ⟨b, i, none⟩) (hb.block b h.lt)
/-- A slice of operations, as it lies in memory. -/
def RowO (w : World) (v : Value) (D : List OV) : Prop :=
  ∃ p cap, v = .slice p D.length cap ∧ D.length ≤ cap ∧ (p = none → cap = 0) ∧ ∀ (j : Nat) (d : OV), D[j]? = some d → ∃ b off, p = some ⟨b, off, none⟩ ∧ OpAt w b (off + j * 7) d
theorem RowO.below {w w' : World} {v : Value} {D : List OV} (h : RowO w v D) (hb : Below w.heap.size w w') : RowO w' v D := by
  obtain ⟨p, cap, rfl, hl, hn, hc⟩ := h
  exact ⟨p, cap, rfl, hl, hn, fun j d hd => by obtain ⟨b, off, hp, h0⟩ := hc j d hd; exact ⟨b, off, hp, h0.below hb⟩⟩
theorem RowO.nil (w : World) : RowO w (.slice none 0 0) [] := ⟨none, 0, rfl, Nat.le_refl _, fun _ => rfl, fun j d h => by simp at h⟩
abbrev OwnO (w : World) (B : Nat) (v : Value) (D : List OV) : Prop := w.ownsRow B 33 7 v D.length (cellsO D)
theorem own_opAt {w : World} {B g n cap : Nat} {D : List OV} (h : w.ownsRow B 33 7 (.slice (some ⟨g, 0, none⟩) n cap) n (cellsO D)) (j : Nat) (d : OV) (hd : D[j]? = some d) : OpAt w g (0 + j * 7) d := by
  have hc := h.cells (g := g) rfl
  obtain ⟨k0, k1, k2, k3, k4, k5, k6⟩ := cellsO_get D j d hd
  rw [Nat.zero_add]
  have e := fun i u (hu : (cellsO D)[i]? = some u) => by have := hc i u hu; rw [Addr.add_lit, Nat.zero_add] at this; exact this
  exact ⟨e _ _ k0, e _ _ k1, e _ _ k2, e _ _ k3, e _ _ k4, e _ _ k5, e _ _ k6⟩
theorem own_rowO {w : World} {B : Nat} {v : Value} {D : List OV} (h : OwnO w B v D) : RowO w v D := by
  have hcc := h
  rcases h.2 with ⟨rfl, h0⟩ | ⟨g, cap, cur, rfl, h2, h3, h4, h5, h6, h7⟩
  · have : D = [] := List.eq_nil_of_length_eq_zero h0
    subst this
    exact RowO.nil w
  · exact ⟨some ⟨g, 0, none⟩, cap, rfl, h4, fun h => (by cases h), fun j d hd => ⟨g, 0, rfl, own_opAt hcc j d hd⟩⟩
theorem infoOp : ∃ i z, Tryz.prog.info? 33 = some i ∧ i.zero = some z ∧ i.size = 7 ∧ i.bytes = 88 ∧ z.cells.size = 7 := by
  obtain ⟨i, hi, h⟩ := Option.map_eq_some_iff.1 (show (Tryz.prog.info? 33).map (fun i => (i.zero, i.size, i.bytes)) = some (some (.agg #[.int .i64 0, .string ⟨#[]⟩, .int .i64 0, .int .i64 0, .string ⟨#[]⟩, .int .i64 0, .slice none 0 0]), 7, 88) by kernel_rfl)
  simp only [Prod.mk.injEq] at h
  exact ⟨i, _, hi, h.1, h.2.1, h.2.2, rfl⟩
/-- append(own, a row of operations), with where the new slice lies. -/
theorem wpList_append_ops {w : World} {ops : Array Oper} {rest : List Oper} {o : Oper} {a : Act} {Q : Exit → Act → World → Prop} (hgd : o.guard = none) (s x : Operand)
    (ho : o.op = .call { callee := .builtin .append, args := #[s, x], argTypes := #[26, 26] })
    (base : Nat) (v : Value) (L : List OV) (hs : a.eval s = v) (hown : OwnO w base v L)
    (b c : Nat) (d : OV) (hx : a.eval x = .slice (some ⟨b, 0, none⟩) 1 c) (hM : OpAt w b 0 d)
    (h63 : L.length ≤ 33554432) (hbase : base ≤ w.heap.size)
    (h : ∀ v' w', OwnO w' base v' (L ++ [d]) → w.grownBy w' v.ownBlock → (v'.ownBlock = v.ownBlock ∨ v'.ownBlock = some w.heap.size) → wpList Tryz.prog ops Q rest (a.put o.dst v') w') : wpList Tryz.prog ops Q (o :: rest) a w := by
  obtain ⟨i, z, hi, hz, hz1, hz2, hz3⟩ := infoOp
  refine wpList_append_own_at _ hgd s x _ ho base 33 i z 7 88 Tryz.underlying26 hi hz hz1 hz2 hz3 (by decide) v L.length (cellsO L) hs hown ⟨b, 0, none⟩ 1 c (cellsO [d]) hx (by rw [cellsO_len]; rfl) (fun j y hj => ?_) (cellsO_one _) (by unfold maxLen; omega) (by omega) hbase (fun v' w' h1 h2 _ h3 => ?_)
  · rw [Addr.add_lit, Nat.zero_add]
    have h0 := hM.c0
    have h1 := hM.c1
    have h2 := hM.c2
    have h3 := hM.c3
    have h4 := hM.c4
    have h5 := hM.c5
    have h6 := hM.c6
    simp only [Nat.zero_add] at h0 h1 h2 h3 h4 h5 h6
    match j, hj with
    | 0, hj => simp [cellsO] at hj; rw [← hj]; exact h0
    | 1, hj => simp [cellsO] at hj; rw [← hj]; exact h1
    | 2, hj => simp [cellsO] at hj; rw [← hj]; exact h2
    | 3, hj => simp [cellsO] at hj; rw [← hj]; exact h3
    | 4, hj => simp [cellsO] at hj; rw [← hj]; exact h4
    | 5, hj => simp [cellsO] at hj; rw [← hj]; exact h5
    | 6, hj => simp [cellsO] at hj; rw [← hj]; exact h6
    | j + 7, hj => simp [cellsO] at hj
  · refine h v' w' ?_ h2 ?_
    · show w'.ownsRow _ _ _ _ _ _
      rw [cellsO_append, List.length_append]
      exact h1
    · exact h3
theorem own_emptyO (w : World) (B : Nat) (hB : B ≤ w.heap.size) : OwnO (w.alloc (.cells #[] 33)) B (.slice (some ⟨w.heap.size, 0, none⟩) 0 0) [] :=
  ⟨rfl, Or.inr ⟨w.heap.size, 0, #[], rfl, hB, by show (w.heap.push _)[w.heap.size]? = _; simp, Nat.le_refl _, Nat.zero_le _, rfl, rfl⟩⟩
end Go.Proofs.YtplnojapnaaakaaGreatDoor
