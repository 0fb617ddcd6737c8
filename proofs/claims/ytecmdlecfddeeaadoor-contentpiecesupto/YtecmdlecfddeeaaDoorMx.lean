/- Rows of operations as they lie in memory. The mark behind a list's end. What vellumspare.Copy makes: operations with spare room; what writing over them leaves. vellumspare.Spoil: writes over operations and their lists, and nothing else. A list of the call's own that is written over and grown: what that changes. vellumspare.Attrs: a copy with a mark behind its end. vellumspare.Copy: operations as new memory, with spare room. vellumref04.SameOps and vellumspare.Kept at operations that are the same. -/
import Derived.Test.YtecmdlecfddeeaaDoorCc
import Derived.Maps.AppendAt
import Derived.Test.YtecmdlecfddeeaaDoorPa
import Derived.ArgAppend
import Derived.Deep.RegionHeld3
import Derived.Deep.DeepCutAuto
import Derived.Test.YtecmdlecfddeeaaDoorSw

/- Rows of operations as they lie in memory. -/
namespace Go.Proofs.YtecmdlecfddeeaaDoor
open Go Go.RowKit Go.Lib
set_option linter.unusedVariables false

/-- An operation as it lies in memory: its fields, its list as a slice. -/
abbrev OV : Type := Int × ByteArray × P3 × Int × Sl
abbrev ovC (d : OV) : Array Value := #[.int .i64 d.1, .string d.2.1, .int .i64 d.2.2.1.1, .int .i64 d.2.2.1.2.1, .string d.2.2.1.2.2, .int .i64 d.2.2.2.1, slV d.2.2.2.2]
abbrev ovV (d : OV) : Value := .agg (ovC d)
def cellsO : List OV → List Value
  | [] => []
  | d :: r => .int .i64 d.1 :: .string d.2.1 :: .int .i64 d.2.2.1.1 :: .int .i64 d.2.2.1.2.1 :: .string d.2.2.1.2.2 :: .int .i64 d.2.2.2.1 :: slV d.2.2.2.2 :: cellsO r
theorem cellsO_len : ∀ L : List OV, (cellsO L).length = L.length * 7
  | [] => rfl
  | q :: r => by simp [cellsO, cellsO_len r]; omega
theorem cellsO_append : ∀ L M : List OV, cellsO (L ++ M) = cellsO L ++ cellsO M
  | [], M => rfl
  | q :: r, M => by simp [cellsO, cellsO_append r M]
theorem cellsO_one : ∀ (L : List OV), ∀ u ∈ cellsO L, u.oneCell' = true
  | [], u, h => by cases h
  | q :: r, u, h => by
    simp only [cellsO, List.mem_cons] at h
    rcases h with rfl | rfl | rfl | rfl | rfl | rfl | rfl | h
    · rfl
    · rfl
    · rfl
    · rfl
    · rfl
    · rfl
    · rfl
    · exact cellsO_one r u h
theorem cellsO_get : ∀ (L : List OV) (i : Nat) (d : OV), L[i]? = some d → (cellsO L)[i * 7]? = some (.int .i64 d.1) ∧ (cellsO L)[i * 7 + 1]? = some (.string d.2.1) ∧ (cellsO L)[i * 7 + 2]? = some (.int .i64 d.2.2.1.1) ∧ (cellsO L)[i * 7 + 3]? = some (.int .i64 d.2.2.1.2.1) ∧ (cellsO L)[i * 7 + 4]? = some (.string d.2.2.1.2.2) ∧ (cellsO L)[i * 7 + 5]? = some (.int .i64 d.2.2.2.1) ∧ (cellsO L)[i * 7 + 6]? = some (slV d.2.2.2.2)
  | [], i, q, h => by simp at h
  | p :: r, 0, q, h => by
    obtain rfl : p = q := by simpa using h
    exact ⟨rfl, rfl, rfl, rfl, rfl, rfl, rfl⟩
  | p :: r, i + 1, q, h => by
    have := cellsO_get r i q (by simpa using h)
    rw [show (i + 1) * 7 = i * 7 + 1 + 1 + 1 + 1 + 1 + 1 + 1 by omega]
    simpa [cellsO] using this
/-- An operation at a place. -/
structure OpAt (w : World) (b off : Nat) (d : OV) : Prop where
  c0 : w.cell? ⟨b, off, none⟩ = some (.int .i64 d.1)
  c1 : w.cell? ⟨b, off + 1, none⟩ = some (.string d.2.1)
  c2 : w.cell? ⟨b, off + 2, none⟩ = some (.int .i64 d.2.2.1.1)
  c3 : w.cell? ⟨b, off + 3, none⟩ = some (.int .i64 d.2.2.1.2.1)
  c4 : w.cell? ⟨b, off + 4, none⟩ = some (.string d.2.2.1.2.2)
  c5 : w.cell? ⟨b, off + 5, none⟩ = some (.int .i64 d.2.2.2.1)
  c6 : w.cell? ⟨b, off + 6, none⟩ = some (slV d.2.2.2.2)
theorem OpAt.lt {w : World} {b off : Nat} {d : OV} (h : OpAt w b off d) : b < w.heap.size := lt_of_cell h.c0
theorem OpAt.same {w w' : World} {b off : Nat} {d : OV} (h : OpAt w b off d) (e : ∀ i, w'.cell? ⟨b, i, none⟩ = w.cell? ⟨b, i, none⟩) : OpAt w' b off d :=
  ⟨(e _).trans h.c0, (e _).trans h.c1, (e _).trans h.c2, (e _).trans h.c3, (e _).trans h.c4, (e _).trans h.c5, (e _).trans h.c6⟩
theorem OpAt.below {w w' : World} {b off : Nat} {d : OV} (h : OpAt w b off d) (hb : Below w.heap.size w w') : OpAt w' b off d := h.same fun i => World.cell?_of_block (a := ⟨b, i, none⟩) (hb.block b h.lt)
/-- A slice of operations, as it lies in memory. -/
def RowO (w : World) (v : Value) (D : List OV) : Prop :=
  ∃ p cap, v = .slice p D.length cap ∧ D.length ≤ cap ∧ (p = none → cap = 0) ∧ ∀ (j : Nat) (d : OV), D[j]? = some d → ∃ b off, p = some ⟨b, off, none⟩ ∧ OpAt w b (off + j * 7) d
theorem RowO.below {w w' : World} {v : Value} {D : List OV} (h : RowO w v D) (hb : Below w.heap.size w w') : RowO w' v D := by
  obtain ⟨p, cap, rfl, hl, hn, hc⟩ := h
  exact ⟨p, cap, rfl, hl, hn, fun j d hd => by obtain ⟨b, off, hp, h0⟩ := hc j d hd; exact ⟨b, off, hp, h0.below hb⟩⟩
theorem RowO.nil (w : World) : RowO w (.slice none 0 0) [] := ⟨none, 0, rfl, Nat.le_refl _, fun _ => rfl, fun j d h => by simp at h⟩
abbrev OwnO (w : World) (B : Nat) (v : Value) (D : List OV) : Prop := w.ownsRow B 26 7 v D.length (cellsO D)
theorem own_opAt {w : World} {B g n cap : Nat} {D : List OV} (h : w.ownsRow B 26 7 (.slice (some ⟨g, 0, none⟩) n cap) n (cellsO D)) (j : Nat) (d : OV) (hd : D[j]? = some d) : OpAt w g (0 + j * 7) d := by
  have hc := h.cells (g := g) rfl
  obtain ⟨k0, k1, k2, k3, k4, k5, k6⟩ := cellsO_get D j d hd
  rw [Nat.zero_add]
  have e := fun i u (hu : (cellsO D)[i]? = some u) => by have := hc i u hu; rw [Addr.add_lit, Nat.zero_add] at this; exact this
  exact ⟨e _ _ k0, e _ _ k1, e _ _ k2, e _ _ k3, e _ _ k4, e _ _ k5, e _ _ k6⟩
theorem own_rowO {w : World} {B : Nat} {v : Value} {D : List OV} (h : OwnO w B v D) : RowO w v D := by
  have hcc := h
  rcases h.2 with ⟨rfl, h0⟩ | ⟨g, cap, cur, rfl, h2, h3, h4, h5, h6, h7⟩
  · have : D = [] := List.eq_nil_of_length_eq_zero h0
    subst this
    exact RowO.nil w
  · exact ⟨some ⟨g, 0, none⟩, cap, rfl, h4, fun h => (by cases h), fun j d hd => ⟨g, 0, rfl, own_opAt hcc j d hd⟩⟩
theorem infoOp : ∃ i z, Tryd.prog.info? 26 = some i ∧ i.zero = some z ∧ i.size = 7 ∧ i.bytes = 88 ∧ z.cells.size = 7 := by
  obtain ⟨i, hi, h⟩ := Option.map_eq_some_iff.1 (show (Tryd.prog.info? 26).map (fun i => (i.zero, i.size, i.bytes)) = some (some (.agg #[.int .i64 0, .string ⟨#[]⟩, .int .i64 0, .int .i64 0, .string ⟨#[]⟩, .int .i64 0, .slice none 0 0]), 7, 88) by kernel_rfl)
  simp only [Prod.mk.injEq] at h
  exact ⟨i, _, hi, h.1, h.2.1, h.2.2, rfl⟩
/-- append(own, a row of operations), with where the new slice lies. -/
theorem wpList_append_ops {w : World} {ops : Array Oper} {rest : List Oper} {o : Oper} {a : Act} {Q : Exit → Act → World → Prop} (hgd : o.guard = none) (s x : Operand)
    (ho : o.op = .call { callee := .builtin .append, args := #[s, x], argTypes := #[29, 29] })
    (base : Nat) (v : Value) (L : List OV) (hs : a.eval s = v) (hown : OwnO w base v L)
    (b c : Nat) (d : OV) (hx : a.eval x = .slice (some ⟨b, 0, none⟩) 1 c) (hM : OpAt w b 0 d)
    (h63 : L.length ≤ 33554432) (hbase : base ≤ w.heap.size)
    (h : ∀ v' w', OwnO w' base v' (L ++ [d]) → w.grownBy w' v.ownBlock → (v'.ownBlock = v.ownBlock ∨ v'.ownBlock = some w.heap.size) → wpList Tryd.prog ops Q rest (a.put o.dst v') w') : wpList Tryd.prog ops Q (o :: rest) a w := by
  obtain ⟨i, z, hi, hz, hz1, hz2, hz3⟩ := infoOp
  refine wpList_append_own_at _ hgd s x _ ho base 26 i z 7 88 Tryd.underlying29 hi hz hz1 hz2 hz3 (by decide) v L.length (cellsO L) hs hown ⟨b, 0, none⟩ 1 c (cellsO [d]) hx (by rw [cellsO_len]; rfl) (fun j y hj => ?_) (cellsO_one _) (by unfold maxLen; omega) (by omega) hbase (fun v' w' h1 h2 _ h3 => ?_)
  · rw [Addr.add_lit, Nat.zero_add]
    have h0 := hM.c0
    have h1 := hM.c1
    have h2 := hM.c2
    have h3 := hM.c3
    have h4 := hM.c4
    have h5 := hM.c5
    have h6 := hM.c6
    simp only [Nat.zero_add] at h0 h1 h2 h3 h4 h5 h6
    match j, hj with
    | 0, hj => simp [cellsO] at hj; rw [← hj]; exact h0
    | 1, hj => simp [cellsO] at hj; rw [← hj]; exact h1
    | 2, hj => simp [cellsO] at hj; rw [← hj]; exact h2
    | 3, hj => simp [cellsO] at hj; rw [← hj]; exact h3
    | 4, hj => simp [cellsO] at hj; rw [← hj]; exact h4
    | 5, hj => simp [cellsO] at hj; rw [← hj]; exact h5
    | 6, hj => simp [cellsO] at hj; rw [← hj]; exact h6
    | j + 7, hj => simp [cellsO] at hj
  · refine h v' w' ?_ h2 ?_
    · show w'.ownsRow _ _ _ _ _ _
      rw [cellsO_append, List.length_append]
      exact h1
    · exact h3
theorem own_emptyO (w : World) (B : Nat) (hB : B ≤ w.heap.size) : OwnO (w.alloc (.cells #[] 26)) B (.slice (some ⟨w.heap.size, 0, none⟩) 0 0) [] :=
  ⟨rfl, Or.inr ⟨w.heap.size, 0, #[], rfl, hB, by show (w.heap.push _)[w.heap.size]? = _; simp, Nat.le_refl _, Nat.zero_le _, rfl, rfl⟩⟩
end Go.Proofs.YtecmdlecfddeeaaDoor

/- The mark behind a list's end. -/
namespace Go.Proofs.YtecmdlecfddeeaaDoor
abbrev s1 : A2 := (⟨#[115, 112, 97, 114, 101]⟩, 0, 0, ⟨#[]⟩)
end Go.Proofs.YtecmdlecfddeeaaDoor

/- What vellumspare.Copy makes: operations with spare room; what writing over them leaves. -/
namespace Go.Proofs.YtecmdlecfddeeaaDoor
open Go Go.RowKit Go.Lib
set_option linter.unusedVariables false

/-- But for the blocks between two marks the memory stands, and all blocks keep their shape. -/
structure Out (lo hi : Nat) (w w' : World) : Prop where
  os : w'.os = w.os
  tape : w'.tape = w.tape
  output : w'.output = w.output
  size : w.heap.size ≤ w'.heap.size
  block : ∀ k, k < w.heap.size → (k < lo ∨ hi ≤ k) → w'.heap[k]? = w.heap[k]?
  shape : ∀ (k : Nat) (cur : Array Value) (e : TypeId) (fz : Nat × Nat), w.heap[k]? = some (.cells cur e fz) → k < hi → ∃ cur' : Array Value, w'.heap[k]? = some (.cells cur' e fz) ∧ cur'.size = cur.size
theorem Out.refl (lo hi : Nat) (w : World) : Out lo hi w w := ⟨rfl, rfl, rfl, Nat.le_refl _, fun _ _ _ => rfl, fun k cur e fz h _ => ⟨cur, h, rfl⟩⟩
theorem Out.trans {lo hi : Nat} {a b c : World} (h : Out lo hi a b) (k : Out lo hi b c) : Out lo hi a c :=
  ⟨k.os.trans h.os, k.tape.trans h.tape, k.output.trans h.output, Nat.le_trans h.size k.size, fun i hi ho => (k.block i (Nat.lt_of_lt_of_le hi h.size) ho).trans (h.block i hi ho), fun i cur e fz hc hi => by
    obtain ⟨c1, h1, s1⟩ := h.shape i cur e fz hc hi
    obtain ⟨c2, h2, s2⟩ := k.shape i c1 e fz h1 hi
    exact ⟨c2, h2, s2.trans s1⟩⟩
theorem Out.of_below {lo hi : Nat} {w w' : World} (h : Below w.heap.size w w') : Out lo hi w w' :=
  ⟨h.os, h.tape, h.output, h.size, fun k hk _ => h.block k hk, fun k cur e fz hc _ => ⟨cur, (h.block k (Array.getElem?_eq_some_iff.1 hc).1).trans hc, rfl⟩⟩
theorem Out.drew {lo hi : Nat} {w w' : World} (h : Out lo hi w w') : Out lo hi w w'.drew := ⟨h.os, h.tape, h.output, h.size, h.block, h.shape⟩
theorem heap_set_at (w : World) (g j : Nat) (u : Value) (cur : Array Value) (e : TypeId) (f : Nat × Nat) (h : w.heap[g]? = some (.cells cur e f)) : (w.setCell ⟨g, j, none⟩ u).heap[g]? = some (.cells (cur.setIfInBounds j u) e f) := by
  simp [World.setCell, Array.getElem?_modify, h]
theorem Out.setCell {lo hi : Nat} {w w' : World} (h : Out lo hi w w') (g j : Nat) (u : Value) (h1 : lo ≤ g) (h2 : g < hi) : Out lo hi w (w'.setCell ⟨g, j, none⟩ u) := by
  refine h.trans ⟨rfl, rfl, rfl, by simp, fun k hk ho => Below.heap_setCell _ _ _ _ (by show k ≠ g; omega), fun k cur e fz hc _ => ?_⟩
  by_cases hg : k = g
  · subst hg
    exact ⟨_, heap_set_at _ _ _ _ _ _ _ hc, by simp⟩
  · exact ⟨cur, (Below.heap_setCell _ _ _ _ hg).trans hc, rfl⟩
theorem Out.below {lo hi : Nat} {w w' : World} (h : Out lo hi w w') (hl : lo ≤ w.heap.size) : Below lo w w' := ⟨h.os, h.tape, h.output, h.size, fun k hk => h.block k (by omega) (Or.inl hk)⟩
theorem Out.own {lo hi B : Nat} {w w' : World} (h : Out lo hi w w') (hB : hi ≤ B) {e : TypeId} {sz n : Nat} {v : Value} {xs : List Value} (o : w.ownsRow B e sz v n xs) : w'.ownsRow B e sz v n xs :=
  owns_same o fun k hk => by
    obtain ⟨h1, cur, h2⟩ := owns_block o k hk
    exact h.block k (Array.getElem?_eq_some_iff.1 h2).1 (Or.inr (by omega))

/-- A list with a mark behind its end, in blocks between two marks. -/
def SpA (w : World) (lo hi : Nat) (s : Sl) (A : List A2) : Prop :=
  (A = [] ∧ s = (none, 0, 0)) ∨ ∃ g c, A ≠ [] ∧ s = (some ⟨g, 0, none⟩, A.length, c) ∧ lo ≤ g ∧ g < hi ∧ A.length ≤ c ∧ OwnA w lo (.slice (some ⟨g, 0, none⟩) (A ++ [s1]).length c) (A ++ [s1])
theorem SpA.below {w w' : World} {lo hi hi' : Nat} {s : Sl} {A : List A2} (h : SpA w lo hi s A) (b : Below w.heap.size w w') (hh : hi ≤ hi') : SpA w' lo hi' s A := by
  rcases h with h | ⟨g, c, h1, h2, h3, h4, h5, h6⟩
  · exact Or.inl h
  · exact Or.inr ⟨g, c, h1, h2, h3, by omega, h5, owns_below h6 b⟩
theorem SpA.keep {w w' : World} {lo hi hi' : Nat} {s : Sl} {A : List A2} (h : SpA w lo hi s A) (b : KeepA w w') (hh : hi ≤ hi') : SpA w' lo hi' s A := by
  rcases h with h | ⟨g, c, h1, h2, h3, h4, h5, h6⟩
  · exact Or.inl h
  · exact Or.inr ⟨g, c, h1, h2, h3, by omega, h5, keepA_own h6 b⟩
theorem SpA.RN {w : World} {lo hi : Nat} {s : Sl} {A : List A2} (h : SpA w lo hi s A) : RN w (slV s) A := by
  rcases h with ⟨rfl, rfl⟩ | ⟨g, c, h1, rfl, h3, h4, h5, h6⟩
  · exact RN.nil w
  · obtain ⟨p, c', he, hc, hr⟩ := own_rowA h6
    simp only [Value.slice.injEq] at he
    obtain ⟨rfl, -, rfl⟩ := he
    refine ⟨⟨_, _, rfl, by simp at hc; omega, fun j x hx => hr j x ?_⟩, fun m c h => by simp at h⟩
    rw [List.getElem?_append_left (List.getElem?_eq_some_iff.1 hx).1]; exact hx
theorem SpA.upto {w w' : World} {lo hi hi' : Nat} {s : Sl} {A : List A2} (h : SpA w lo hi s A) (b : Below hi w w') (hh : hi ≤ hi') : SpA w' lo hi' s A := by
  rcases h with h | ⟨g, c, h1, h2, h3, h4, h5, h6⟩
  · exact Or.inl h
  · exact Or.inr ⟨g, c, h1, h2, h3, by omega, h5, owns_same h6 fun k hk => b.block k (by simp only [Value.ownBlock, Option.some.injEq] at hk; omega)⟩
theorem SpA.setBelow {w : World} {lo hi : Nat} {s : Sl} {A : List A2} (h : SpA w lo hi s A) {g : Nat} (hg : g < lo) (j : Nat) (u : Value) : SpA (w.setCell ⟨g, j, none⟩ u) lo hi s A := by
  rcases h with h | ⟨g', c, h1, h2, h3, h4, h5, h6⟩
  · exact Or.inl h
  · exact Or.inr ⟨g', c, h1, h2, h3, h4, h5, ownsRow_setCell_below h6 (a := ⟨g, j, none⟩) hg u⟩
theorem SpA.lower {w : World} {lo lo' hi : Nat} {s : Sl} {A : List A2} (h : SpA w lo hi s A) (hh : lo' ≤ lo) : SpA w lo' hi s A := by
  rcases h with h | ⟨g', c, h1, h2, h3, h4, h5, h6⟩
  · exact Or.inl h
  · exact Or.inr ⟨g', c, h1, h2, by omega, h4, h5, own_weaken h6 hh⟩
abbrev d77 : OV := (77, ⟨#[]⟩, z0, 0, (none, 0, 0))
/-- What an operation in memory is, its list with spare room. -/
def SpD (w : World) (lo hi : Nat) (D : List OV) (E : List Op5) : Prop := All2 (fun (d : OV) (e : Op5) => d.1 = e.k ∧ d.2.1 = e.t ∧ d.2.2.1 = e.v ∧ d.2.2.2.1 = e.c ∧ SpA w lo hi d.2.2.2.2 e.A) D E
/-- What operations in memory are. -/
def ReD (w : World) (D : List OV) (E : List Op5) : Prop := All2 (fun (d : OV) (e : Op5) => d.1 = e.k ∧ d.2.1 = e.t ∧ d.2.2.1 = e.v ∧ d.2.2.2.1 = e.c ∧ RN w (slV d.2.2.2.2) e.A) D E
theorem SpD.below {w w' : World} {lo hi hi' : Nat} {D : List OV} {E : List Op5} (h : SpD w lo hi D E) (b : Below w.heap.size w w') (hh : hi ≤ hi') : SpD w' lo hi' D E := All2.imp (fun d e h => ⟨h.1, h.2.1, h.2.2.1, h.2.2.2.1, h.2.2.2.2.below b hh⟩) h
theorem SpD.keep {w w' : World} {lo hi hi' : Nat} {D : List OV} {E : List Op5} (h : SpD w lo hi D E) (b : KeepA w w') (hh : hi ≤ hi') : SpD w' lo hi' D E := All2.imp (fun d e h => ⟨h.1, h.2.1, h.2.2.1, h.2.2.2.1, h.2.2.2.2.keep b hh⟩) h
theorem SpD.upto {w w' : World} {lo hi hi' : Nat} {D : List OV} {E : List Op5} (h : SpD w lo hi D E) (b : Below hi w w') (hh : hi ≤ hi') : SpD w' lo hi' D E := All2.imp (fun d e h => ⟨h.1, h.2.1, h.2.2.1, h.2.2.2.1, h.2.2.2.2.upto b hh⟩) h
theorem SpD.re {w : World} {lo hi : Nat} {D : List OV} {E : List Op5} (h : SpD w lo hi D E) : ReD w D E := All2.imp (fun d e h => ⟨h.1, h.2.1, h.2.2.1, h.2.2.2.1, h.2.2.2.2.RN⟩) h
theorem ReD.below {w w' : World} {D : List OV} {E : List Op5} (h : ReD w D E) (b : Below w.heap.size w w') : ReD w' D E := All2.imp (fun d e h => ⟨h.1, h.2.1, h.2.2.1, h.2.2.2.1, h.2.2.2.2.below b⟩) h
/-- Operations with spare room behind them, the call's own. -/
def SpO (w : World) (lo hi : Nat) (v : Value) (E : List Op5) : Prop :=
  ∃ g c D, v = .slice (some ⟨g, 0, none⟩) E.length c ∧ lo ≤ g ∧ g < hi ∧ D.length = E.length ∧ OwnO w lo (.slice (some ⟨g, 0, none⟩) (D ++ [d77]).length c) (D ++ [d77]) ∧ SpD w lo hi D E
theorem SpO.below {w w' : World} {lo hi : Nat} {v : Value} {E : List Op5} (h : SpO w lo hi v E) (b : Below w.heap.size w w') : SpO w' lo hi v E := by
  obtain ⟨g, c, D, h1, h2, h3, h4, h5, h6⟩ := h
  exact ⟨g, c, D, h1, h2, h3, h4, owns_below h5 b, h6.below b (Nat.le_refl _)⟩
/-- A row of operations to read. -/
def ReO (w : World) (v : Value) (E : List Op5) : Prop := ∃ D, RowO w v D ∧ ReD w D E
theorem ReO.below {w w' : World} {v : Value} {E : List Op5} (h : ReO w v E) (b : Below w.heap.size w w') : ReO w' v E := by
  obtain ⟨D, h1, h2⟩ := h
  exact ⟨D, h1.below b, h2.below b⟩
theorem SpO.re {w : World} {lo hi : Nat} {v : Value} {E : List Op5} (h : SpO w lo hi v E) : ReO w v E := by
  obtain ⟨g, c, D, rfl, h2, h3, h4, h5, h6⟩ := h
  refine ⟨D, ?_, h6.re⟩
  obtain ⟨p, c', he, hc, hn, hr⟩ := own_rowO h5
  simp only [Value.slice.injEq] at he
  obtain ⟨rfl, -, rfl⟩ := he
  refine ⟨_, _, by rw [h4], by simp at hc; omega, hn, fun j x hx => hr j x ?_⟩
  rw [List.getElem?_append_left (List.getElem?_eq_some_iff.1 hx).1]; exact hx
theorem keepA_grownO {w w' : World} {B : Nat} {v : Value} {D : List OV} (h : OwnO w B v D) (g : w.grownBy w' v.ownBlock) : KeepA w w' := fun k cur hk => by
  refine g.block k (Array.getElem?_eq_some_iff.1 hk).1 fun e => ?_
  rcases h.2 with ⟨rfl, _⟩ | ⟨b, cap, cur', rfl, _, h3, _⟩
  · cases e
  · simp only [Value.ownBlock, Option.some.injEq] at e
    subst e
    rw [h3] at hk
    simp only [Option.some.injEq, Obj.cells.injEq] at hk
    exact absurd hk.2.1 (by decide)
end Go.Proofs.YtecmdlecfddeeaaDoor

/- vellumspare.Spoil: writes over operations and their lists, and nothing else. -/
namespace Go.Proofs.YtecmdlecfddeeaaDoor
open Go Go.RowKit Go.Lib
set_option linter.unusedVariables false

theorem cell_at {w : World} {g : Nat} {cur : Array Value} {e : TypeId} (h : w.heap[g]? = some (.cells cur e (0, 0))) (j : Nat) (hj : j < cur.size) : ∃ u, w.cell? ⟨g, j, none⟩ = some u :=
  ⟨cur[j], by simp [World.cell?, h, hj]⟩
theorem out_set4 {lo hi : Nat} {w W : World} (h : Out lo hi w W) {g : Nat} (h1 : lo ≤ g) (h2 : g < hi) (a b c d : Nat) (u0 u1 u2 u3 : Value) :
    Out lo hi w ((((W.setCell ⟨g, a, none⟩ u0).setCell ⟨g, b, none⟩ u1).setCell ⟨g, c, none⟩ u2).setCell ⟨g, d, none⟩ u3) :=
  (((h.setCell g a u0 h1 h2).setCell g b u1 h1 h2).setCell g c u2 h1 h2).setCell g d u3 h1 h2
theorem set4_other (W : World) {g k : Nat} (hk : k ≠ g) (a b c d i : Nat) (u0 u1 u2 u3 : Value) :
    ((((W.setCell ⟨g, a, none⟩ u0).setCell ⟨g, b, none⟩ u1).setCell ⟨g, c, none⟩ u2).setCell ⟨g, d, none⟩ u3).cell? ⟨k, i, none⟩ = W.cell? ⟨k, i, none⟩ := by
  refine World.cell?_of_block (a := ⟨k, i, none⟩) ?_
  have h : ∀ (W : World) (j : Nat) (v : Value), (W.setCell ⟨g, j, none⟩ v).heap[k]? = W.heap[k]? := fun W j v => Below.heap_setCell _ _ _ _ hk
  rw [h, h, h, h]

theorem out_set7 {lo hi : Nat} {w W : World} (h : Out lo hi w W) {g : Nat} (h1 : lo ≤ g) (h2 : g < hi) (o : Nat) (u0 u1 u2 u3 u4 u5 u6 : Value) :
    Out lo hi w (((((((W.setCell ⟨g, o, none⟩ u0).setCell ⟨g, o + 1, none⟩ u1).setCell ⟨g, o + 2, none⟩ u2).setCell ⟨g, o + 3, none⟩ u3).setCell ⟨g, o + 4, none⟩ u4).setCell ⟨g, o + 5, none⟩ u5).setCell ⟨g, o + 6, none⟩ u6) :=
  ((((((h.setCell g _ u0 h1 h2).setCell g _ u1 h1 h2).setCell g _ u2 h1 h2).setCell g _ u3 h1 h2).setCell g _ u4 h1 h2).setCell g _ u5 h1 h2).setCell g _ u6 h1 h2
theorem set7_far (W : World) {g o i : Nat} (hi : o + 7 ≤ i) (u0 u1 u2 u3 u4 u5 u6 : Value) :
    (((((((W.setCell ⟨g, o, none⟩ u0).setCell ⟨g, o + 1, none⟩ u1).setCell ⟨g, o + 2, none⟩ u2).setCell ⟨g, o + 3, none⟩ u3).setCell ⟨g, o + 4, none⟩ u4).setCell ⟨g, o + 5, none⟩ u5).setCell ⟨g, o + 6, none⟩ u6).cell? ⟨g, i, none⟩ = W.cell? ⟨g, i, none⟩ := by
  have h : ∀ (W : World) (j : Nat) (v : Value), j < i → (W.setCell ⟨g, j, none⟩ v).cell? ⟨g, i, none⟩ = W.cell? ⟨g, i, none⟩ := fun W j v hj => World.cell?_setCell_other _ _ _ _ (fun e => by cases e; omega)
  rw [h _ _ _ (by omega), h _ _ _ (by omega), h _ _ _ (by omega), h _ _ _ (by omega), h _ _ _ (by omega), h _ _ _ (by omega), h _ _ _ (by omega)]
theorem OpAt.far (W : World) {g o j : Nat} {d : OV} (h : OpAt W g j d) (hi : o + 7 ≤ j) (u0 u1 u2 u3 u4 u5 u6 : Value) :
    OpAt (((((((W.setCell ⟨g, o, none⟩ u0).setCell ⟨g, o + 1, none⟩ u1).setCell ⟨g, o + 2, none⟩ u2).setCell ⟨g, o + 3, none⟩ u3).setCell ⟨g, o + 4, none⟩ u4).setCell ⟨g, o + 5, none⟩ u5).setCell ⟨g, o + 6, none⟩ u6) g j d :=
  ⟨(set7_far W (by omega) ..).trans h.c0, (set7_far W (by omega) ..).trans h.c1, (set7_far W (by omega) ..).trans h.c2, (set7_far W (by omega) ..).trans h.c3, (set7_far W (by omega) ..).trans h.c4, (set7_far W (by omega) ..).trans h.c5, (set7_far W (by omega) ..).trans h.c6⟩

set_option maxHeartbeats 2000000 in
set_option maxRecDepth 100000 in
theorem spoil_any (v : Value) (E : List Op5) (lo hi : Nat) (w : World) (h : SpO w lo hi v E) (hl : E.length ≤ 1048576) (hA : ∀ e ∈ E, e.A.length ≤ 1048576) :
    Calls Tryd.prog 22 #[v] w fun r w' => r = .returned (.tuple #[]) ∧ Out lo hi w w' := by
  obtain ⟨g, cap, D, rfl, hlo, hhi, hDE, hown, hsp⟩ := h
  obtain ⟨n, hn⟩ : ∃ n, E.length = n := ⟨_, rfl⟩
  have HB : Hid (∃ cur, w.heap[g]? = some (.cells cur 26 (0, 0)) ∧ n * 7 + 7 ≤ cur.size) := by
    rcases hown.2 with ⟨h1, h2⟩ | ⟨g', cap', cur, h1, h2, h3, h4, h5, h6, h7⟩
    · simp at h2
    · simp only [Value.slice.injEq, Option.some.injEq, Addr.mk.injEq, and_true, true_and] at h1
      obtain ⟨rfl, -, rfl⟩ := h1
      refine ⟨cur, h3, ?_⟩
      have : (D ++ [d77]).length = n + 1 := by simp [hDE, hn]
      rw [this] at h4
      rw [h6]
      omega
  have HO : Hid (∀ j d, D[j]? = some d → OpAt w g (0 + j * 7) d) := fun j d hd => own_opAt hown j d (by rw [List.getElem?_append_left (List.getElem?_eq_some_iff.1 hd).1]; exact hd)
  have HS : Hid (SpD w lo hi D E) := hsp
  have HL : Hid (D.length = n ∧ E.length = n ∧ ∀ e ∈ E, e.A.length ≤ 1048576) := ⟨by rw [hDE, hn], hn, hA⟩
  have hcI : n ≤ cap := by
    rcases hown.2 with ⟨h1, h2⟩ | ⟨g', cap', cur, h1, h2, h3, h4, h5, h6, h7⟩
    · simp at h2
    · simp only [Value.slice.injEq, Option.some.injEq, Addr.mk.injEq, and_true, true_and] at h1
      obtain ⟨rfl, -, rfl⟩ := h1
      have : (D ++ [d77]).length = n + 1 := by simp [hDE, hn]
      omega
  rw [hn] at hl ⊢
  clear hDE hn hown hsp hA
  go_enter Tryd.func22, Tryd.ntmps22
  go_wp2
  go_loopw [2, 3, 6] (fun _ _ i wr => ∃ (k : Nat), k ≤ n ∧ i = .int .i64 k ∧ Out lo hi w wr ∧ Hid (∀ j d, k ≤ j → D[j]? = some d → OpAt wr g (0 + j * 7) d)) (fun _ _ i _ => n - (RowKit.intOf i).toNat)
  case atStart => exact ⟨0, Nat.zero_le _, rfl, Out.refl _ _ _, fun j d _ hd => HO.out j d hd⟩
  case round =>
    obtain ⟨k, hk, rfl, ho, H⟩ := hrel
    by_cases hlt : k < n
    · have hltI : (k : Int) < n := by omega
      obtain ⟨d, hd⟩ : ∃ d, D[k]? = some d := ⟨_, List.getElem?_eq_getElem (by rw [HL.out.1]; exact hlt)⟩
      obtain ⟨e, he, hr⟩ := forall2_get HS.out k d hd
      obtain ⟨c0, c1, c2, c3, c4, c5, c6⟩ := H.out k d (Nat.le_refl _) hd
      obtain ⟨m, hm⟩ : ∃ m, e.A.length = m := ⟨_, rfl⟩
      have hml : m ≤ 1048576 := by rw [← hm]; exact HL.out.2.2 e (List.mem_of_getElem? he)
      rw [Nat.zero_add] at c0 c1 c2 c3 c4 c5 c6
      obtain ⟨pa, ca, hpa⟩ : ∃ pa ca, d.2.2.2.2 = (pa, m, ca) := by
        rcases hr.2.2.2.2 with ⟨h1, h2⟩ | ⟨ga, cc, h1, h2, _⟩
        · exact ⟨none, 0, by rw [h2, ← hm, h1]; rfl⟩
        · exact ⟨_, _, by rw [h2, hm]⟩
      have HA : Hid (0 < m → ∃ ga, pa = some ⟨ga, 0, none⟩ ∧ lo ≤ ga ∧ ga < hi ∧ ga ≠ g ∧ ∀ W, Out lo hi w W → ∀ i, i < m * 4 → (∃ u, W.cell? ⟨ga, i, none⟩ = some u) ∧ W.frozen? ⟨ga, i, none⟩ = false) := fun h0 => by
        rcases hr.2.2.2.2 with ⟨h1, h2⟩ | ⟨ga, cc, h1, h2, h3, h4, h5, h6⟩
        · rw [h1] at hm; simp at hm; omega
        · rw [hpa] at h2
          simp only [Prod.mk.injEq] at h2
          obtain ⟨rfl, -, rfl⟩ := h2
          rcases h6.2 with ⟨h7, h8⟩ | ⟨g', cap', cur, h7, h8, h9, h10, h11, h12, h13⟩
          · simp at h8
          · simp only [Value.slice.injEq, Option.some.injEq, Addr.mk.injEq, and_true, true_and] at h7
            obtain ⟨rfl, -, rfl⟩ := h7
            refine ⟨ga, rfl, h3, h4, fun hg => ?_, fun W hW i hi => ?_⟩
            · subst hg
              obtain ⟨cur', hb, _⟩ := HB.out
              rw [hb] at h9
              simp only [Option.some.injEq, Obj.cells.injEq] at h9
              exact absurd h9.2.1 (by decide)
            · obtain ⟨cur', hb, hs⟩ := hW.shape ga cur _ _ h9 h4
              exact ⟨cell_at hb i (by rw [hs, h12]; omega), frozen_of_row W ga i cur' _ hb⟩
      have HD : Hid (OpAt w g (0 + k * 7) d ∧ D[k]? = some d) := ⟨HO.out k d hd, hd⟩
      rw [hpa] at c6
      clear hd he hr hm c0 c1 c2 c3 c4 c5 hpa
      simp only [slV] at c6
      go_wp2_with fail
      go_loopw [3, 15] (fun _ i wr => ∃ (l : Nat), l ≤ m ∧ i = .int .i64 l ∧ Out lo hi w wr ∧ Hid (∀ j d, k ≤ j → D[j]? = some d → OpAt wr g (0 + j * 7) d) ∧ wr.cell? ⟨g, k * 7 + 6, none⟩ = some (.slice pa m ca)) (fun _ i _ => m - (RowKit.intOf i).toNat)
      case atStart => exact ⟨0, Nat.zero_le _, rfl, ho, H, c6⟩
      case round =>
        clear ho H c6
        obtain ⟨l, hlm, rfl, ho, H, c6⟩ := hrel
        by_cases hlt2 : l < m
        · have hltI2 : (l : Int) < m := by omega
          obtain ⟨ga, rfl, hg1, hg2, hg3, hgc⟩ := HA.out (by omega)
          obtain ⟨⟨u0, e0⟩, f0⟩ := hgc _ ho (l * 4) (by omega)
          obtain ⟨⟨u1, e1⟩, f1⟩ := hgc _ ho (l * 4 + 1) (by omega)
          obtain ⟨⟨u2, e2⟩, f2⟩ := hgc _ ho (l * 4 + 2) (by omega)
          obtain ⟨⟨u3', e3⟩, f3⟩ := hgc _ ho (l * 4 + 3) (by omega)
          have hg4 : ¬ ga = g := hg3
          have hg5 : ¬ g = ga := fun h => hg3 h.symm
          have HG : Hid (lo ≤ ga ∧ ga < hi ∧ g ≠ ga) := ⟨hg1, hg2, hg5⟩
          have HOO : Hid (Out lo hi w wr) := ho
          clear hgc hg1 hg2 hg3 ho
          go_wp2_with fail
          go_roundw
          case rel =>
            refine ⟨l + 1, by omega, by go_num, out_set4 HOO.out HG.out.1 HG.out.2.1 _ _ _ _ _ _ _ _, fun j d hj hd => ?_, (set4_other _ HG.out.2.2 _ _ _ _ _ _ _ _ _).trans c6⟩
            exact (H.out j d hj hd).same fun i => set4_other _ HG.out.2.2 _ _ _ _ _ _ _ _ _
          case measure => simp [RowKit.intOf]; omega
        · have hltI2 : ¬ (l : Int) < m := by omega
          have fr : ∀ i, i < n * 7 + 7 → (∃ u, wr.cell? ⟨g, i, none⟩ = some u) ∧ wr.frozen? ⟨g, i, none⟩ = false := fun i hi' => by
            obtain ⟨cur, h1, h2⟩ := HB.out
            obtain ⟨cur', h3, h4⟩ := ho.shape g cur _ _ h1 hhi
            exact ⟨cell_at h3 i (by omega), frozen_of_row wr g i cur' _ h3⟩
          obtain ⟨⟨u0, e0⟩, f0⟩ := fr (k * 7) (by omega)
          obtain ⟨⟨u1, e1⟩, f1⟩ := fr (k * 7 + 1) (by omega)
          obtain ⟨⟨u2, e2⟩, f2⟩ := fr (k * 7 + 2) (by omega)
          obtain ⟨⟨u3', e3⟩, f3⟩ := fr (k * 7 + 3) (by omega)
          obtain ⟨⟨u4', e4⟩, f4⟩ := fr (k * 7 + 4) (by omega)
          obtain ⟨⟨u5', e5⟩, f5⟩ := fr (k * 7 + 5) (by omega)
          obtain ⟨-, f6⟩ := fr (k * 7 + 6) (by omega)
          have HOO : Hid (Out lo hi w wr) := ho
          clear fr ho
          go_wp2_with fail
          go_roundw
          case rel =>
            refine ⟨k + 1, by omega, by go_num, ?_, fun j d hj hd => ?_⟩
            · exact out_set7 HOO.out hlo hhi _ _ _ _ _ _ _ _
            · exact OpAt.far _ (H.out j d (by omega) hd) (by omega) _ _ _ _ _ _ _
          case measure => simp [RowKit.intOf]; omega
    · have hltI : ¬ (k : Int) < n := by omega
      go_wp2
      (try simp only [Exit.inBlock, Exit.then])
      refine bodyPost_end (results_none rfl _ _ _) rfl ?_
      exact ⟨rfl, ho⟩
end Go.Proofs.YtecmdlecfddeeaaDoor

/- A list of the call's own that is written over and grown: what that changes. -/
namespace Go.Proofs.YtecmdlecfddeeaaDoor
open Go Go.RowKit Go.Lib
set_option linter.unusedVariables false

/-- A list, in blocks between two marks, of which the shape alone is known. -/
def LiA (w : World) (L H : Nat) (v : Value) (n : Nat) : Prop :=
  (v = .slice none 0 0 ∧ n = 0) ∨ ∃ (g cap : Nat) (cur : Array Value), v = .slice (some ⟨g, 0, none⟩) n cap ∧ L ≤ g ∧ g < H ∧ w.heap[g]? = some (.cells cur 49 (0, 0)) ∧ n ≤ cap ∧ cur.size = cap * 4
theorem LiA.out {w w' : World} {L H lo hi n : Nat} {v : Value} (h : LiA w L H v n) (u : Out lo hi w w') (hh : H ≤ hi ∨ hi ≤ L) : LiA w' L H v n := by
  rcases h with h | ⟨g, cap, cur, h1, h2, h3, h4, h5, h6⟩
  · exact Or.inl h
  · rcases hh with hh | hh
    · obtain ⟨cur', h7, h8⟩ := u.shape g cur _ _ h4 (by omega)
      exact Or.inr ⟨g, cap, cur', h1, h2, h3, h7, h5, by rw [h8, h6]⟩
    · exact Or.inr ⟨g, cap, cur, h1, h2, h3, (u.block g (Array.getElem?_eq_some_iff.1 h4).1 (Or.inr (by omega))).trans h4, h5, h6⟩
theorem LiA.of_own {w : World} {B H : Nat} {v : Value} {A : List A2} (h : OwnA w B v A) (ht : ∀ k, v.ownBlock = some k → k < H) : LiA w B H v A.length := by
  rcases h.2 with h | ⟨g, cap, cur, h1, h2, h3, h4, h5, h6, h7⟩
  · exact Or.inl h
  · exact Or.inr ⟨g, cap, cur, h1, h2, ht g (by rw [h1]; rfl), h3, h4, h6⟩
/-- A place of it may be written. -/
theorem LiA.place {w : World} {L H n : Nat} {p : Option Addr} {c : Nat} (h : LiA w L H (.slice p n c) n) (hn : 0 < n) : ∃ g, p = some ⟨g, 0, none⟩ ∧ L ≤ g ∧ g < H ∧ ∀ i, i < n * 4 → (∃ u, w.cell? ⟨g, i, none⟩ = some u) ∧ w.frozen? ⟨g, i, none⟩ = false := by
  rcases h with ⟨_, h⟩ | ⟨g, cap, cur, h1, h2, h3, h4, h5, h6⟩
  · omega
  · simp only [Value.slice.injEq] at h1
    obtain ⟨rfl, -, rfl⟩ := h1
    exact ⟨g, rfl, h2, h3, fun i hi => ⟨cell_at h4 i (by omega), frozen_of_row w g i cur _ h4⟩⟩
theorem LiA.ne {w : World} {L H n g c : Nat} (h : LiA w L H (.slice (some ⟨g, 0, none⟩) n c) n) (hn : 0 < n) {gc : Nat} {cur0 : Array Value} {e0 : TypeId} (hgc : w.heap[gc]? = some (.cells cur0 e0 (0, 0))) (he : e0 ≠ 49) : g ≠ gc := fun e => by
  rcases h with ⟨_, h⟩ | ⟨g', cap, cur, h1, h2, h3, h4, h5, h6⟩
  · omega
  · simp only [Value.slice.injEq, Option.some.injEq, Addr.mk.injEq, and_true, true_and] at h1
    obtain ⟨rfl, -⟩ := h1
    subst e
    rw [h4] at hgc
    simp only [Option.some.injEq, Obj.cells.injEq] at hgc
    exact he hgc.2.1.symm
theorem out_setCells {lo hi : Nat} {w : World} {g : Nat} (h1 : lo ≤ g) (h2 : g < hi) : ∀ (vs : List Value) (o : Nat) (W : World), Out lo hi w W → Out lo hi w (W.setCells g o vs)
  | [], _, _, h => h
  | v :: r, o, W, h => by
    rw [World.setCells]
    exact out_setCells h1 h2 r (o + 1) _ (h.setCell g o v h1 h2)
theorem out_grown {lo hi : Nat} {w w' : World} (g : w.grownBy w' none) : Out lo hi w w' :=
  ⟨g.os, g.tape, g.output, g.size, fun k hk _ => g.block k hk (by simp), fun k cur e fz hc _ => ⟨cur, (g.block k (Array.getElem?_eq_some_iff.1 hc).1 (by simp)).trans hc, rfl⟩⟩

/-- append(such a list, one pair): nothing but its own block is changed, whether there is room or not. -/
theorem wpList_append_out {w : World} {ops : Array Oper} {rest : List Oper} {o : Oper} {a : Act} {Q : Exit → Act → World → Prop} (hgd : o.guard = none) (s x : Operand)
    (ho : o.op = .call { callee := .builtin .append, args := #[s, x], argTypes := #[24, 24] })
    (L H : Nat) (v : Value) (n : Nat) (hs : a.eval s = v) (hv : LiA w L H v n)
    (b c : Nat) (q : A2) (hx : a.eval x = .slice (some ⟨b, 0, none⟩) 1 c) (hM : PairAt w b 0 q) (h63 : n ≤ 2097152)
    (h : ∀ p c' w', Out L H w w' → wpList Tryd.prog ops Q rest (a.put o.dst (.slice p (n + 1) c')) w') : wpList Tryd.prog ops Q (o :: rest) a w := by
  obtain ⟨i, z, hi, hz, hz1, hz2, hz3⟩ := infoAt
  have hnew : ∀ (j : Nat) (u : Value), (cellsA [q])[j]? = some u → w.cell? ((⟨b, 0, none⟩ : Addr).add j) = some u := fun j u hu => by
    obtain ⟨k, q', hq, hh⟩ := cellsA_inv [q] j u hu
    have hk : k = 0 := by rcases k with _ | k; rfl; simp at hq
    subst hk
    obtain rfl : q = q' := by simpa using hq
    obtain ⟨h0, h1, h2, h3⟩ := hM
    rw [Addr.add_lit]
    rcases hh with ⟨rfl, rfl⟩ | ⟨rfl, rfl⟩ | ⟨rfl, rfl⟩ | ⟨rfl, rfl⟩
    · exact h0
    · exact h1
    · exact h2
    · exact h3
  have fin : ∀ (v' : Value) (w' : World) (B : Nat) (xs : List Value), w'.ownsRow B 49 4 v' (n + 1) xs → Out L H w w' → wpList Tryd.prog ops Q rest (a.put o.dst v') w' := fun v' w' B xs hw hu => by
    rcases hw.2 with ⟨_, h0⟩ | ⟨g, cap, cur, h1, _⟩
    · omega
    · rw [h1]; exact h _ _ _ hu
  rcases hv with ⟨rfl, rfl⟩ | ⟨g, cap, cur, rfl, h2, h3, h4, h5, h6⟩
  · exact wpList_append_grows w hgd s x _ ho 49 i z 4 48 Tryd.underlying24 hi hz hz1 hz2 hz3 (by decide) none 0 0 [] hs (fun _ => ⟨rfl, rfl⟩) rfl (fun b hb => (by cases hb)) ⟨b, 0, none⟩ 1 c (cellsA [q]) hx rfl hnew (cellsA_one _) (by decide) (by unfold maxLen; omega) (by omega) (fun v' w' r1 r2 => fin v' w' _ _ r1 (out_grown r2))
  · refine wpList_append_arg w hgd s x _ ho 49 i z 4 48 Tryd.underlying24 hi hz hz1 hz2 hz3 (by decide) g 0 n cap (cur.toList.take (n * 4)) hs (by rw [List.length_take, Array.length_toList, h6]; omega) (fun j u hu => ?_) ⟨b, 0, none⟩ 1 c (cellsA [q]) hx rfl hnew (cellsA_one _) (fun hr j hj => ?_) (by unfold maxLen; omega) (by omega) (fun hr => ?_) (fun hr v' w' r1 r2 => fin v' w' _ _ r1 (out_grown r2))
    · have hj := (List.getElem?_eq_some_iff.1 hu).1
      rw [List.getElem?_take] at hu
      split at hu
      · rw [Nat.zero_add]
        simp only [World.cell?, h4]
        simpa using hu
      · cases hu
    · have hj' : j < 4 := by simpa [cellsA] using hj
      rw [Nat.zero_add]
      exact ⟨by obtain ⟨u, hu⟩ := cell_at h4 (n * 4 + j) (by omega); rw [hu]; rfl, frozen_of_row w g _ cur _ h4⟩
    · exact h _ _ _ (out_setCells h2 h3 _ _ _ (Out.refl _ _ _))

/-- Cells and their lists, the call's own, in blocks between two marks. -/
structure CIn (w : World) (L H : Nat) (v : Value) (D : List CV) (E : List C5) : Prop where
  own : OwnC w L v D
  are : AreO w L D E
  top : ∀ k, v.ownBlock = some k → k < H
  tops : ∀ d ∈ D, ∀ k, (slV d.2.2.2).ownBlock = some k → k < H
theorem all2_left {α β : Type} {R : α → β → Prop} : ∀ {l : List α} {m : List β}, All2 R l m → ∀ a ∈ l, ∃ b, R a b
  | _, _, .nil, a, h => by cases h
  | _, _, .cons hr t, a, h => by
    rcases List.mem_cons.1 h with rfl | h
    · exact ⟨_, hr⟩
    · exact all2_left t a h
theorem CIn.new {w : World} {B : Nat} {v : Value} {D : List CV} {E : List C5} (h : OwnC w B v D) (h' : AreO w B D E) : CIn w B w.heap.size v D E :=
  ⟨h, h', fun k hk => by obtain ⟨_, cur, hc⟩ := owns_block h k hk; exact (Array.getElem?_eq_some_iff.1 hc).1, fun d hd k hk => by
    obtain ⟨e, he⟩ := all2_left h' d hd
    obtain ⟨_, cur, hc⟩ := owns_block he.2.2.2 k hk
    exact (Array.getElem?_eq_some_iff.1 hc).1⟩
theorem CIn.below {w w' : World} {L H : Nat} {v : Value} {D : List CV} {E : List C5} (h : CIn w L H v D E) (b : Below w.heap.size w w') : CIn w' L H v D E :=
  ⟨owns_below h.own b, h.are.keep (keepA_below b), h.top, h.tops⟩
theorem CIn.out {w w' : World} {L H lo hi : Nat} {v : Value} {D : List CV} {E : List C5} (h : CIn w L H v D E) (u : Out lo hi w w') (hL : hi ≤ L) : CIn w' L H v D E :=
  ⟨u.own hL h.own, All2.imp (fun d e x => ⟨x.1, x.2.1, x.2.2.1, u.own hL x.2.2.2⟩) h.are, h.top, h.tops⟩
end Go.Proofs.YtecmdlecfddeeaaDoor

/- vellumspare.Attrs: a copy with a mark behind its end. -/
namespace Go.Proofs.YtecmdlecfddeeaaDoor
open Go Go.RowKit Go.Lib
set_option linter.unusedVariables false

set_option maxHeartbeats 2000000 in
set_option maxRecDepth 100000 in
theorem spA_any (v : Value) (A : List A2) (w : World) (hA : RowA w v A) (hl : A.length ≤ 1048576) :
    Calls Tryd.prog 34 #[v] w fun r w' => ∃ s, r = .returned (slV s) ∧ SpA w' w.heap.size w'.heap.size s A ∧ Below w.heap.size w w' := by
  obtain ⟨n, hn⟩ : ∃ n, A.length = n := ⟨_, rfl⟩
  obtain ⟨p, cap, rfl, hcap, hc⟩ := hA
  rw [hn] at hl hcap ⊢
  have HN : Hid (A.length = n) := hn
  have HC : Hid _ := hc
  clear hc hn
  by_cases h0 : n = 0
  · subst h0
    obtain rfl : A = [] := List.eq_nil_of_length_eq_zero HN.out
    go_enter Tryd.func34, Tryd.ntmps34
    go_wp2
    go_ret
    exact ⟨(none, 0, 0), rfl, Or.inl ⟨rfl, rfl⟩, Below.refl _ _⟩
  · have h0I : ((n : Int) == 0) = false := by simp; omega
    obtain ⟨q, hq⟩ : ∃ q, A[0]? = some q := ⟨_, List.getElem?_eq_getElem (by rw [HN.out]; omega)⟩
    obtain ⟨b, off, rfl, _⟩ := HC.out 0 q hq
    have hne : A ≠ [] := fun e => by have := HN.out; rw [e] at this; exact h0 this.symm
    have HE : Hid (A ≠ []) := hne
    clear hq hne h0
    have oE := own_empty' w w.heap.size (Nat.le_refl _)
    have bE := (Below.refl w.heap.size w).alloc (Nat.le_refl _) (.cells #[] 49)
    have hM : Hid (∀ (j : Nat) (x : A2), A[j]? = some x → PairAt (w.alloc (.cells #[] 49)) b (off + j * 4) x) := fun j x hx => by
      obtain ⟨b', off', he, h⟩ := HC.out j x hx
      cases he
      exact h.below bE
    have hL0 : ([] : List A2).length + n ≤ 2097152 := by simp; omega
    go_enter Tryd.func34, Tryd.ntmps34
    go_wp2_with (first
      | (at_builtin; refine wpList_append_atx rfl (.tmp 6) (.tmp 7) rfl w.heap.size (.slice (some ⟨w.heap.size, 0, none⟩) 0 0) [] rfl oE b off n cap A rfl HN.out hM.out hL0 bE.size ?_; intro v9 w9 own9 gr9 hat9; have b10 := (bE.grown gr9 bE.size (fun j hj => by simp only [Value.ownBlock, Option.some.injEq] at hj; omega)).alloc (by have h0 := gr9.size; have h1 := bE.size; omega) (.cells #[.string ⟨#[115, 112, 97, 114, 101]⟩, .int .i64 0, .int .i64 0, .string ⟨#[]⟩] 49); have O9 : Hid (OwnA w9 w.heap.size v9 A) := own9; have O10 : Hid (OwnA (w9.alloc (.cells #[.string ⟨#[115, 112, 97, 114, 101]⟩, .int .i64 0, .int .i64 0, .string ⟨#[]⟩] 49)) w.heap.size v9 A) := owns_below O9.out ((Below.refl _ _).alloc (Nat.le_refl _) _); have hL1 : Hid (A.length + 1 ≤ 2097152) := (by show _ ≤ _; rw [HN.out]; omega); have hge : Hid (∀ j, v9.ownBlock = some j → w.heap.size ≤ j) := (fun j hj => (owns_block O10.out j hj).1); clear own9 gr9 hat9 oE bE hM O9)
      | (at_builtin; refine wpList_append_atx rfl (.tmp 8) (.tmp 10) rfl w.heap.size v9 A rfl O10.out w9.heap.size 0 1 1 [s1] rfl rfl (one_at ⟨by simp, by simp, by simp, by simp⟩) hL1.out b10.size ?_; intro v11 w11 own11 gr11 hat11; have b11 := b10.grown gr11 b10.size (fun j hj => hge.out j hj); obtain ⟨p11, c11, e11, hc11, hr11⟩ := own_rowA own11; rw [show (A ++ [s1]).length = n + 1 by simp [HN.out]] at e11 hc11; subst e11; have HO : Hid (OwnA w11 w.heap.size (.slice p11 (n + 1) c11) (A ++ [s1])) := own11; have hcI : n ≤ c11 := (by omega); clear own11 gr11 hat11 O10 b10 hge hr11))
    go_ret
    have hO := HO.out
    have hN := HN.out
    rcases hO.2 with ⟨h1, h2⟩ | ⟨g, cap', cur, h1, h2, h3, h4, h5, h6, h7⟩
    · simp at h2
    · simp only [Value.slice.injEq] at h1
      obtain ⟨rfl, -, rfl⟩ := h1
      refine ⟨(some ⟨g, 0, none⟩, n, c11), rfl, Or.inr ⟨g, c11, HE.out, by rw [hN], h2, (Array.getElem?_eq_some_iff.1 h3).1, by omega, ?_⟩, b11⟩
      rw [show (A ++ [s1]).length = n + 1 by simp [hN]]
      exact hO
end Go.Proofs.YtecmdlecfddeeaaDoor

/- vellumspare.Copy: operations as new memory, with spare room. -/
namespace Go.Proofs.YtecmdlecfddeeaaDoor
open Go Go.RowKit Go.Lib
set_option linter.unusedVariables false

theorem spD_snoc {w : World} {lo hi : Nat} {D : List OV} {E : List Op5} {d : OV} {e : Op5} (h : SpD w lo hi D E) (h1 : d.1 = e.k ∧ d.2.1 = e.t ∧ d.2.2.1 = e.v ∧ d.2.2.2.1 = e.c ∧ SpA w lo hi d.2.2.2.2 e.A) : SpD w lo hi (D ++ [d]) (E ++ [e]) :=
  forall2_append h (.cons h1 .nil)

set_option maxHeartbeats 2000000 in
set_option maxRecDepth 100000 in
theorem copy_any (v : Value) (E : List Op5) (w : World) (hv : ReO w v E) (hl : E.length ≤ 1048576) (hA : ∀ e ∈ E, e.A.length ≤ 1048576) :
    Calls Tryd.prog 11 #[v] w fun r w' => ∃ v', r = .returned v' ∧ SpO w' w.heap.size w'.heap.size v' E ∧ Below w.heap.size w w' := by
  obtain ⟨D0, hrow, hre⟩ := hv
  have hDE := forall2_len hre
  obtain ⟨n, hn⟩ : ∃ n, D0.length = n := ⟨_, rfl⟩
  obtain ⟨p, cap, rfl, hcap, hnz, hc⟩ := hrow
  have HC : Hid (∀ (j : Nat) (d : OV), D0[j]? = some d → ∃ b off, p = some ⟨b, off, none⟩ ∧ OpAt w b (off + j * 7) d) := hc
  have HN : Hid (D0.length = n ∧ E.length = n) := ⟨hn, by rw [← hDE, hn]⟩
  have HE : Hid (ReD w D0 E ∧ ∀ e ∈ E, e.A.length ≤ 1048576) := ⟨hre, hA⟩
  have hl : n ≤ 1048576 := by rw [← hn, hDE]; exact hl
  rw [hn] at hcap ⊢
  clear hc hn hDE hre hA hnz
  have HS : Hid (∀ W, Below w.heap.size w W → ∀ (s : Sl) (A : List A2), RN w (slV s) A → A.length ≤ 1048576 → Calls Tryd.prog 34 #[slV s] W fun r w' => ∃ s', r = .returned (slV s') ∧ SpA w' W.heap.size w'.heap.size s' A ∧ Below W.heap.size W w') := fun W hW s A h1 h2 => spA_any _ A W (h1.below hW).row h2
  have o0 := own_emptyO w w.heap.size (Nat.le_refl _)
  have b0 := (Below.refl w.heap.size w).alloc (Nat.le_refl _) (.cells #[] 26)
  obtain ⟨W0, hW0⟩ : ∃ W, W = w.alloc (.cells #[] 26) := ⟨_, rfl⟩
  obtain ⟨v0, hv0⟩ : ∃ v0 : Value, v0 = .slice (some ⟨w.heap.size, 0, none⟩) 0 0 := ⟨_, rfl⟩
  rw [← hW0, ← hv0] at o0
  rw [← hW0] at b0
  go_enter Tryd.func11, Tryd.ntmps11
  go_wp2
  rw [← hW0, ← hv0]
  clear hW0 hv0
  go_loopw [3, 9] (fun o i wr => ∃ (k : Nat) (D : List OV), k ≤ n ∧ i = .int .i64 k ∧ D.length = k ∧ OwnO wr w.heap.size o D ∧ SpD wr w.heap.size wr.heap.size D (E.take k) ∧ Below w.heap.size w wr) (fun _ i _ => n - (RowKit.intOf i).toNat)
  case atStart => exact ⟨0, [], Nat.zero_le _, rfl, rfl, o0, .nil, b0⟩
  case round =>
    clear o0 b0
    obtain ⟨k, D, hk, rfl, hDl, hown, hsp, hbw⟩ := hrel
    by_cases hlt : k < n
    · have hltI : (k : Int) < n := by omega
      obtain ⟨d, hd⟩ : ∃ d, D0[k]? = some d := ⟨_, List.getElem?_eq_getElem (by rw [HN.out.1]; exact hlt)⟩
      obtain ⟨e, he, hr⟩ := forall2_get HE.out.1 k d hd
      obtain ⟨b, off, rfl, hp⟩ := HC.out k d hd
      obtain ⟨c0, c1, c2, c3, c4, c5, c6⟩ := hp.below hbw
      have cS := HS.out _ (hbw.alloc hbw.size (.cells (ovC d) 26)) d.2.2.2.2 e.A hr.2.2.2.2 (HE.out.2 e (List.mem_of_getElem? he))
      have HT : Hid (E.take (k + 1) = E.take k ++ [e]) := by show _ = _; rw [List.take_add_one, he]; rfl
      have HR : Hid (d.1 = e.k ∧ d.2.1 = e.t ∧ d.2.2.1 = e.v ∧ d.2.2.2.1 = e.c) := ⟨hr.1, hr.2.1, hr.2.2.1, hr.2.2.2.1⟩
      have HO : Hid (OwnO wr w.heap.size u3 D ∧ SpD wr w.heap.size wr.heap.size D (E.take k)) := ⟨hown, hsp⟩
      clear hd he hr hp hown hsp
      obtain ⟨dk, dt, ⟨dx, dn, du⟩, dc, ds⟩ := d
      obtain ⟨dp, dl, dcap⟩ := ds
      simp only [slV, ovC] at c0 c1 c2 c3 c4 c5 c6 cS
      go_wp2_with fail
      refine cS.mono ?_; rintro r w5 ⟨⟨sp, sl, sc⟩, rfl, sp5, hb5⟩
      obtain ⟨W4, hW4⟩ : ∃ W, W = wr.alloc (.cells #[.int .i64 dk, .string dt, .int .i64 dx, .int .i64 dn, .string du, .int .i64 dc, .slice dp dl dcap] 26) := ⟨_, rfl⟩
      rw [← hW4] at sp5 hb5
      have D4 : OpAt W4 wr.heap.size 0 (dk, dt, (dx, dn, du), dc, dp, dl, dcap) := by rw [hW4]; exact ⟨by simp, by simp, by simp, by simp, by simp, by simp, by simp⟩
      have b4 : Below wr.heap.size wr W4 := by rw [hW4]; exact (Below.refl _ _).alloc (Nat.le_refl _) _
      have s4 : W4.heap.size = wr.heap.size + 1 := by rw [hW4]; simp
      have f4 : W4.frozen? ⟨wr.heap.size, 6, none⟩ = false := by rw [hW4]; simp
      clear hW4 cS
      have f5 := (hb5.frozen (p := ⟨wr.heap.size, 6, none⟩) D4.lt).trans f4
      have D5 := D4.below hb5
      obtain ⟨q0, q1, q2, q3, q4, q5, q6⟩ := D4.below hb5
      simp only [Nat.zero_add, slV] at q0 q1 q2 q3 q4 q5 q6
      have b5 := b4.trans (hb5.mono b4.size)
      have hs5 := hb5.size
      clear D4 f4 c0 c1 c2 c3 c4 c5 c6
      go_upto_region 6 with fail
      obtain ⟨W6, hW6⟩ : ∃ W, W = w5.setCell ⟨wr.heap.size, 6, none⟩ (.slice sp sl sc) := ⟨_, rfl⟩
      have hq : ∀ i, i ≠ 6 → W6.cell? ⟨wr.heap.size, i, none⟩ = w5.cell? ⟨wr.heap.size, i, none⟩ := fun i hi => by
        rw [hW6]; exact World.cell?_setCell_other _ _ _ _ (fun e => by cases e; omega)
      have r0 := (hq 0 (by decide)).trans q0
      have r1 := (hq 1 (by decide)).trans q1
      have r2 := (hq 2 (by decide)).trans q2
      have r3 := (hq 3 (by decide)).trans q3
      have r4 := (hq 4 (by decide)).trans q4
      have r5 := (hq 5 (by decide)).trans q5
      have r6 : W6.cell? ⟨wr.heap.size, 6, none⟩ = some (.slice sp sl sc) := by rw [hW6]; exact World.cell?_setCell_same' _ _ _ (by rw [q6]; rfl)
      have b6 : Below wr.heap.size wr W6 := by rw [hW6]; exact b5.setCell (Nat.le_refl _) _
      have sp6 : SpA W6 w.heap.size W6.heap.size (sp, sl, sc) e.A := by
        have h1 := (sp5.setBelow (g := wr.heap.size) (by omega) 6 (.slice sp sl sc)).lower (lo' := w.heap.size) (by have := hbw.size; omega)
        rw [← hW6] at h1
        exact h1.upto (Below.refl _ _) (by rw [hW6]; simp)
      rw [← hW6]
      clear hW6 hq q0 q1 q2 q3 q4 q5 q6 D5 f5 b5 sp5 hb5 b4
      have ba : Below W6.heap.size W6 (W6.alloc (.cells #[.int .i64 dk, .string dt, .int .i64 dx, .int .i64 dn, .string du, .int .i64 dc, .slice sp sl sc] 26)) := (Below.refl _ _).alloc (Nat.le_refl _) _
      have b7 := b6.trans (ba.mono b6.size)
      have HO7 : Hid (OwnO (W6.alloc (.cells #[.int .i64 dk, .string dt, .int .i64 dx, .int .i64 dn, .string du, .int .i64 dc, .slice sp sl sc] 26)) w.heap.size u3 D ∧ OpAt (W6.alloc (.cells #[.int .i64 dk, .string dt, .int .i64 dx, .int .i64 dn, .string du, .int .i64 dc, .slice sp sl sc] 26)) W6.heap.size 0 (dk, dt, (dx, dn, du), dc, sp, sl, sc)) := ⟨owns_below HO.out.1 b7, ⟨by simp, by simp, by simp, by simp, by simp, by simp, by simp⟩⟩
      have HP7 : Hid (SpD (W6.alloc (.cells #[.int .i64 dk, .string dt, .int .i64 dx, .int .i64 dn, .string du, .int .i64 dc, .slice sp sl sc] 26)) w.heap.size (W6.alloc (.cells #[.int .i64 dk, .string dt, .int .i64 dx, .int .i64 dn, .string du, .int .i64 dc, .slice sp sl sc] 26)).heap.size (D ++ [(dk, dt, (dx, dn, du), dc, sp, sl, sc)]) (E.take (k + 1))) := by
        show SpD _ _ _ _ _
        rw [HT.out]
        refine spD_snoc (HO.out.2.upto b7 b7.size) ⟨HR.out.1, HR.out.2.1, HR.out.2.2.1, HR.out.2.2.2, sp6.below ba ba.size⟩
      have hge : Hid (∀ j, u3.ownBlock = some j → w.heap.size ≤ j) := fun j hj => (owns_block HO.out.1 j hj).1
      have bw7 := hbw.trans (b7.mono hbw.size)
      have hlen : D.length ≤ 33554432 := by omega
      clear sp6 ba b7 b6 HO HT HR
      go_wp2_with (at_builtin; refine wpList_append_ops rfl (.tmp 17) (.tmp 19) rfl w.heap.size u3 D rfl HO7.out.1 W6.heap.size 1 _ rfl HO7.out.2 hlen bw7.size ?_; intro v8 w8 own8 gr8 hat8)
      have hsp8 := HP7.out.keep (keepA_grownO HO7.out.1 gr8) gr8.size
      have b8 := bw7.grown gr8 bw7.size (fun j hj => hge.out j hj)
      go_roundw
      case rel => exact ⟨k + 1, _, by omega, by go_num, by simp [hDl], own8, hsp8, b8⟩
      case measure => simp [RowKit.intOf]; omega
    · have hltI : ¬ (k : Int) < n := by omega
      have hkn : k = n := by omega
      have hE : E.take k = E := List.take_of_length_le (by rw [HN.out.2]; omega)
      rw [hE] at hsp
      have ba : Below wr.heap.size wr (wr.alloc (.cells #[.int .i64 77, .string ⟨#[]⟩, .int .i64 0, .int .i64 0, .string ⟨#[]⟩, .int .i64 0, .slice none 0 0] 26)) := (Below.refl _ _).alloc (Nat.le_refl _) _
      have HO7 : Hid (OwnO (wr.alloc (.cells #[.int .i64 77, .string ⟨#[]⟩, .int .i64 0, .int .i64 0, .string ⟨#[]⟩, .int .i64 0, .slice none 0 0] 26)) w.heap.size u3 D ∧ OpAt (wr.alloc (.cells #[.int .i64 77, .string ⟨#[]⟩, .int .i64 0, .int .i64 0, .string ⟨#[]⟩, .int .i64 0, .slice none 0 0] 26)) wr.heap.size 0 d77) := ⟨owns_below hown ba, ⟨by simp, by simp, by first | (simp; done) | simp [z0], by first | (simp; done) | simp [z0], by first | (simp; done) | simp [z0], by simp, by simp⟩⟩
      have HP7 : Hid (SpD (wr.alloc (.cells #[.int .i64 77, .string ⟨#[]⟩, .int .i64 0, .int .i64 0, .string ⟨#[]⟩, .int .i64 0, .slice none 0 0] 26)) w.heap.size (wr.alloc (.cells #[.int .i64 77, .string ⟨#[]⟩, .int .i64 0, .int .i64 0, .string ⟨#[]⟩, .int .i64 0, .slice none 0 0] 26)).heap.size D E) := hsp.below ba ba.size
      have hge : Hid (∀ j, u3.ownBlock = some j → w.heap.size ≤ j) := fun j hj => (owns_block hown j hj).1
      have bw7 := hbw.trans (ba.mono hbw.size)
      have hlen : D.length ≤ 33554432 := by omega
      have HL : Hid (D.length = n) := by show _ = _; omega
      clear hown hsp ba hbw hDl
      go_wp2_with (at_builtin; refine wpList_append_ops rfl (.tmp 22) (.tmp 24) rfl w.heap.size u3 D rfl HO7.out.1 wr.heap.size 1 d77 rfl HO7.out.2 hlen bw7.size ?_; intro v8 w8 own8 gr8 hat8; have hsp8 : Hid (SpD w8 w.heap.size w8.heap.size D E) := HP7.out.keep (keepA_grownO HO7.out.1 gr8) gr8.size; have b8 := bw7.grown gr8 bw7.size (fun j hj => hge.out j hj); obtain ⟨p8, c8, e8, hc8, _, _⟩ := own_rowO own8; rw [show (D ++ [d77]).length = n + 1 by simp [HL.out]] at e8 hc8; subst e8; have HO8 : Hid (OwnO w8 w.heap.size (.slice p8 (n + 1) c8) (D ++ [d77])) := own8; have hcI : n ≤ c8 := (by omega); clear own8 gr8 hat8 HO7 HP7 bw7)
      go_ret
      have hO := HO8.out
      rcases hO.2 with ⟨h1, h2⟩ | ⟨g, cap', cur, h1, h2, h3, h4, h5, h6, h7⟩
      · simp at h2
      · simp only [Value.slice.injEq] at h1
        obtain ⟨rfl, -, rfl⟩ := h1
        refine ⟨_, rfl, ⟨g, c8, D, by rw [HN.out.2]; rfl, h2, (Array.getElem?_eq_some_iff.1 h3).1, by rw [HL.out, HN.out.2], ?_, hsp8.out⟩, b8⟩
        rw [show (D ++ [d77]).length = n + 1 by simp [HL.out]]
        exact hO
end Go.Proofs.YtecmdlecfddeeaaDoor

/- vellumref04.SameOps and vellumspare.Kept at operations that are the same. -/
namespace Go.Proofs.YtecmdlecfddeeaaDoor
open Go Go.RowKit Go.Lib
set_option linter.unusedVariables false

set_option maxHeartbeats 2000000 in
set_option maxRecDepth 100000 in
theorem sameOps_any (v v' : Value) (E : List Op5) (w : World) (h : ReO w v E) (h' : ReO w v' E) (hl : E.length ≤ 1048576) (hA : ∀ e ∈ E, e.A.length ≤ 1048576) :
    Calls Tryd.prog 44 #[v, v'] w fun r w' => r = .returned (.bool true) ∧ Below w.heap.size w w' := by
  obtain ⟨D, hrow, hre⟩ := h
  obtain ⟨D', hrow', hre'⟩ := h'
  have hE := forall2_len hre
  have hE' := forall2_len hre'
  obtain ⟨n, hn⟩ : ∃ n, D.length = n := ⟨_, rfl⟩
  have hm : D'.length = n := by omega
  obtain ⟨pa, ca, rfl, ha, _, hca⟩ := hrow
  obtain ⟨pb, cb, rfl, hb, _, hcb⟩ := hrow'
  rw [hn] at ha hE ⊢
  rw [hm] at hb hE' ⊢
  have HN : Hid (D.length = n ∧ D'.length = n ∧ E.length = n) := ⟨hn, hm, hE.symm⟩
  have HA : Hid (∀ (j : Nat) (d : OV), D[j]? = some d → ∃ b off, pa = some ⟨b, off, none⟩ ∧ OpAt w b (off + j * 7) d) := hca
  have HB : Hid (∀ (j : Nat) (d : OV), D'[j]? = some d → ∃ b off, pb = some ⟨b, off, none⟩ ∧ OpAt w b (off + j * 7) d) := hcb
  have hl : n ≤ 1048576 := by omega
  have CC : Hid (∀ W (k : Nat) d d', Below w.heap.size w W → D[k]? = some d → D'[k]? = some d' → Calls Tryd.prog 25 #[ovV d, ovV d'] W fun r w' => r = .returned (.bool true) ∧ Below W.heap.size W w') := fun W k d d' hW h1 h2 => by
    obtain ⟨y, hy, r1⟩ := forall2_get (hre.below hW) k d h1
    obtain ⟨y', hy', r2⟩ := forall2_get (hre'.below hW) k d' h2
    obtain rfl : y = y' := Option.some.inj (hy.symm.trans hy')
    have hly := hA y (List.mem_of_getElem? hy)
    have := sameR_any y y (slV d.2.2.2.2) (slV d'.2.2.2.2) W r1.2.2.2.2.row r2.2.2.2.2.row (by omega) (by omega)
    rw [decide_eq_true rfl] at this
    obtain ⟨e1, e2, e3, e4, _⟩ := r1
    obtain ⟨g1, g2, g3, g4, _⟩ := r2
    obtain ⟨dk, dt, dv, dc, ds⟩ := d
    obtain ⟨dk', dt', dv', dc', ds'⟩ := d'
    simp only at e1 e2 e3 e4 g1 g2 g3 g4
    subst e1 e2 e3 e4 g1 g2 g3 g4
    exact this
  clear hca hcb hn hm hre hre' hE hE' hA
  go_enter Tryd.func44, Tryd.ntmps44
  go_wp2
  go_loopw [14, 5, 6] (fun i _ _ wr => ∃ (k : Nat), k ≤ n ∧ i = .int .i64 k ∧ Below w.heap.size w wr) (fun i _ _ _ => n - (RowKit.intOf i).toNat)
  case atStart => exact ⟨0, Nat.zero_le _, rfl, Below.refl _ _⟩
  case round =>
    obtain ⟨k, hk, rfl, hbw⟩ := hrel
    by_cases hlt : k < n
    · have hltI : (k : Int) < n := by omega
      obtain ⟨d, hd⟩ : ∃ q, D[k]? = some q := ⟨_, List.getElem?_eq_getElem (by rw [HN.out.1]; exact hlt)⟩
      obtain ⟨d', hd'⟩ : ∃ q, D'[k]? = some q := ⟨_, List.getElem?_eq_getElem (by rw [HN.out.2.1]; exact hlt)⟩
      have cc := fun W hW => CC.out W k d d' hW hd hd'
      obtain ⟨b, off, rfl, hin⟩ := HA.out k d hd
      obtain ⟨b', off', rfl, hin'⟩ := HB.out k d' hd'
      obtain ⟨c0, c1, c2, c3, c4, c5, c6⟩ := hin.below hbw
      obtain ⟨d0, d1, d2, d3, d4, d5, d6⟩ := hin'.below hbw
      clear hin hin' hd hd'
      obtain ⟨f, t, ⟨x, z, u⟩, cc1, p, j, c⟩ := d
      obtain ⟨f', t', ⟨x', z', u'⟩, cc1', p', j', c'⟩ := d'
      simp only [slV] at c0 c1 c2 c3 c4 c5 c6 d0 d1 d2 d3 d4 d5 d6
      simp only [ovV, ovC, slV] at cc
      have HU : Hid (∀ w', Below wr.drew.heap.size wr.drew w' → (w'.cell? ⟨b, off + k * 7, none⟩ = some (.int .i64 f) ∧ w'.cell? ⟨b, off + k * 7 + 1, none⟩ = some (.string t) ∧ w'.cell? ⟨b, off + k * 7 + 2, none⟩ = some (.int .i64 x) ∧ w'.cell? ⟨b, off + k * 7 + 3, none⟩ = some (.int .i64 z) ∧ w'.cell? ⟨b, off + k * 7 + 4, none⟩ = some (.string u) ∧ w'.cell? ⟨b, off + k * 7 + 5, none⟩ = some (.int .i64 cc1) ∧ w'.cell? ⟨b, off + k * 7 + 6, none⟩ = some (.slice p j c) ∧ w'.cell? ⟨b', off' + k * 7, none⟩ = some (.int .i64 f') ∧ w'.cell? ⟨b', off' + k * 7 + 1, none⟩ = some (.string t') ∧ w'.cell? ⟨b', off' + k * 7 + 2, none⟩ = some (.int .i64 x') ∧ w'.cell? ⟨b', off' + k * 7 + 3, none⟩ = some (.int .i64 z') ∧ w'.cell? ⟨b', off' + k * 7 + 4, none⟩ = some (.string u') ∧ w'.cell? ⟨b', off' + k * 7 + 5, none⟩ = some (.int .i64 cc1') ∧ w'.cell? ⟨b', off' + k * 7 + 6, none⟩ = some (.slice p' j' c'))) := fun w' hb => ⟨(hb.cell (lt_of_cell (w := wr.drew) c0)).trans c0, (hb.cell (lt_of_cell (w := wr.drew) c1)).trans c1, (hb.cell (lt_of_cell (w := wr.drew) c2)).trans c2, (hb.cell (lt_of_cell (w := wr.drew) c3)).trans c3, (hb.cell (lt_of_cell (w := wr.drew) c4)).trans c4, (hb.cell (lt_of_cell (w := wr.drew) c5)).trans c5, (hb.cell (lt_of_cell (w := wr.drew) c6)).trans c6, (hb.cell (lt_of_cell (w := wr.drew) d0)).trans d0, (hb.cell (lt_of_cell (w := wr.drew) d1)).trans d1, (hb.cell (lt_of_cell (w := wr.drew) d2)).trans d2, (hb.cell (lt_of_cell (w := wr.drew) d3)).trans d3, (hb.cell (lt_of_cell (w := wr.drew) d4)).trans d4, (hb.cell (lt_of_cell (w := wr.drew) d5)).trans d5, (hb.cell (lt_of_cell (w := wr.drew) d6)).trans d6⟩
      have hz0 : w.heap.size ≤ wr.drew.heap.size := hbw.size
      go_wp2_with fail
      go_region_held3 (fun w' => (w'.cell? ⟨b, off + k * 7, none⟩ = some (.int .i64 f) ∧ w'.cell? ⟨b, off + k * 7 + 1, none⟩ = some (.string t) ∧ w'.cell? ⟨b, off + k * 7 + 2, none⟩ = some (.int .i64 x) ∧ w'.cell? ⟨b, off + k * 7 + 3, none⟩ = some (.int .i64 z) ∧ w'.cell? ⟨b, off + k * 7 + 4, none⟩ = some (.string u) ∧ w'.cell? ⟨b, off + k * 7 + 5, none⟩ = some (.int .i64 cc1) ∧ w'.cell? ⟨b, off + k * 7 + 6, none⟩ = some (.slice p j c) ∧ w'.cell? ⟨b', off' + k * 7, none⟩ = some (.int .i64 f') ∧ w'.cell? ⟨b', off' + k * 7 + 1, none⟩ = some (.string t') ∧ w'.cell? ⟨b', off' + k * 7 + 2, none⟩ = some (.int .i64 x') ∧ w'.cell? ⟨b', off' + k * 7 + 3, none⟩ = some (.int .i64 z') ∧ w'.cell? ⟨b', off' + k * 7 + 4, none⟩ = some (.string u') ∧ w'.cell? ⟨b', off' + k * 7 + 5, none⟩ = some (.int .i64 cc1') ∧ w'.cell? ⟨b', off' + k * 7 + 6, none⟩ = some (.slice p' j' c')) ∧ Below w.heap.size w w')
        (exact ⟨by first | (with_reducible assumption) | (simp [*]; done), by first | (with_reducible assumption) | exact hbw.drew⟩)
        (first | (go_at_call 25; refine (cc _ ?_).mono ?_; (· first | assumption | exact hbw.drew | (apply And.right; assumption)); rintro r w3 ⟨rfl, b3⟩; have b4 : Below w.heap.size w w3 := (hbw.drew).trans (b3.mono hz0); have mm := HU.out _ b3))
      clear cc mm b3
      go_wp2
      go_roundw
      case rel => exact ⟨k + 1, by omega, by go_num, b4⟩
      case measure => simp [RowKit.intOf]; omega
    · have hltI : ¬ (k : Int) < n := by omega
      go_wp2
      go_ret
      exact ⟨rfl, hbw⟩

set_option maxHeartbeats 2000000 in
set_option maxRecDepth 100000 in
theorem keptO_any (v v' : Value) (E : List Op5) (lo hi : Nat) (w : World) (h : SpO w lo hi v E) (h' : ReO w v' E) (hl : E.length ≤ 1048576) (hA : ∀ e ∈ E, e.A.length ≤ 1048576) :
    Calls Tryd.prog 17 #[v, v'] w fun r w' => r = .returned (.bool true) ∧ Below w.heap.size w w' := by
  have cS := sameOps_any v v' E w h.re h' hl hA
  obtain ⟨g, cap, D, rfl, hlo, hhi, hDE, hown, hsp⟩ := h
  obtain ⟨n, hn⟩ : ∃ n, E.length = n := ⟨_, rfl⟩
  have hcap : n + 1 ≤ cap := by
    obtain ⟨p, c, he, hc, _, _⟩ := own_rowO hown
    simp only [Value.slice.injEq] at he
    obtain ⟨-, -, rfl⟩ := he
    simp [hDE, hn] at hc
    omega
  have h77 : w.cell? ⟨g, n * 7, none⟩ = some (.int .i64 77) := by
    have := (own_opAt hown n d77 (by rw [List.getElem?_append_right (by omega), hDE, hn]; simp)).c0
    rwa [Nat.zero_add] at this
  have HO : Hid (∀ j d, D[j]? = some d → OpAt w g (0 + j * 7) d) := fun j d hd => own_opAt hown j d (by rw [List.getElem?_append_left (List.getElem?_eq_some_iff.1 hd).1]; exact hd)
  have HS : Hid (SpD w lo hi D E) := hsp
  have HL : Hid (D.length = n ∧ E.length = n ∧ ∀ e ∈ E, e.A.length ≤ 1048576) := ⟨by rw [hDE, hn], hn, hA⟩
  obtain ⟨D', ⟨pb, cb, rfl, hcb, _, _⟩, hre'⟩ := h'
  have hE' := forall2_len hre'
  rw [hn] at hl cS ⊢
  rw [show D'.length = n by omega] at cS hcb ⊢
  clear hDE hn hown hsp hA hre' hE'
  have q1 := beq_key (x := ⟨#[115, 112, 97, 114, 101]⟩) (y := ⟨#[115, 112, 97, 114, 101]⟩) true (decide_eq_true rfl)
  go_enter Tryd.func17, Tryd.ntmps17
  go_wp2_with fail
  refine cS.mono ?_; rintro r w2 ⟨rfl, hb2⟩
  have e77 := (hb2.cell (lt_of_cell h77)).trans h77
  clear cS h77
  go_wp2_with fail
  go_loopw [8, 29] (fun _ i wr => ∃ (k : Nat), k ≤ n ∧ i = .int .i64 k ∧ Below w.heap.size w wr) (fun _ i _ => n - (RowKit.intOf i).toNat)
  case atStart => exact ⟨0, Nat.zero_le _, rfl, hb2⟩
  case round =>
    clear hb2 e77
    obtain ⟨k, hk, rfl, hbw⟩ := hrel
    by_cases hlt : k < n
    · have hltI : (k : Int) < n := by omega
      obtain ⟨d, hd⟩ : ∃ q, D[k]? = some q := ⟨_, List.getElem?_eq_getElem (by rw [HL.out.1]; exact hlt)⟩
      obtain ⟨e, he, hr⟩ := forall2_get HS.out k d hd
      obtain ⟨c0, c1, c2, c3, c4, c5, c6⟩ := (HO.out k d hd).below hbw
      have hs := hr.2.2.2.2.below hbw (Nat.le_refl _)
      have hal := HL.out.2.2 e (List.mem_of_getElem? he)
      clear hd he hr
      obtain ⟨f, t, ⟨x, z, u⟩, cc1, s⟩ := d
      rw [Nat.zero_add] at c0 c1 c2 c3 c4 c5 c6
      simp only at c0 c1 c2 c3 c4 c5 c6 hs
      have bA : ∀ o, Below w.heap.size w (wr.alloc o) := fun o => hbw.alloc hbw.size o
      rcases hs with ⟨h1, rfl⟩ | ⟨ga, cc, h1, rfl, h3, h4, h5, h6⟩
      · simp only [slV] at c6
        clear h1
        go_wp2_with fail
        go_roundw
        case rel => exact ⟨k + 1, by omega, by go_num, bA _⟩
        case measure => simp [RowKit.intOf]; omega
      · simp only [slV] at c6
        obtain ⟨m, hm⟩ : ∃ m, e.A.length = m := ⟨_, rfl⟩
        have hm0 : 0 < m := by rcases Nat.eq_zero_or_pos m with h0 | h0; exact absurd (List.eq_nil_of_length_eq_zero (hm.trans h0)) h1; exact h0
        have hm0I : (0 : Int) < (m : Int) := by omega
        obtain ⟨p9, c9, e9, hc9, hr9⟩ := own_rowA h6
        simp only [Value.slice.injEq] at e9
        obtain ⟨rfl, -, rfl⟩ := e9
        have hc9' : m + 1 ≤ cc := by simp [hm] at hc9; omega
        obtain ⟨b9, o9, hp9, hat⟩ := hr9 m s1 (by rw [List.getElem?_append_right (by omega), hm]; simp)
        simp only [Option.some.injEq, Addr.mk.injEq, and_true] at hp9
        obtain ⟨rfl, rfl⟩ := hp9
        have k0 := hat.c0
        rw [Nat.zero_add] at k0
        simp only at k0
        have hga : ga < wr.heap.size := lt_of_cell k0
        have hg1 : ¬ ga = wr.heap.size := by omega
        have hg2 : ¬ wr.heap.size = ga := by omega
        rw [hm] at hal c6
        clear h1 h3 h4 h5 h6 hr9 hat hc9 hm
        go_wp2_with fail
        go_roundw
        case rel => exact ⟨k + 1, by omega, by go_num, bA _⟩
        case measure => simp [RowKit.intOf]; omega
    · have hltI : ¬ (k : Int) < n := by omega
      go_wp2
      go_ret
      exact ⟨rfl, hbw⟩
end Go.Proofs.YtecmdlecfddeeaaDoor
