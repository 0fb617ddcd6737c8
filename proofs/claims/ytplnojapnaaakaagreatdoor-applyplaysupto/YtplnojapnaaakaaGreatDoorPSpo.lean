/- What vellumspare.Copy makes: operations with spare room; what writing over them leaves. -/
import Derived.Test.YtplnojapnaaakaaGreatDoorPOw
import Derived.Test.YtplnojapnaaakaaGreatDoorPRk1
namespace Go.Proofs.YtplnojapnaaakaaGreatDoor
open Go Go.RowKit Go.Lib
set_option linter.unusedVariables false
/-- But for the blocks between two marks the memory stands, and all blocks keep their shape. -/
structure Out (lo hi : Nat) (w w' : World) : Prop where
  os : w'.os = w.os
  tape : w'.tape = w.tape
  output : w'.output = w.output
  size : w.heap.size ≤ w'.heap.size
  block : ∀ k, k < w.heap.size → (k < lo ∨ hi ≤ k) → w'.heap[k]? = w.heap[k]?
  shape : ∀ (k : Nat) (cur : Array Value) (e : TypeId) (fz : Nat × Nat), w.heap[k]? = some (.cells cur e fz) → k < hi → ∃ cur' : Array Value, w'.heap[k]? = some (.cells cur' e fz) ∧ cur'.size = cur.size
theorem Out.refl (lo hi : Nat) (w : World) : Out lo hi w w := ⟨rfl, rfl, rfl, Nat.le_refl _, fun _ _ _ => rfl, fun k cur e fz h _ => ⟨cur, h, rfl⟩⟩
theorem Out.trans {lo hi : Nat} {a b c : World} (h : Out lo hi a b) (k : Out lo hi b c) : Out lo hi a c :=
  ⟨k.os.trans h.os, k.tape.trans h.tape, k.output.trans h.output, Nat.le_trans h.size k.size, fun i hi ho => (k.block i (Nat.lt_of_lt_of_le hi h.size) ho).trans (h.block i hi ho), fun i cur e fz hc hi => by
    obtain ⟨c1, h1, s1⟩ := h.shape i cur e fz hc hi
    obtain ⟨c2, h2, s2⟩ := k.shape i c1 e fz h1 hi
    exact ⟨c2, h2, s2.trans s1⟩⟩
theorem Out.of_below {lo hi : Nat} {w w' : World} (h : Below w.heap.size w w') : Out lo hi w w' :=
  ⟨h.os, h.tape, h.output, h.size, fun k hk _ => h.block k hk, fun k cur e fz hc _ => ⟨cur, (h.block k (Array.getElem?_eq_some_iff.1 hc).1).trans hc, rfl⟩⟩
theorem Out.drew {lo hi : Nat} {w w' : World} (h : Out lo hi w w') : Out lo hi w w'.drew := ⟨h.os, h.tape, h.output, h.size, h.block, h.shape⟩
theorem heap_set_at (w : World) (g j : Nat) (u : Value) (cur : Array Value) (e : TypeId) (f : Nat × Nat) (h : w.heap[g]? = some (.cells cur e f)) : (w.setCell ⟨g, j, none⟩ u).heap[g]? = some (.cells (cur.setIfInBounds j u) e f) := by
  simp [World.setCell, Array.getElem?_modify, h]
theorem Out.setCell {lo hi : Nat} {w w' : World} (h : Out lo hi w w') (g j : Nat) (u : Value) (h1 : lo ≤ g) (h2 : g < hi) : Out lo hi w (w'.setCell ⟨g, j, none⟩ u) := by
  refine h.trans ⟨rfl, rfl, rfl, by simp, fun k hk ho => Below.heap_setCell _ _ _ _ (by show k ≠ g; omega), fun k cur e fz hc _ => ?_⟩
  by_cases hg : k = g
  · subst hg
    exact ⟨_, heap_set_at _ _ _ _ _ _ _ hc, by simp⟩
  · exact ⟨cur, (Below.heap_setCell _ _ _ _ hg).trans hc, rfl⟩
theorem Out.below {lo hi : Nat} {w w' : World} (h : Out lo hi w w') (hl : lo ≤ w.heap.size) : Below lo w w' := ⟨h.os, h.tape, h.output, h.size, fun k hk => h.block k (by omega) (Or.inl hk)⟩
theorem Out.own {lo hi B : Nat} {w w' : World} (h : Out lo hi w w') (hB : hi ≤ B) {e : TypeId} {sz n : Nat} {v : Value} {xs : List Value} (o : w.ownsRow B e sz v n xs) : w'.ownsRow B e sz v n xs :=
  owns_same o fun k hk => by
    obtain ⟨h1, cur, h2⟩ := owns_block o k hk
    exact h.block k (Array.getElem?_eq_some_iff.1 h2).1 (Or.inr (by omega))

/-- A list with a mark behind its end, in blocks between two marks. -/
def SpA (w : World) (lo hi : Nat) (s : Sl) (A : List A2) : Prop :=
  (A = [] ∧ s = (none, 0, 0)) ∨ ∃ g c, A ≠ [] ∧ s = (some ⟨g, 0, none⟩, A.length, c) ∧ lo ≤ g ∧ g < hi ∧ A.length ≤ c ∧ OwnA w lo (.slice (some ⟨g, 0, none⟩) (A ++ [s1]).length c) (A ++ [s1])
theorem SpA.below {w w' : World} {lo hi hi' : Nat} {s : Sl} {A : List A2} (h : SpA w lo hi s A) (b : Below w.heap.size w w') (hh : hi ≤ hi') : SpA w' lo hi' s A := by
  rcases h with h | ⟨g, c, h1, h2, h3, h4, h5, h6⟩
  · exact Or.inl h
  · exact Or.inr ⟨g, c, h1, h2, h3, by omega, h5, owns_below h6 b⟩
theorem SpA.keep {w w' : World} {lo hi hi' : Nat} {s : Sl} {A : List A2} (h : SpA w lo hi s A) (b : KeepA w w') (hh : hi ≤ hi') : SpA w' lo hi' s A := by
  rcases h with h | ⟨g, c, h1, h2, h3, h4, h5, h6⟩
  · exact Or.inl h
  · exact Or.inr ⟨g, c, h1, h2, h3, by omega, h5, keepA_own h6 b⟩
theorem SpA.RN {w : World} {lo hi : Nat} {s : Sl} {A : List A2} (h : SpA w lo hi s A) : RN w (slV s) A := by
  rcases h with ⟨rfl, rfl⟩ | ⟨g, c, h1, rfl, h3, h4, h5, h6⟩
  · exact RN.nil w
  · obtain ⟨p, c', he, hc, hr⟩ := own_rowA h6
    simp only [Value.slice.injEq] at he
    obtain ⟨rfl, -, rfl⟩ := he
    refine ⟨⟨_, _, rfl, by simp at hc; omega, fun j x hx => hr j x ?_⟩, fun m c h => by simp at h⟩
    rw [List.getElem?_append_left (List.getElem?_eq_some_iff.1 hx).1]; exact hx
theorem SpA.upto {w w' : World} {lo hi hi' : Nat} {s : Sl} {A : List A2} (h : SpA w lo hi s A) (b : Below hi w w') (hh : hi ≤ hi') : SpA w' lo hi' s A := by
  rcases h with h | ⟨g, c, h1, h2, h3, h4, h5, h6⟩
  · exact Or.inl h
  · exact Or.inr ⟨g, c, h1, h2, h3, by omega, h5, owns_same h6 fun k hk => b.block k (by simp only [Value.ownBlock, Option.some.injEq] at hk; omega)⟩
theorem SpA.setBelow {w : World} {lo hi : Nat} {s : Sl} {A : List A2} (h : SpA w lo hi s A) {g : Nat} (hg : g < lo) (j : Nat) (u : Value) : SpA (w.setCell ⟨g, j, none⟩ u) lo hi s A := by
  rcases h with h | ⟨g', c, h1, h2, h3, h4, h5, h6⟩
  · exact Or.inl h
  · exact Or.inr ⟨g', c, h1, h2, h3, h4, h5, ownsRow_setCell_below h6 (a := ⟨g, j, none⟩) hg u⟩
theorem SpA.lower {w : World} {lo lo' hi : Nat} {s : Sl} {A : List A2} (h : SpA w lo hi s A) (hh : lo' ≤ lo) : SpA w lo' hi s A := by
  rcases h with h | ⟨g', c, h1, h2, h3, h4, h5, h6⟩
  · exact Or.inl h
  · exact Or.inr ⟨g', c, h1, h2, by omega, h4, h5, own_weaken h6 hh⟩
abbrev d77 : OV := (77, ⟨#[]⟩, z0, 0, (none, 0, 0))
/-- What an operation in memory is, its list with spare room. -/
def SpD (w : World) (lo hi : Nat) (D : List OV) (E : List Op5) : Prop := All2 (fun (d : OV) (e : Op5) => d.1 = e.k ∧ d.2.1 = e.t ∧ d.2.2.1 = e.v ∧ d.2.2.2.1 = e.c ∧ SpA w lo hi d.2.2.2.2 e.A) D E
/-- What operations in memory are. -/
def ReD (w : World) (D : List OV) (E : List Op5) : Prop := All2 (fun (d : OV) (e : Op5) => d.1 = e.k ∧ d.2.1 = e.t ∧ d.2.2.1 = e.v ∧ d.2.2.2.1 = e.c ∧ RN w (slV d.2.2.2.2) e.A) D E
theorem SpD.below {w w' : World} {lo hi hi' : Nat} {D : List OV} {E : List Op5} (h : SpD w lo hi D E) (b : Below w.heap.size w w') (hh : hi ≤ hi') : SpD w' lo hi' D E := All2.imp (fun d e h => ⟨h.1, h.2.1, h.2.2.1, h.2.2.2.1, h.2.2.2.2.below b hh⟩) h
theorem SpD.keep {w w' : World} {lo hi hi' : Nat} {D : List OV} {E : List Op5} (h : SpD w lo hi D E) (b : KeepA w w') (hh : hi ≤ hi') : SpD w' lo hi' D E := All2.imp (fun d e h => ⟨h.1, h.2.1, h.2.2.1, h.2.2.2.1, h.2.2.2.2.keep b hh⟩) h
theorem SpD.upto {w w' : World} {lo hi hi' : Nat} {D : List OV} {E : List Op5} (h : SpD w lo hi D E) (b : Below hi w w') (hh : hi ≤ hi') : SpD w' lo hi' D E := All2.imp (fun d e h => ⟨h.1, h.2.1, h.2.2.1, h.2.2.2.1, h.2.2.2.2.upto b hh⟩) h
theorem SpD.re {w : World} {lo hi : Nat} {D : List OV} {E : List Op5} (h : SpD w lo hi D E) : ReD w D E := All2.imp (fun d e h => ⟨h.1, h.2.1, h.2.2.1, h.2.2.2.1, h.2.2.2.2.RN⟩) h
theorem ReD.below {w w' : World} {D : List OV} {E : List Op5} (h : ReD w D E) (b : Below w.heap.size w w') : ReD w' D E := All2.imp (fun d e h => ⟨h.1, h.2.1, h.2.2.1, h.2.2.2.1, h.2.2.2.2.below b⟩) h
/-- Operations with spare room behind them, the call's own. -/
def SpO (w : World) (lo hi : Nat) (v : Value) (E : List Op5) : Prop :=
  ∃ g c D, v = .slice (some ⟨g, 0, none⟩) E.length c ∧ lo ≤ g ∧ g < hi ∧ D.length = E.length ∧ OwnO w lo (.slice (some ⟨g, 0, none⟩) (D ++ [d77]).length c) (D ++ [d77]) ∧ SpD w lo hi D E
theorem SpO.below {w w' : World} {lo hi : Nat} {v : Value} {E : List Op5} (h : SpO w lo hi v E) (b : Below w.heap.size w w') : SpO w' lo hi v E := by
  obtain ⟨g, c, D, h1, h2, h3, h4, h5, h6⟩ := h
  exact ⟨g, c, D, h1, h2, h3, h4, owns_below h5 b, h6.below b (Nat.le_refl _)⟩
/-- A row of operations to read. -/
def ReO (w : World) (v : Value) (E : List Op5) : Prop := ∃ D, RowO w v D ∧ ReD w D E
theorem ReO.below {w w' : World} {v : Value} {E : List Op5} (h : ReO w v E) (b : Below w.heap.size w w') : ReO w' v E := by
  obtain ⟨D, h1, h2⟩ := h
  exact ⟨D, h1.below b, h2.below b⟩
theorem SpO.re {w : World} {lo hi : Nat} {v : Value} {E : List Op5} (h : SpO w lo hi v E) : ReO w v E := by
  obtain ⟨g, c, D, rfl, h2, h3, h4, h5, h6⟩ := h
  refine ⟨D, ?_, h6.re⟩
  obtain ⟨p, c', he, hc, hn, hr⟩ := own_rowO h5
  simp only [Value.slice.injEq] at he
  obtain ⟨rfl, -, rfl⟩ := he
  refine ⟨_, _, by rw [h4], by simp at hc; omega, hn, fun j x hx => hr j x ?_⟩
  rw [List.getElem?_append_left (List.getElem?_eq_some_iff.1 hx).1]; exact hx
theorem keepA_grownO {w w' : World} {B : Nat} {v : Value} {D : List OV} (h : OwnO w B v D) (g : w.grownBy w' v.ownBlock) : KeepA w w' := fun k cur hk => by
  refine g.block k (Array.getElem?_eq_some_iff.1 hk).1 fun e => ?_
  rcases h.2 with ⟨rfl, _⟩ | ⟨b, cap, cur', rfl, _, h3, _⟩
  · cases e
  · simp only [Value.ownBlock, Option.some.injEq] at e
    subst e
    rw [h3] at hk
    simp only [Option.some.injEq, Obj.cells.injEq] at hk
    exact absurd hk.2.1 (by decide)
end Go.Proofs.YtplnojapnaaakaaGreatDoor
