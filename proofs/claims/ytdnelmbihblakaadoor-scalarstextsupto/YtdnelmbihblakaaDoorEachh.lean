/- vellumlaw01.each answers true of every text, its scalars, and every number. -/
import Derived.Test.YtdnelmbihblakaaDoorEach
import Derived.Test.YtdnelmbihblakaaDoorRef
namespace Go.Proofs.YtdnelmbihblakaaDoor
open Go Go.RowKit Go.Lib Go.Shelf
set_option linter.unusedVariables false
attribute [local go_sem] Oper.semAt_some

theorem cell_new_l (W : World) (v : Value) (t : TypeId) : (W.alloc (.cells #[v] t)).cell? ⟨W.heap.size, 0, none⟩ = some v ∧ (W.alloc (.cells #[v] t)).frozen? ⟨W.heap.size, 0, none⟩ = false :=
  ⟨by simp, by simp⟩
theorem cell_alloc_l {W : World} {a : Addr} {v : Value} (o : Obj) (h : W.cell? a = some v) : (W.alloc o).cell? a = some v := cell_kept h (World.grownBy_alloc W o none) (fun r e => by cases e)
theorem frozen_alloc_l {W : World} {a : Addr} {v : Value} (o : Obj) (h : W.cell? a = some v) (hf : W.frozen? a = false) : (W.alloc o).frozen? a = false := (frozen_kept h (World.grownBy_alloc W o none) (fun r e => by cases e)).trans hf

theorem boxes4 (w : World) (a b c d : Value) (ta tb tc td : TypeId) (W0 : World) (h : (((w.alloc (.cells #[a] ta)).alloc (.cells #[b] tb)).alloc (.cells #[c] tc)).alloc (.cells #[d] td) = W0) :
    Below w.heap.size w W0 ∧ W0.heap.size = w.heap.size + 1 + 1 + 1 + 1 ∧ W0.cell? ⟨w.heap.size, 0, none⟩ = some a ∧ W0.cell? ⟨w.heap.size + 1, 0, none⟩ = some b ∧ W0.cell? ⟨w.heap.size + 1 + 1, 0, none⟩ = some c ∧
      W0.frozen? ⟨w.heap.size + 1 + 1, 0, none⟩ = false ∧ W0.cell? ⟨w.heap.size + 1 + 1 + 1, 0, none⟩ = some d := by
  subst h
  have q0 := cell_new_l w a ta
  have q1 := cell_new_l (w.alloc (.cells #[a] ta)) b tb
  have q2 := cell_new_l ((w.alloc (.cells #[a] ta)).alloc (.cells #[b] tb)) c tc
  have q3 := cell_new_l (((w.alloc (.cells #[a] ta)).alloc (.cells #[b] tb)).alloc (.cells #[c] tc)) d td
  simp only [World.size_alloc] at q1 q2 q3
  exact ⟨((((Below.refl _ w).alloc (Nat.le_refl _) _).alloc (by simp) _).alloc (by simp; omega) _).alloc (by simp; omega) _, by simp, cell_alloc_l _ (cell_alloc_l _ (cell_alloc_l _ q0.1)), cell_alloc_l _ (cell_alloc_l _ q1.1), cell_alloc_l _ q2.1, frozen_alloc_l _ q2.1 q2.2, q3.1⟩

theorem boxes2 (w : World) (a b : Value) (ta tb : TypeId) (W0 : World) (h : (w.alloc (.cells #[a] ta)).alloc (.cells #[b] tb) = W0) :
    Below w.heap.size w W0 ∧ W0.heap.size = w.heap.size + 1 + 1 ∧ (W0.cell? ⟨w.heap.size, 0, none⟩ = some a ∧ W0.frozen? ⟨w.heap.size, 0, none⟩ = false) ∧ (W0.cell? ⟨w.heap.size + 1, 0, none⟩ = some b ∧ W0.frozen? ⟨w.heap.size + 1, 0, none⟩ = false) := by
  subst h
  have q0 := cell_new_l w a ta
  have q1 := cell_new_l (w.alloc (.cells #[a] ta)) b tb
  simp only [World.size_alloc] at q1
  exact ⟨((Below.refl _ w).alloc (Nat.le_refl _) _).alloc (by simp) _, by simp, ⟨cell_alloc_l _ q0.1, frozen_alloc_l _ q0.1 q0.2⟩, q1⟩

/-- Between two rounds. -/
def EI (rs : List Nat) (w0 : World) (pre : List (Nat × Nat)) (W : World) : Prop :=
  ((pre = (tgt rs).take pre.length ∧ pre.length ≤ rs.length) ∧ (W.cell? ⟨w0.heap.size, 0, none⟩ = some (.int .i64 (pre.length : Nat)) ∧ W.frozen? ⟨w0.heap.size, 0, none⟩ = false) ∧
    W.cell? ⟨w0.heap.size + 1, 0, none⟩ = some (.int .i64 (pos rs pre.length : Nat)) ∧ W.frozen? ⟨w0.heap.size + 1, 0, none⟩ = false) ∧ Below w0.heap.size w0 W
theorem EI_own (rs : List Nat) (w0 : World) (B : Nat) (hB : w0.heap.size ≤ B) : OwnFrom B (EI rs w0) :=
  OwnFrom.and (Own.from (fun s A C row hs hg hr => ⟨hs.1, ⟨cell_kept hs.2.1.1 hg hr, (frozen_kept hs.2.1.1 hg hr).trans hs.2.1.2⟩, cell_kept hs.2.2.1 hg hr, (frozen_kept hs.2.2.1 hg hr).trans hs.2.2.2⟩) _) (ownFrom_below (Nat.le_refl _) hB)
/-- How a round is left. -/
def EX (rs : List Nat) (w0 : World) (turn stop : Int) (c : Code) (pre : List (Nat × Nat)) (W : World) : Prop :=
  (c = .exit 2 ∧ turn = 0 ∧ (pre.length : Int) > stop ∧ EI rs w0 pre W) ∨ (c = .ret ∧ ¬ pre <+: tgt rs)
theorem EX_own (rs : List Nat) (w0 : World) (turn stop : Int) (B : Nat) (hB : w0.heap.size ≤ B) (c : Code) : OwnFrom B (EX rs w0 turn stop c) := fun s A C row hs hg hr => by
  rcases hs with ⟨h1, h2, h3, h4⟩ | h
  · exact .inl ⟨h1, h2, h3, EI_own rs w0 B hB s A C row h4 hg hr⟩
  · exact .inr h

theorem EI_step {rs : List Nat} {w0 W w' : World} {k P R L : Nat} {va vi : Int} {pre : List (Nat × Nat)} (hw : Below W.drew.heap.size W.drew w') (h : EI rs w0 pre W)
    (hsn : pre ++ [(P, R)] = (tgt rs).take (k + 1)) (hps : pos rs (k + 1) = P + L) (hlen : k + 1 ≤ rs.length) (hk : pre.length = k) (ea : va = (P : Int) + L) (ei : vi = (k : Int) + 1) :
    KeepsOthers W ((w'.setCell ⟨w0.heap.size + 1, 0, none⟩ (.int .i64 va)).setCell ⟨w0.heap.size, 0, none⟩ (.int .i64 vi)) ∧
    Below w0.heap.size W ((w'.setCell ⟨w0.heap.size + 1, 0, none⟩ (.int .i64 va)).setCell ⟨w0.heap.size, 0, none⟩ (.int .i64 vi)) ∧
    EI rs w0 (pre ++ [(P, R)]) ((w'.setCell ⟨w0.heap.size + 1, 0, none⟩ (.int .i64 va)).setCell ⟨w0.heap.size, 0, none⟩ (.int .i64 vi)) := by
  have hw2 : Below W.heap.size W w' := ((Below.refl W.heap.size W).drew).trans hw
  obtain ⟨⟨⟨hpre, hpl⟩, ⟨hci, hfi⟩, ⟨hca, hfa⟩⟩, hB⟩ := h
  have e1 : vi = ((k + 1 : Nat) : Int) := by rw [ei]; rfl
  have e2 : va = ((P + L : Nat) : Int) := by rw [ea]; exact (Int.natCast_add P L).symm
  rw [e1, e2]
  have hca' := (hw2.cell (lt_of_cell hca)).trans hca
  have hci' := (hw2.cell (lt_of_cell hci)).trans hci
  have hfa' := (hw2.frozen (lt_of_cell hca)).trans hfa
  have hfi' := (hw2.frozen (lt_of_cell hci)).trans hfi
  have hB0 : Below w0.heap.size W w' := hw2.mono hB.size
  have hB2 : Below w0.heap.size W ((w'.setCell ⟨w0.heap.size + 1, 0, none⟩ (.int .i64 (P + L : Nat))).setCell ⟨w0.heap.size, 0, none⟩ (.int .i64 (k + 1 : Nat))) :=
    (hB0.setCell (p := ⟨w0.heap.size + 1, 0, none⟩) (by show w0.heap.size ≤ w0.heap.size + 1; omega) _).setCell (p := ⟨w0.heap.size, 0, none⟩) (Nat.le_refl _) _
  have n1 : (⟨w0.heap.size, 0, none⟩ : Addr) ≠ ⟨w0.heap.size + 1, 0, none⟩ := by simp
  have hl : (pre ++ [(P, R)]).length = k + 1 := by rw [List.length_append, hk, List.length_singleton]
  refine ⟨((others_of_below hw2).trans (KeepsOthers.setCell _ _ _)).trans (KeepsOthers.setCell _ _ _), hB2, ⟨⟨by rw [hl]; exact hsn, by rw [hl]; exact hlen⟩, ⟨?_, ?_⟩, ⟨?_, ?_⟩⟩, hB.trans hB2⟩
  · rw [hl]
    exact World.cell?_setCell_same' _ _ _ (by rw [World.cell?_setCell_other _ _ _ _ (Ne.symm n1), hci']; rfl)
  · rw [World.frozen?_setCell, World.frozen?_setCell]; exact hfi'
  · rw [hl, hps, World.cell?_setCell_other _ _ _ _ n1]
    exact World.cell?_setCell_same' _ _ _ (by rw [hca']; rfl)
  · rw [World.frozen?_setCell, World.frozen?_setCell]; exact hfa'
end Go.Proofs.YtdnelmbihblakaaDoor
