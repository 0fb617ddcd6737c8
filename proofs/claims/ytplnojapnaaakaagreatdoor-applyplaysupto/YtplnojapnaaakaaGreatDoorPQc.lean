/- ops: lists of pieces as rows of memory; the first operation that isn't well formed. -/
import Derived.Test.YtplnojapnaaakaaGreatDoorPQb
import Derived.Test.YtplnojapnaaakaaGreatDoorPSpo
import Derived.Laws.OwnMore
namespace Go.Proofs.YtplnojapnaaakaaGreatDoor
open Go Go.RowKit Go.Lib
set_option linter.unusedVariables false
/-- The first operation that isn't well formed: its number, its error. -/
def badP : List Op5 → Nat × Nat
  | [] => (0, 0)
  | o :: r => if opE o ≠ 0 then (0, opE o) else if (badP r).2 = 0 then (0, 0) else ((badP r).1 + 1, (badP r).2)
theorem bad_none : ∀ {E : List Op5}, (∀ o ∈ E, opE o = 0) → badP E = (0, 0)
  | [], _ => rfl
  | o :: r, h => by
    have := bad_none (E := r) fun x hx => h x (List.mem_cons_of_mem _ hx)
    rw [badP, if_neg (by simpa using h o (List.mem_cons_self ..)), this]
    rfl
theorem bad_at : ∀ {E : List Op5} {k : Nat} {o : Op5}, E[k]? = some o → (∀ x ∈ E.take k, opE x = 0) → opE o ≠ 0 → badP E = (k, opE o)
  | [], k, o, h, _, _ => by simp at h
  | x :: r, 0, o, h, _, he => by
    obtain rfl : x = o := by simpa using h
    rw [badP, if_pos he]
  | x :: r, k + 1, o, h, hg, he => by
    have := bad_at (E := r) (k := k) (by simpa using h) (fun y hy => hg y (by simp [hy])) he
    rw [badP, if_neg (by simpa using hg x (by simp)), this, if_neg he]
theorem pieceQ_if (o : Op5) (s : Value) : ∃ u x, pieceQ o s = .iface u x := by
  unfold pieceQ
  split
  · exact ⟨_, _, rfl⟩
  · split
    · exact ⟨_, _, rfl⟩
    · split <;> exact ⟨_, _, rfl⟩
/-- A row of pieces of the call's own. -/
abbrev OwnI (w : World) (B : Nat) (v : Value) (P : List Value) : Prop := w.ownsRow B 56 1 v P.length P
/-- What pieces are, their lists the call's own. -/
def PieD (w : World) (B : Nat) (P : List Value) (E : List Op5) : Prop := All2 (fun (p : Value) (o : Op5) => ∃ s, p = pieceQ o s ∧ OwnA w B s o.A) P E
theorem PieD.below {w w' : World} {B : Nat} {P : List Value} {E : List Op5} (h : PieD w B P E) (b : Below w.heap.size w w') : PieD w' B P E := All2.imp (fun p o ⟨s, h1, h2⟩ => ⟨s, h1, owns_below h2 b⟩) h
theorem PieD.keep {w w' : World} {B : Nat} {P : List Value} {E : List Op5} (h : PieD w B P E) (b : KeepA w w') : PieD w' B P E := All2.imp (fun p o ⟨s, h1, h2⟩ => ⟨s, h1, keepA_own h2 b⟩) h
theorem PieD.weaken {w : World} {B B' : Nat} {P : List Value} {E : List Op5} (h : PieD w B P E) (hb : B' ≤ B) : PieD w B' P E := All2.imp (fun p o ⟨s, h1, h2⟩ => ⟨s, h1, own_weaken h2 hb⟩) h
theorem keepA_grownI {w w' : World} {B : Nat} {v : Value} {P : List Value} (h : OwnI w B v P) (g : w.grownBy w' v.ownBlock) : KeepA w w' := fun k cur hk => by
  refine g.block k (Array.getElem?_eq_some_iff.1 hk).1 fun e => ?_
  rcases h.2 with ⟨rfl, _⟩ | ⟨b, cap, cur', rfl, _, h3, _⟩
  · cases e
  · simp only [Value.ownBlock, Option.some.injEq] at e
    subst e
    rw [h3] at hk
    simp only [Option.some.injEq, Obj.cells.injEq] at hk
    exact absurd hk.2.1 (by decide)
theorem infoPi : ∃ i z, Tryz.prog.info? 56 = some i ∧ i.zero = some z ∧ i.size = 1 ∧ i.bytes = 16 ∧ z.cells.size = 1 := by
  obtain ⟨i, hi, h⟩ := Option.map_eq_some_iff.1 (show (Tryz.prog.info? 56).map (fun i => (i.zero, i.size, i.bytes)) = some (some .nilIface, 1, 16) by kernel_rfl)
  simp only [Prod.mk.injEq] at h
  exact ⟨i, _, hi, h.1, h.2.1, h.2.2, rfl⟩
theorem wpList_make_pi (w : World) {ops : Array Oper} {rest : List Oper} {o : Oper} {a : Act} {Q : Exit → Act → World → Prop}
    (hg : o.guard = none) (l c : Operand) (hop : o.op = Op.makeSlice 88 l c) (base : Nat)
    (kl kc : IntKind) (C : Int) (n : Nat) (hl : a.eval l = .int kl 0) (hc : a.eval c = .int kc C) (hC : C = (n : Int)) (b2 : n ≤ 1048577) (b4 : base ≤ w.heap.size)
    (hK : ∀ v w', w'.ownsRow base 56 1 v 0 [] → w.grownBy w' none → wpList Tryz.prog ops Q rest (a.put o.dst v) w') :
    wpList Tryz.prog ops Q (o :: rest) a w := by
  obtain ⟨i, z, hi, hz, hz1, hz2, hz3⟩ := infoPi
  exact wpList_make_own w hg l c _ hop base 56 i z 1 Tryz.underlying88 hi hz hz1 kl kc C n hl hc hC (by rw [hz2]; omega) (by unfold maxLen; omega) b4 fun w' h1 h2 => hK _ w' h1 h2
theorem wpList_append_pi {w : World} {ops : Array Oper} {rest : List Oper} {o : Oper} {a : Act} {Q : Exit → Act → World → Prop} (hgd : o.guard = none) (s x : Operand)
    (ho : o.op = .call { callee := .builtin .append, args := #[s, x], argTypes := #[88, 88] })
    (base : Nat) (v : Value) (P : List Value) (hs : a.eval s = v) (hown : OwnI w base v P)
    (b c : Nat) (u : Value) (hx : a.eval x = .slice (some ⟨b, 0, none⟩) 1 c) (hu : w.cell? ⟨b, 0, none⟩ = some u) (h1 : u.oneCell' = true)
    (h63 : P.length ≤ 1048677) (hbase : base ≤ w.heap.size)
    (h : ∀ v' w', OwnI w' base v' (P ++ [u]) → w.grownBy w' v.ownBlock → wpList Tryz.prog ops Q rest (a.put o.dst v') w') : wpList Tryz.prog ops Q (o :: rest) a w := by
  obtain ⟨i, z, hi, hz, hz1, hz2, hz3⟩ := infoPi
  exact wpList_append_own _ hgd s x _ ho base 56 i z 1 16 Tryz.underlying88 hi hz hz1 hz2 hz3 (by decide) v P.length P hs hown ⟨b, 0, none⟩ 1 c [u] hx rfl (by intro j y hj; cases j with | zero => (simp at hj; subst hj; exact hu) | succ j => simp at hj) (fun y hy => by rw [List.mem_singleton.1 hy]; exact h1) (by unfold maxLen; omega) (by omega) hbase (fun v' w' h1 h2 _ => h v' w' (by show w'.ownsRow _ _ _ _ _ _; rw [List.length_append]; exact h1) h2)
end Go.Proofs.YtplnojapnaaakaaGreatDoor
