/- Appends of pairs onto a row of the call's own; small facts of rows. -/
import Derived.Test.YtplnojapnaaakaaGreatDoorPJp
import Derived.Laws.AppendOwn
import Derived.Laws.AppendOwnNone
namespace Go.Proofs.YtplnojapnaaakaaGreatDoor
open Go Go.RowKit Go.Lib
set_option linter.unusedVariables false
theorem own_empty' (w : World) (B : Nat) (hB : B ≤ w.heap.size) : OwnA (w.alloc (.cells #[] 154)) B (.slice (some ⟨w.heap.size, 0, none⟩) 0 0) [] :=
  ⟨rfl, Or.inr ⟨w.heap.size, 0, #[], rfl, hB, by show (w.heap.push _)[w.heap.size]? = _; simp, Nat.le_refl _, Nat.zero_le _, rfl, rfl⟩⟩
theorem own_nil {w : World} {B : Nat} {v : Value} {L : List A2} (h : OwnA w B v L) : ∀ m c, v = .slice none m c → m = 0 ∧ c = 0 := fun m c e => by
  rcases h.2 with ⟨h1, _⟩ | ⟨g, cap, cur, h1, _⟩
  · rw [h1] at e; simp only [Value.slice.injEq] at e; exact ⟨e.2.1.symm, e.2.2.symm⟩
  · rw [h1] at e; simp only [Value.slice.injEq] at e; cases e.1
theorem neq_pl (p q : P3) (b : Bool) (h : (!samP p q) = b) (w : World) : (binOp .neq 30 (plV p) (plV q)).run Tryz.prog w = .ok (.bool b) w := by
  rw [run_neq_struct, show (Op.equalIn 10000 30 (plV p) (plV q)).run Tryz.prog w = .ok (samP p q) w from eqIn_pl p.1 p.2.1 p.2.2 q.1 q.2.1 q.2.2 w, ← h]; rfl
theorem guard_pl (op : BinOp) (x y : Operand) (p q : P3) (w : World) : (eqGuard op 30 x y (plV p) (plV q)).run Tryz.prog w = .ok () w := run_eqGuard_agg w op _ x y _ _ (by kernel_rfl)
theorem PairAt.grown {w w' : World} {E o : Nat} {q : A2} {row : Option Nat} (h : PairAt w E o q) (g : w.grownBy w' row) (hne : some E ≠ row) : PairAt w' E o q := by
  have hb : ∀ i, w'.cell? ⟨E, i, none⟩ = w.cell? ⟨E, i, none⟩ := fun i => World.cell?_of_block (a := ⟨E, i, none⟩) (g.block E h.lt hne)
  exact ⟨(hb _).trans h.c0, (hb _).trans h.c1, (hb _).trans h.c2, (hb _).trans h.c3⟩
/-- append(own, one pair), with where the new slice lies. -/
theorem wpList_append_atx {w : World} {ops : Array Oper} {rest : List Oper} {o : Oper} {a : Act} {Q : Exit → Act → World → Prop} (hgd : o.guard = none) (s x : Operand)
    (ho : o.op = .call { callee := .builtin .append, args := #[s, x], argTypes := #[31, 31] })
    (base : Nat) (v : Value) (L : List A2) (hs : a.eval s = v) (hown : OwnA w base v L)
    (b off m c : Nat) (M : List A2) (hx : a.eval x = .slice (some ⟨b, off, none⟩) m c) (hm : M.length = m) (hM : ∀ (j : Nat) (q : A2), M[j]? = some q → PairAt w b (off + j * 4) q)
    (h63 : L.length + m ≤ 2097152) (hbase : base ≤ w.heap.size)
    (h : ∀ v' w', OwnA w' base v' (L ++ M) → w.grownBy w' v.ownBlock → (v'.ownBlock = v.ownBlock ∨ v'.ownBlock = some w.heap.size) → wpList Tryz.prog ops Q rest (a.put o.dst v') w') : wpList Tryz.prog ops Q (o :: rest) a w := by
  obtain ⟨i, z, hi, hz, hz1, hz2, hz3⟩ := infoAt
  refine wpList_append_own_at _ hgd s x _ ho base 154 i z 4 48 Tryz.underlying31 hi hz hz1 hz2 hz3 (by decide) v L.length (cellsA L) hs hown ⟨b, off, none⟩ m c (cellsA M) hx (by rw [cellsA_len, hm]) (fun j u hu => ?_) (cellsA_one _) (by unfold maxLen; omega) (by omega) hbase (fun v' w' h1 h2 _ h4 => ?_)
  · obtain ⟨k, q, hq, hh⟩ := cellsA_inv M j u hu
    obtain ⟨h0, h1, h2, h3⟩ := hM k q hq
    rw [Addr.add_lit]
    rcases hh with ⟨rfl, rfl⟩ | ⟨rfl, rfl⟩ | ⟨rfl, rfl⟩ | ⟨rfl, rfl⟩
    · exact h0
    · exact h1
    · exact h2
    · exact h3
  · refine h v' w' ?_ h2 h4
    show w'.ownsRow _ _ _ _ _ _
    rw [cellsA_append, List.length_append, hm]
    exact h1
/-- append(own, nothing): the array is there, its length is 0. -/
theorem wpList_append_emp {w : World} {ops : Array Oper} {rest : List Oper} {o : Oper} {a : Act} {Q : Exit → Act → World → Prop} (hgd : o.guard = none) (s x : Operand)
    (ho : o.op = .call { callee := .builtin .append, args := #[s, x], argTypes := #[31, 31] })
    (base : Nat) (v : Value) (L : List A2) (hs : a.eval s = v) (hown : OwnA w base v L)
    (ad : Addr) (nx c : Nat) (hx : a.eval x = .slice (some ad) nx c) (hnx : nx = 0) (h63 : L.length ≤ 2097152) (hbase : base ≤ w.heap.size)
    (h : ∀ v' w', OwnA w' base v' L → w.grownBy w' v.ownBlock → (v'.ownBlock = v.ownBlock ∨ v'.ownBlock = some w.heap.size) → wpList Tryz.prog ops Q rest (a.put o.dst v') w') : wpList Tryz.prog ops Q (o :: rest) a w := by
  obtain ⟨i, z, hi, hz, hz1, hz2, hz3⟩ := infoAt
  subst hnx
  refine wpList_append_own_at _ hgd s x _ ho base 154 i z 4 48 Tryz.underlying31 hi hz hz1 hz2 hz3 (by decide) v L.length (cellsA L) hs hown ad 0 c [] hx rfl (fun j u hu => by simp at hu) (fun u hu => by cases hu) (by unfold maxLen; omega) (by omega) hbase (fun v' w' h1 h2 _ h4 => ?_)
  exact h v' w' (by simpa using h1) h2 h4
theorem one_at {w : World} {b : Nat} {q : A2} (h : PairAt w b 0 q) : ∀ (j : Nat) (x : A2), [q][j]? = some x → PairAt w b (0 + j * 4) x := fun j x hx => by
  match j, hx with
  | 0, hx => obtain rfl : q = x := by simpa using hx
             exact h
  | j + 1, hx => simp at hx
/-- append(own, a row). -/
theorem wpList_append_row {w : World} {ops : Array Oper} {rest : List Oper} {o : Oper} {a : Act} {Q : Exit → Act → World → Prop} (hgd : o.guard = none) (s x : Operand)
    (ho : o.op = .call { callee := .builtin .append, args := #[s, x], argTypes := #[31, 31] })
    (base : Nat) (v : Value) (L : List A2) (hs : a.eval s = v) (hown : OwnA w base v L)
    (u : Value) (A : List A2) (hx : a.eval x = u) (hA : RowA w u A) (zA : ∀ m c, u = .slice none m c → m = 0 ∧ c = 0)
    (h63 : L.length + A.length ≤ 2097152) (hbase : base ≤ w.heap.size)
    (h : ∀ v' w', OwnA w' base v' (L ++ A) → w.grownBy w' v.ownBlock → wpList Tryz.prog ops Q rest (a.put o.dst v') w') : wpList Tryz.prog ops Q (o :: rest) a w := by
  obtain ⟨p, cap, rfl, hcap, hc⟩ := hA
  cases A with
  | nil =>
    cases p with
    | none =>
      obtain ⟨_, rfl⟩ := zA _ _ rfl
      obtain ⟨i, z, hi, _⟩ := infoAt
      exact wpList_append_own_none hgd s x 31 ho base 154 i 4 Tryz.underlying31 hi v L.length (cellsA L) hs hown hx (h v w (by simpa using hown) ⟨rfl, rfl, rfl, Nat.le_refl _, fun _ _ _ => rfl⟩)
    | some ad => exact wpList_append_emp hgd s x ho base v L hs hown ad _ _ hx rfl (by simp at h63; omega) hbase (fun v' w' h1 h2 _ => h v' w' (by simpa using h1) h2)
  | cons q r =>
    obtain ⟨b, off, rfl, _⟩ := hc 0 q rfl
    exact wpList_append_atx hgd s x ho base v L hs hown b off _ _ (q :: r) hx rfl (fun j y hy => by
      obtain ⟨b', off', he, h1⟩ := hc j y hy
      cases he
      exact h1) h63 hbase (fun v' w' h1 h2 _ => h v' w' h1 h2)
end Go.Proofs.YtplnojapnaaakaaGreatDoor
