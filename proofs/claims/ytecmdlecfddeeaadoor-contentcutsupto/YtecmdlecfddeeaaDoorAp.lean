/- A list of the call's own that is written over and grown: what that changes. -/
import Derived.Test.YtecmdlecfddeeaaDoorSpl
import Derived.ArgAppend
namespace Go.Proofs.YtecmdlecfddeeaaDoor
open Go Go.RowKit Go.Lib
set_option linter.unusedVariables false

/-- A list, in blocks between two marks, of which the shape alone is known. -/
def LiA (w : World) (L H : Nat) (v : Value) (n : Nat) : Prop :=
  (v = .slice none 0 0 ∧ n = 0) ∨ ∃ (g cap : Nat) (cur : Array Value), v = .slice (some ⟨g, 0, none⟩) n cap ∧ L ≤ g ∧ g < H ∧ w.heap[g]? = some (.cells cur 49 (0, 0)) ∧ n ≤ cap ∧ cur.size = cap * 4
theorem LiA.out {w w' : World} {L H lo hi n : Nat} {v : Value} (h : LiA w L H v n) (u : Out lo hi w w') (hh : H ≤ hi ∨ hi ≤ L) : LiA w' L H v n := by
  rcases h with h | ⟨g, cap, cur, h1, h2, h3, h4, h5, h6⟩
  · exact Or.inl h
  · rcases hh with hh | hh
    · obtain ⟨cur', h7, h8⟩ := u.shape g cur _ _ h4 (by omega)
      exact Or.inr ⟨g, cap, cur', h1, h2, h3, h7, h5, by rw [h8, h6]⟩
    · exact Or.inr ⟨g, cap, cur, h1, h2, h3, (u.block g (Array.getElem?_eq_some_iff.1 h4).1 (Or.inr (by omega))).trans h4, h5, h6⟩
theorem LiA.of_own {w : World} {B H : Nat} {v : Value} {A : List A2} (h : OwnA w B v A) (ht : ∀ k, v.ownBlock = some k → k < H) : LiA w B H v A.length := by
  rcases h.2 with h | ⟨g, cap, cur, h1, h2, h3, h4, h5, h6, h7⟩
  · exact Or.inl h
  · exact Or.inr ⟨g, cap, cur, h1, h2, ht g (by rw [h1]; rfl), h3, h4, h6⟩
/-- A place of it may be written. -/
theorem LiA.place {w : World} {L H n : Nat} {p : Option Addr} {c : Nat} (h : LiA w L H (.slice p n c) n) (hn : 0 < n) : ∃ g, p = some ⟨g, 0, none⟩ ∧ L ≤ g ∧ g < H ∧ ∀ i, i < n * 4 → (∃ u, w.cell? ⟨g, i, none⟩ = some u) ∧ w.frozen? ⟨g, i, none⟩ = false := by
  rcases h with ⟨_, h⟩ | ⟨g, cap, cur, h1, h2, h3, h4, h5, h6⟩
  · omega
  · simp only [Value.slice.injEq] at h1
    obtain ⟨rfl, -, rfl⟩ := h1
    exact ⟨g, rfl, h2, h3, fun i hi => ⟨cell_at h4 i (by omega), frozen_of_row w g i cur _ h4⟩⟩
theorem LiA.ne {w : World} {L H n g c : Nat} (h : LiA w L H (.slice (some ⟨g, 0, none⟩) n c) n) (hn : 0 < n) {gc : Nat} {cur0 : Array Value} {e0 : TypeId} (hgc : w.heap[gc]? = some (.cells cur0 e0 (0, 0))) (he : e0 ≠ 49) : g ≠ gc := fun e => by
  rcases h with ⟨_, h⟩ | ⟨g', cap, cur, h1, h2, h3, h4, h5, h6⟩
  · omega
  · simp only [Value.slice.injEq, Option.some.injEq, Addr.mk.injEq, and_true, true_and] at h1
    obtain ⟨rfl, -⟩ := h1
    subst e
    rw [h4] at hgc
    simp only [Option.some.injEq, Obj.cells.injEq] at hgc
    exact he hgc.2.1.symm
theorem out_setCells {lo hi : Nat} {w : World} {g : Nat} (h1 : lo ≤ g) (h2 : g < hi) : ∀ (vs : List Value) (o : Nat) (W : World), Out lo hi w W → Out lo hi w (W.setCells g o vs)
  | [], _, _, h => h
  | v :: r, o, W, h => by
    rw [World.setCells]
    exact out_setCells h1 h2 r (o + 1) _ (h.setCell g o v h1 h2)
theorem out_grown {lo hi : Nat} {w w' : World} (g : w.grownBy w' none) : Out lo hi w w' :=
  ⟨g.os, g.tape, g.output, g.size, fun k hk _ => g.block k hk (by simp), fun k cur e fz hc _ => ⟨cur, (g.block k (Array.getElem?_eq_some_iff.1 hc).1 (by simp)).trans hc, rfl⟩⟩

/-- append(such a list, one pair): nothing but its own block is changed, whether there is room or not. -/
theorem wpList_append_out {w : World} {ops : Array Oper} {rest : List Oper} {o : Oper} {a : Act} {Q : Exit → Act → World → Prop} (hgd : o.guard = none) (s x : Operand)
    (ho : o.op = .call { callee := .builtin .append, args := #[s, x], argTypes := #[24, 24] })
    (L H : Nat) (v : Value) (n : Nat) (hs : a.eval s = v) (hv : LiA w L H v n)
    (b c : Nat) (q : A2) (hx : a.eval x = .slice (some ⟨b, 0, none⟩) 1 c) (hM : PairAt w b 0 q) (h63 : n ≤ 2097152)
    (h : ∀ p c' w', Out L H w w' → wpList Tryd.prog ops Q rest (a.put o.dst (.slice p (n + 1) c')) w') : wpList Tryd.prog ops Q (o :: rest) a w := by
  obtain ⟨i, z, hi, hz, hz1, hz2, hz3⟩ := infoAt
  have hnew : ∀ (j : Nat) (u : Value), (cellsA [q])[j]? = some u → w.cell? ((⟨b, 0, none⟩ : Addr).add j) = some u := fun j u hu => by
    obtain ⟨k, q', hq, hh⟩ := cellsA_inv [q] j u hu
    have hk : k = 0 := by rcases k with _ | k; rfl; simp at hq
    subst hk
    obtain rfl : q = q' := by simpa using hq
    obtain ⟨h0, h1, h2, h3⟩ := hM
    rw [Addr.add_lit]
    rcases hh with ⟨rfl, rfl⟩ | ⟨rfl, rfl⟩ | ⟨rfl, rfl⟩ | ⟨rfl, rfl⟩
    · exact h0
    · exact h1
    · exact h2
    · exact h3
  have fin : ∀ (v' : Value) (w' : World) (B : Nat) (xs : List Value), w'.ownsRow B 49 4 v' (n + 1) xs → Out L H w w' → wpList Tryd.prog ops Q rest (a.put o.dst v') w' := fun v' w' B xs hw hu => by
    rcases hw.2 with ⟨_, h0⟩ | ⟨g, cap, cur, h1, _⟩
    · omega
    · rw [h1]; exact h _ _ _ hu
  rcases hv with ⟨rfl, rfl⟩ | ⟨g, cap, cur, rfl, h2, h3, h4, h5, h6⟩
  · exact wpList_append_grows w hgd s x _ ho 49 i z 4 48 Tryd.underlying24 hi hz hz1 hz2 hz3 (by decide) none 0 0 [] hs (fun _ => ⟨rfl, rfl⟩) rfl (fun b hb => (by cases hb)) ⟨b, 0, none⟩ 1 c (cellsA [q]) hx rfl hnew (cellsA_one _) (by decide) (by unfold maxLen; omega) (by omega) (fun v' w' r1 r2 => fin v' w' _ _ r1 (out_grown r2))
  · refine wpList_append_arg w hgd s x _ ho 49 i z 4 48 Tryd.underlying24 hi hz hz1 hz2 hz3 (by decide) g 0 n cap (cur.toList.take (n * 4)) hs (by rw [List.length_take, Array.length_toList, h6]; omega) (fun j u hu => ?_) ⟨b, 0, none⟩ 1 c (cellsA [q]) hx rfl hnew (cellsA_one _) (fun hr j hj => ?_) (by unfold maxLen; omega) (by omega) (fun hr => ?_) (fun hr v' w' r1 r2 => fin v' w' _ _ r1 (out_grown r2))
    · have hj := (List.getElem?_eq_some_iff.1 hu).1
      rw [List.getElem?_take] at hu
      split at hu
      · rw [Nat.zero_add]
        simp only [World.cell?, h4]
        simpa using hu
      · cases hu
    · have hj' : j < 4 := by simpa [cellsA] using hj
      rw [Nat.zero_add]
      exact ⟨by obtain ⟨u, hu⟩ := cell_at h4 (n * 4 + j) (by omega); rw [hu]; rfl, frozen_of_row w g _ cur _ h4⟩
    · exact h _ _ _ (out_setCells h2 h3 _ _ _ (Out.refl _ _ _))

/-- Cells and their lists, the call's own, in blocks between two marks. -/
structure CIn (w : World) (L H : Nat) (v : Value) (D : List CV) (E : List C5) : Prop where
  own : OwnC w L v D
  are : AreO w L D E
  top : ∀ k, v.ownBlock = some k → k < H
  tops : ∀ d ∈ D, ∀ k, (slV d.2.2.2).ownBlock = some k → k < H
theorem all2_left {α β : Type} {R : α → β → Prop} : ∀ {l : List α} {m : List β}, All2 R l m → ∀ a ∈ l, ∃ b, R a b
  | _, _, .nil, a, h => by cases h
  | _, _, .cons hr t, a, h => by
    rcases List.mem_cons.1 h with rfl | h
    · exact ⟨_, hr⟩
    · exact all2_left t a h
theorem CIn.new {w : World} {B : Nat} {v : Value} {D : List CV} {E : List C5} (h : OwnC w B v D) (h' : AreO w B D E) : CIn w B w.heap.size v D E :=
  ⟨h, h', fun k hk => by obtain ⟨_, cur, hc⟩ := owns_block h k hk; exact (Array.getElem?_eq_some_iff.1 hc).1, fun d hd k hk => by
    obtain ⟨e, he⟩ := all2_left h' d hd
    obtain ⟨_, cur, hc⟩ := owns_block he.2.2.2 k hk
    exact (Array.getElem?_eq_some_iff.1 hc).1⟩
theorem CIn.below {w w' : World} {L H : Nat} {v : Value} {D : List CV} {E : List C5} (h : CIn w L H v D E) (b : Below w.heap.size w w') : CIn w' L H v D E :=
  ⟨owns_below h.own b, h.are.keep (keepA_below b), h.top, h.tops⟩
theorem CIn.out {w w' : World} {L H lo hi : Nat} {v : Value} {D : List CV} {E : List C5} (h : CIn w L H v D E) (u : Out lo hi w w') (hL : hi ≤ L) : CIn w' L H v D E :=
  ⟨u.own hL h.own, All2.imp (fun d e x => ⟨x.1, x.2.1, x.2.2.1, u.own hL x.2.2.2⟩) h.are, h.top, h.tops⟩
end Go.Proofs.YtecmdlecfddeeaaDoor
