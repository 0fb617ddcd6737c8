/- The canonical list while it is made: sizes. The document's deltas: Canonical. The document's op, Doc, Of, SameList of layer 9. vellumlaw09.large, vellumlaw09.lives. vellumhand.Ops: operations as new memory, with spare room. The errors' numbers: what vellumnum.list and vellumnum.Num answer where all nineteen sentinels lie as laid. vellumhand.Kept and vellumlaw03.same. vellumhand.KeptOps: what Ops made is still what it made. vellumspare.Spoil: writes over operations and their lists, and nothing else. vellumhand.OverOps: operations written over, their lists too, and grown. What writing over a list leaves of deltas; build.Same. Of all lists of cells vellumlaw09.CellsBack answers true. vellumlaw09.told: what cells.Each tells. A region that draws its order, in a round of a range over a function: the plain kit's walk of it (held at S) serves: its laws, and those by which it is walked by hand. vellumlaw09.stops: cells.Each, stopped. -/
import Derived.Test.YthfpmhnnjjikcaaGreatDoorMgg
import Derived.Test.YthfpmhnnjjikcaaGreatDoorOw
import Derived.Deep.RegionHeld3
import Derived.Test.YthfpmhnnjjikcaaGreatDoorMgf
import Derived.Deep.DeepCutAuto
import Derived.Test.YthfpmhnnjjikcaaGreatDoorEr
import Derived.Test.YthfpmhnnjjikcaaGreatDoorSpo
import Derived.Test.YthfpmhnnjjikcaaGreatDoorMge
import Derived.OrdersIn
import Derived.OwnWalkIn
import Derived.RangeFuncCalls

/- The canonical list while it is made: sizes. -/
namespace Go.Proofs.YthfpmhnnjjikcaaGreatDoor
open Go Go.RowKit Go.Lib
set_option linter.unusedVariables false

theorem base_jn {x o : Op5} (hk : x.k = o.k) : baseO (jnO x o) = baseO x + baseO o ∨ o.k = 1 ∨ o.k = 2 := by
  by_cases h : o.k = 3 ∨ o.k = 4
  · left
    rw [base_3 h, base_3 (o := x) (by omega), base_3 (o := jnO x o) (by show x.k = 3 ∨ x.k = 4; omega)]
    rfl
  · by_cases h1 : o.k = 1
    · exact Or.inr (Or.inl h1)
    · by_cases h2 : o.k = 2
      · exact Or.inr (Or.inr h2)
      · left
        have e : ∀ y : Op5, y.k = o.k → baseO y = 0 := fun y hy => by unfold baseO; rw [if_neg (by omega)]
        rw [e x hk, e o rfl, e (jnO x o) hk]; rfl
/-- Lists of operations put together bit by bit: sizes. -/
structure PQ (P : List Op5) (T : Nat) (S : Int) (L : Nat) : Prop where
  wel : ∀ x ∈ P, Wel x ∧ x.A.length ≤ 1048576
  txt : txtS P ≤ T
  sum : sumB P ≤ S
  len : P.length ≤ L
theorem PQ.push {P : List Op5} {T L : Nat} {S : Int} {o : Op5} (h : PQ P T S L) (ho : Wel o) (hA : o.A.length ≤ 1048576) : PQ (pushL P o) (T + o.t.size) (S + baseO o) (L + 1) := by
  obtain ⟨s1, s2⟩ := push_size P o
  have h1 := h.txt
  have h2 := h.len
  have h3 := h.sum
  refine ⟨?_, by omega, ?_, by omega⟩
  · rcases List.eq_nil_or_concat P with rfl | ⟨F, x, rfl⟩
    · rw [push_nil]; intro y hy; rw [List.mem_singleton.1 hy]; exact ⟨ho, hA⟩
    · rw [List.concat_eq_append] at h ⊢
      by_cases hj : x.k ≠ o.k ∨ o.k = 2 ∨ x.A ≠ o.A
      · rw [push_apart hj]
        intro y hy
        rcases List.mem_append.1 hy with hy | hy
        · exact h.wel y hy
        · rw [List.mem_singleton.1 hy]; exact ⟨ho, hA⟩
      · rw [push_join hj]
        have hx := h.wel x (List.mem_append_right _ (List.mem_singleton.2 rfl))
        have hk : x.k = o.k := Decidable.byContradiction fun e => hj (Or.inl e)
        have h2' : o.k ≠ 2 := fun e => hj (Or.inr (Or.inl e))
        have hA' : x.A = o.A := Decidable.byContradiction fun e => hj (Or.inr (Or.inr e))
        intro y hy
        rcases List.mem_append.1 hy with hy | hy
        · exact h.wel y (List.mem_append_left _ hy)
        · rw [List.mem_singleton.1 hy]
          exact ⟨(join_wel hx.1 ho hk h2' hA').1, hx.2⟩
  · rcases List.eq_nil_or_concat P with rfl | ⟨F, x, rfl⟩
    · rw [push_nil, sumB_one]; have : sumB ([] : List Op5) = 0 := rfl; omega
    · rw [List.concat_eq_append] at h3 ⊢
      by_cases hj : x.k ≠ o.k ∨ o.k = 2 ∨ x.A ≠ o.A
      · rw [push_apart hj, sumB_append, sumB_one]; omega
      · rw [push_join hj, sumB_append, sumB_one]
        rw [sumB_append, sumB_one] at h3
        have hk : x.k = o.k := Decidable.byContradiction fun e => hj (Or.inl e)
        rcases base_jn hk with e | e | e
        · rw [e]; omega
        · rw [base_1 (o := jnO x o) (by show x.k = 1 ∨ x.k = 2; omega), base_1 (o := o) (Or.inl e)]
          rw [base_1 (o := x) (by omega)] at h3
          omega
        · exact absurd (Or.inr (Or.inl e)) hj
theorem PQ.up {P : List Op5} {T T' L L' : Nat} {S S' : Int} (h : PQ P T S L) (h1 : T ≤ T') (h2 : S ≤ S') (h3 : L ≤ L') : PQ P T' S' L' := ⟨h.wel, Nat.le_trans h.txt h1, Int.le_trans h.sum h2, Nat.le_trans h.len h3⟩
theorem PQ.fold : ∀ (G : List Op5) {P : List Op5} {T L : Nat} {S : Int}, PQ P T S L → (∀ o ∈ G, (Wel o ∧ o.A.length ≤ 1048576) ∧ (o.k = 1 ∨ o.k = 2)) → PQ (G.foldl pushL P) (T + txtS G) S (L + G.length)
  | [], P, T, L, S, h, _ => h
  | o :: r, P, T, L, S, h, hG => by
    obtain ⟨⟨h1, h2⟩, h3⟩ := hG o (List.mem_cons_self ..)
    have hp := h.push h1 h2
    rw [base_1 h3, Int.add_zero] at hp
    have := PQ.fold r hp (fun x hx => hG x (List.mem_cons_of_mem _ hx))
    have e : txtS (o :: r) = o.t.size + txtS r := by simp [txtS]
    rw [e, List.length_cons]
    exact this.up (by omega) (Int.le_refl _) (by omega)
/-- The document's state behind some operations: sizes. -/
structure RunQ (F : List Op5) (s : List Op5 × List Op5 × Int) : Prop where
  out : ∃ T S L, PQ s.1 T S L ∧ T + txtS s.2.1 ≤ txtS F ∧ S + s.2.2 ≤ sumB F ∧ L + s.2.1.length + (if 0 < s.2.2 then 1 else 0) ≤ F.length
  gap : ∀ o ∈ s.2.1, (Wel o ∧ o.A.length ≤ 1048576) ∧ (o.k = 1 ∨ o.k = 2)
  nn : 0 ≤ s.2.2
theorem RunQ.nil : RunQ [] ([], [], 0) := ⟨⟨0, 0, 0, ⟨fun x h => (by cases h), by simp [txtS], by simp [sumB], by simp⟩, by simp [txtS], by simp [sumB], by simp⟩, fun o h => (by cases h), Int.le_refl 0⟩
theorem flush_q {F : List Op5} {s : List Op5 × List Op5 × Int} (h : RunQ F s) : PQ (flushL s.1 s.2.1 s.2.2) (txtS F) (sumB F) F.length := by
  obtain ⟨⟨T, S, L, h1, h2, h3, h4⟩, h5, h6⟩ := h
  have hf := PQ.fold s.2.1 h1 h5
  unfold flushL
  split
  · rename_i h0
    rw [if_pos h0] at h4
    have := hf.push (delO_wel (n := s.2.2) (by omega)) (by show (0 : Nat) ≤ _; omega)
    rw [base_3 (o := delO s.2.2) (Or.inr rfl)] at this
    exact this.up (by show T + txtS s.2.1 + 0 ≤ _; omega) (by show S + s.2.2 ≤ _; omega) (by omega)
  · exact hf.up (by omega) (by omega) (by omega)
theorem RunQ.step {F : List Op5} {s : List Op5 × List Op5 × Int} {o : Op5} (h : RunQ F s) (ho : Wel o) (hA : o.A.length ≤ 1048576) : RunQ (F ++ [o]) (stepC s o) := by
  have e1 := txtS_append F [o]
  have e2 := sumB_append F [o]
  rw [txtS_one] at e1
  rw [sumB_one] at e2
  have e3 : (F ++ [o]).length = F.length + 1 := by simp
  have hq := flush_q h
  have hn := h.nn
  unfold stepC
  rcases ho.kinds with hk | hk | hk | hk
  · rw [if_pos (Or.inl hk)]
    rw [base_1 (Or.inl hk)] at e2
    obtain ⟨T, S, L, h1, h2, h3, h4⟩ := h.out
    refine ⟨⟨T, S, L, h1, ?_, by show S + s.2.2 ≤ _; omega, ?_⟩, fun x hx => ?_, hn⟩
    · show T + txtS (s.2.1 ++ [o]) ≤ _; rw [txtS_append, txtS_one]; omega
    · show L + (s.2.1 ++ [o]).length + _ ≤ _; rw [List.length_append]; simp only [List.length_singleton]; omega
    · rcases List.mem_append.1 hx with hx | hx
      · exact h.gap x hx
      · rw [List.mem_singleton.1 hx]; exact ⟨⟨ho, hA⟩, Or.inl hk⟩
  · rw [if_pos (Or.inr hk)]
    rw [base_1 (Or.inr hk)] at e2
    obtain ⟨T, S, L, h1, h2, h3, h4⟩ := h.out
    refine ⟨⟨T, S, L, h1, ?_, by show S + s.2.2 ≤ _; omega, ?_⟩, fun x hx => ?_, hn⟩
    · show T + txtS (s.2.1 ++ [o]) ≤ _; rw [txtS_append, txtS_one]; omega
    · show L + (s.2.1 ++ [o]).length + _ ≤ _; rw [List.length_append]; simp only [List.length_singleton]; omega
    · rcases List.mem_append.1 hx with hx | hx
      · exact h.gap x hx
      · rw [List.mem_singleton.1 hx]; exact ⟨⟨ho, hA⟩, Or.inr hk⟩
  · rw [if_neg (by omega), if_neg (by omega)]
    have hp := hq.push ho hA
    exact ⟨⟨_, _, _, hp, by show txtS F + o.t.size + txtS [] ≤ _; rw [show txtS [] = 0 from rfl]; omega, by show sumB F + baseO o + 0 ≤ _; omega, by show F.length + 1 + 0 + (if (0 : Int) < 0 then 1 else 0) ≤ _; simp⟩, fun x hx => (by cases hx), Int.le_refl 0⟩
  · rw [if_neg (by omega), if_pos hk]
    rw [base_3 (Or.inr hk)] at e2
    have hc := ho.count (Or.inr hk)
    obtain ⟨T, S, L, h1, h2, h3, h4⟩ := h.out
    refine ⟨⟨T, S, L, h1, by show T + txtS s.2.1 ≤ _; omega, by show S + (s.2.2 + o.c) ≤ _; omega, ?_⟩, h.gap, by show 0 ≤ s.2.2 + o.c; omega⟩
    show L + s.2.1.length + (if 0 < s.2.2 + o.c then 1 else 0) ≤ _
    rw [if_pos (by omega)]; omega
theorem runC_snoc (F : List Op5) (o : Op5) : runC (F ++ [o]) = stepC (runC F) o := by unfold runC; rw [List.foldl_append]; rfl
theorem runQ_take {E : List Op5} (h : OkE E) : ∀ k, k ≤ E.length → RunQ (E.take k) (runC (E.take k)) := fun k => by
  induction k with
  | zero => intro _; rw [List.take_zero]; exact RunQ.nil
  | succ k ih =>
    intro hk
    have he : E[k]? = some E[k] := List.getElem?_eq_getElem (by omega)
    have hm : E[k] ∈ E := List.getElem_mem _
    rw [List.take_add_one, he, Option.toList_some, runC_snoc]
    exact (ih (by omega)).step (h.wel _ hm) (h.fit _ hm).n
/-- What push asks of the operations ahead. -/
theorem PQ.ask {P : List Op5} {T L : Nat} {S : Int} (h : PQ P T S L) (hT : T ≤ 8388608) (hS : S ≤ 2199023255552) : ∀ x ∈ P, Wel x ∧ x.A.length ≤ 2097152 ∧ x.t.size ≤ 8388608 ∧ x.c ≤ 2199023255552 := fun x hx => by
  obtain ⟨h1, h2⟩ := h.wel x hx
  have h3 := txtS_mem hx
  have h4 := h.txt
  have h5 := h.sum
  have h6 := cnt_le (fun y hy => (h.wel y hy).1) hx
  exact ⟨h1, by omega, by omega, by omega⟩
end Go.Proofs.YthfpmhnnjjikcaaGreatDoor

/- The document's deltas: Canonical. -/
namespace Go.Proofs.YthfpmhnnjjikcaaGreatDoor
open Go Go.RowKit Go.Lib
set_option linter.unusedVariables false

/-- Two rows of the call's own, apart. -/
structure CanS (w0 wc W : World) (vo vg : Value) (PO PG : List Op5) : Prop where
  out : ∃ D, OwnO W wc.heap.size vo D ∧ ReD w0 D PO
  gap : ∃ D, OwnO W wc.heap.size vg D ∧ ReD w0 D PG
  apart : ∀ k, vo.ownBlock = some k → vg.ownBlock ≠ some k
  below : Below wc.heap.size wc W
  base : Below w0.heap.size w0 wc
theorem CanS.keep {w0 wc W W' : World} {vo vg : Value} {PO PG : List Op5} (h : CanS w0 wc W vo vg PO PG) (b : Below W.heap.size W W') : CanS w0 wc W' vo vg PO PG := by
  obtain ⟨D, a1, a2⟩ := h.out
  obtain ⟨G, b1, b2⟩ := h.gap
  exact ⟨⟨D, owns_below a1 b, a2⟩, ⟨G, owns_below b1 b, b2⟩, h.apart, h.below.trans (b.mono h.below.size), h.base⟩
theorem CanS.pushed {w0 wc W W' : World} {vo vg : Value} {PO PG P : List Op5} {e : Ending} (h : CanS w0 wc W vo vg PO PG) (r : PushR w0 wc.heap.size W W' vo e P) : ∃ v', e = .returned v' ∧ CanS w0 wc W' v' vg P PG := by
  obtain ⟨v', D', rfl, h1, h2, h3, h4⟩ := r
  obtain ⟨D, a1, a2⟩ := h.out
  obtain ⟨G, b1, b2⟩ := h.gap
  have hlt : ∀ k, vg.ownBlock = some k → k < W.heap.size := fun k hk => by
    obtain ⟨_, cur, hc⟩ := owns_block b1 k hk
    exact (Array.getElem?_eq_some_iff.1 hc).1
  refine ⟨v', rfl, ⟨D', h1, h2⟩, ⟨G, owns_same b1 fun k hk => h3.block k (hlt k hk) (fun e => h.apart k e hk), b2⟩, fun k hk hg => ?_, ?_, h.base⟩
  · rcases h4 with h4 | ⟨j, h4, h5⟩
    · exact h.apart k (h4 ▸ hk) hg
    · rw [h4] at hk
      obtain rfl : j = k := Option.some.inj hk
      have := hlt j hg
      omega
  · have := h3.below (B := wc.heap.size) h.below.size (fun k hk => (owns_block a1 k hk).1)
    exact h.below.trans this
theorem CanS.gapped {w0 wc W w8 : World} {vo vg v8 : Value} {PO PG : List Op5} {e : Op5} {sp : Option Addr} {sl sc : Nat} (h : CanS w0 wc W vo vg PO PG) {D : List OV} (hD : ReD w0 D PG) (hr : RN w0 (.slice sp sl sc) e.A) (h1 : OwnO w8 wc.heap.size v8 (D ++ [(e.k, e.t, e.v, e.c, (sp, sl, sc))])) (gr : W.grownBy w8 vg.ownBlock) (hat : v8.ownBlock = vg.ownBlock ∨ v8.ownBlock = some W.heap.size) : CanS w0 wc w8 vo v8 PO (PG ++ [e]) := by
  obtain ⟨DO, a1, a2⟩ := h.out
  obtain ⟨G, b1, b2⟩ := h.gap
  have hlt : ∀ k, vo.ownBlock = some k → k < W.heap.size := fun k hk => by
    obtain ⟨_, cur, hc⟩ := owns_block a1 k hk
    exact (Array.getElem?_eq_some_iff.1 hc).1
  refine ⟨⟨DO, owns_same a1 fun k hk => gr.block k (hlt k hk) (fun e => h.apart k hk e.symm), a2⟩, ⟨_, h1, forall2_append hD (.cons ⟨rfl, rfl, rfl, rfl, hr⟩ .nil)⟩, fun k hk hg => ?_, ?_, h.base⟩
  · rcases hat with e | e
    · exact h.apart k hk (e ▸ hg)
    · rw [e] at hg
      obtain rfl : W.heap.size = k := Option.some.inj hg
      have := hlt _ hk
      omega
  · exact h.below.grown gr h.below.size (fun k hk => (owns_block b1 k hk).1)
theorem CanS.cleared {w0 wc W : World} {vo vg : Value} {PO PG : List Op5} (h : CanS w0 wc W vo vg PO PG) : CanS w0 wc W vo (.slice none 0 0) PO [] :=
  ⟨h.out, ⟨[], ⟨rfl, Or.inl ⟨rfl, rfl⟩⟩, .nil⟩, fun k _ h => (by cases h), h.below, h.base⟩
theorem CanS.len {w0 wc W : World} {vo vg : Value} {PO PG : List Op5} (h : CanS w0 wc W vo vg PO PG) : ∃ p c, vg = .slice p PG.length c := by
  obtain ⟨G, b1, b2⟩ := h.gap
  obtain ⟨p, c, e⟩ := own_slice b1
  exact ⟨p, c, by rw [e, forall2_len b2]⟩
theorem CanS.read {w0 wc W : World} {vo : Value} {PO PG : List Op5} {p : Option Addr} {l c : Nat} (h : CanS w0 wc W vo (.slice p l c) PO PG) (j : Nat) (hj : j < PG.length) : ∃ (e : Op5) (b : Nat) (sp : Option Addr) (sl sc : Nat), PG[j]? = some e ∧ p = some ⟨b, 0, none⟩ ∧ OpAt W b (0 + j * 7) (e.k, e.t, e.v, e.c, (sp, sl, sc)) ∧ RN w0 (.slice sp sl sc) e.A := by
  obtain ⟨G, b1, b2⟩ := h.gap
  have hl := forall2_len b2
  obtain ⟨d, hd⟩ : ∃ d, G[j]? = some d := ⟨_, List.getElem?_eq_getElem (by omega)⟩
  obtain ⟨e, he, h1, h2, h3, h4, h5⟩ := forall2_get b2 j d hd
  obtain ⟨dk, dt, dv, dc, sp, sl, sc⟩ := d
  simp only at h1 h2 h3 h4
  subst h1; subst h2; subst h3; subst h4
  obtain ⟨q, cc, hv⟩ := own_slice b1
  rcases b1.2 with ⟨_, h0⟩ | ⟨g, cap, cur, e1, _⟩
  · omega
  · cases e1
    exact ⟨e, g, sp, sl, sc, he, rfl, own_opAt b1 j _ hd, h5⟩
/-- push on the rows. -/
theorem push_can {w0 wc W : World} {vo vg : Value} {PO PG : List Op5} {T L : Nat} {S : Int} (o : Op5) (sp : Option Addr) (sl sc : Nat) (h : CanS w0 wc W vo vg PO PG) (ho : RN w0 (.slice sp sl sc) o.A) (q : PQ PO T S L) (hT : T ≤ 8388608) (hS : S ≤ 2199023255552) (hL : L ≤ 4194304) (how : Wel o) (hn2 : o.A.length ≤ 1048576) (hot : o.t.size ≤ 8388608) (hoc : o.c ≤ 2199023255552) :
    Calls Tryz.prog 50 #[vo, opV o (.slice sp sl sc)] W fun e w' => ∃ v', e = .returned v' ∧ CanS w0 wc w' v' vg (pushL PO o) PG := by
  obtain ⟨D, a1, a2⟩ := h.out
  have hl := q.len
  exact (push6_any vo D PO o sp sl sc W h.below.size (h.base.trans (h.below.mono h.base.size)) a1 a2 ho (by omega) (q.ask hT hS) how (by omega) hot hoc).mono fun e w' r => h.pushed r
/-- The sizes while a gap is put behind. -/
theorem RunQ.fold {F : List Op5} {s : List Op5 × List Op5 × Int} (h : RunQ F s) (j : Nat) : PQ ((s.2.1.take j).foldl pushL s.1) (txtS F) (sumB F) F.length := by
  obtain ⟨⟨T, S, L, h1, h2, h3, h4⟩, h5, h6⟩ := h
  have hf := PQ.fold (s.2.1.take j) h1 (fun o ho => h5 o (List.mem_of_mem_take ho))
  have e1 := txtS_take s.2.1 j
  have e2 : (s.2.1.take j).length ≤ s.2.1.length := by rw [List.length_take]; omega
  exact hf.up (by omega) (by omega) (by split at h4 <;> omega)
/-- The state ahead of the m-th round. -/
def stA (E : List Op5) (m : Nat) : List Op5 × List Op5 × Int := if m ≤ E.length then runC (E.take m) else (flushL (runC E).1 (runC E).2.1 (runC E).2.2, [], 0)
theorem stA_end (E : List Op5) : stA E (E.length + 1) = (flushL (runC E).1 (runC E).2.1 (runC E).2.2, [], 0) := by unfold stA; rw [if_neg (by omega)]
theorem stA_at {E : List Op5} {m : Nat} (h : m ≤ E.length) : stA E m = runC (E.take m) := by unfold stA; rw [if_pos h]
theorem stA_succ {E : List Op5} {m : Nat} {e : Op5} (h : E[m]? = some e) : stA E (m + 1) = stepC (stA E m) e := by
  have hm : m < E.length := (List.getElem?_eq_some_iff.1 h).1
  rw [stA_at (by omega), stA_at (by omega), List.take_add_one, h, Option.toList_some, runC_snoc]
theorem stA_ins {E : List Op5} {m : Nat} {e : Op5} (h : E[m]? = some e) (hk : e.k = 1 ∨ e.k = 2) : stA E (m + 1) = ((stA E m).1, (stA E m).2.1 ++ [e], (stA E m).2.2) := by rw [stA_succ h]; unfold stepC; rw [if_pos hk]
theorem stA_del {E : List Op5} {m : Nat} {e : Op5} (h : E[m]? = some e) (hk : e.k = 4) : stA E (m + 1) = ((stA E m).1, (stA E m).2.1, (stA E m).2.2 + e.c) := by rw [stA_succ h]; unfold stepC; rw [if_neg (by omega), if_pos hk]
theorem stA_ret {E : List Op5} {m : Nat} {e : Op5} (h : E[m]? = some e) (hk : e.k = 3) : stA E (m + 1) = (pushL (flushL (stA E m).1 (stA E m).2.1 (stA E m).2.2) e, [], 0) := by rw [stA_succ h]; unfold stepC; rw [if_neg (by omega), if_neg (by omega)]
theorem trim_nil : trimL [] = [] := rfl
theorem trim_yes {F : List Op5} {x : Op5} (h : plainR x = true) : trimL (F ++ [x]) = F := by unfold trimL; rw [List.getLast?_concat]; simp only; rw [if_pos h, List.dropLast_concat]
theorem trim_no {F : List Op5} {x : Op5} (h : plainR x = false) : trimL (F ++ [x]) = F ++ [x] := by unfold trimL; rw [List.getLast?_concat]; simp only; rw [if_neg (by simp [h])]
/-- The sizes of the state ahead of the m-th round. -/
theorem stA_q {E : List Op5} (h : OkE E) {m : Nat} (hm : m ≤ E.length) : (∀ j, PQ (((stA E m).2.1.take j).foldl pushL (stA E m).1) 8388608 1099511627776 4194304) ∧ PQ (flushL (stA E m).1 (stA E m).2.1 (stA E m).2.2) 8388608 1099511627776 4194304 ∧ (∀ o ∈ (stA E m).2.1, Wel o ∧ o.A.length ≤ 1048576 ∧ o.t.size ≤ 8388608 ∧ o.c ≤ 2199023255552) ∧ 0 ≤ (stA E m).2.2 ∧ (stA E m).2.2 ≤ 1099511627776 ∧ (stA E m).2.1.length ≤ 4194304 := by
  rw [stA_at hm]
  have q := runQ_take h m hm
  have t1 := txtS_take E m
  have t2 := h.txt
  have t3 := h.len
  have t4 : (E.take m).length ≤ E.length := by rw [List.length_take]; omega
  have t5 : sumB (E.take m) ≤ sumB E := by
    have := sumB_append (E.take m) (E.drop m)
    rw [List.take_append_drop] at this
    have := (sums_nn (E := E.drop m) (fun o ho => h.wel o (List.mem_of_mem_drop ho))).1
    omega
  have t6 := h.base
  obtain ⟨⟨T, S, L, h1, h2, h3, h4⟩, h5, h6⟩ := q
  have hS : 0 ≤ S := by
    have := (sums_nn (E := (runC (E.take m)).1) (fun o ho => (h1.wel o ho).1)).1
    have := h1.sum
    omega
  have q := runQ_take h m hm
  refine ⟨fun j => (q.fold j).up (by omega) (by omega) (by omega), (flush_q q).up (by omega) (by omega) (by omega), fun o ho => ?_, h6, by omega, by split at h4 <;> omega⟩
  obtain ⟨⟨a1, a2⟩, a3⟩ := h5 o ho
  have := txtS_mem ho
  refine ⟨a1, a2, by omega, ?_⟩
  rcases a1 with ⟨hi, _⟩ | ⟨b, _⟩ | ⟨b, _⟩
  · rw [hi.count]; omega
  · omega
  · omega
/-- A row of operations in a block from a mark on. -/
def FarO (w : World) (B : Nat) (v : Value) (D : List OV) : Prop :=
  ∃ p cap, v = .slice p D.length cap ∧ D.length ≤ cap ∧ (p = none → cap = 0) ∧ ∀ (j : Nat) (d : OV), D[j]? = some d → ∃ b off, p = some ⟨b, off, none⟩ ∧ B ≤ b ∧ OpAt w b (off + j * 7) d
theorem FarO.row {w : World} {B : Nat} {v : Value} {D : List OV} (h : FarO w B v D) : RowO w v D := by
  obtain ⟨p, cap, h1, h2, h3, h4⟩ := h
  exact ⟨p, cap, h1, h2, h3, fun j d hd => by obtain ⟨b, off, a1, _, a2⟩ := h4 j d hd; exact ⟨b, off, a1, a2⟩⟩
theorem FarO.below {w w' : World} {B : Nat} {v : Value} {D : List OV} (h : FarO w B v D) (hb : Below w.heap.size w w') : FarO w' B v D := by
  obtain ⟨p, cap, h1, h2, h3, h4⟩ := h
  exact ⟨p, cap, h1, h2, h3, fun j d hd => by obtain ⟨b, off, a1, a0, a2⟩ := h4 j d hd; exact ⟨b, off, a1, a0, a2.below hb⟩⟩
theorem FarO.weaken {w : World} {B C : Nat} {v : Value} {D : List OV} (h : FarO w B v D) (hc : C ≤ B) : FarO w C v D := by
  obtain ⟨p, cap, h1, h2, h3, h4⟩ := h
  exact ⟨p, cap, h1, h2, h3, fun j d hd => by obtain ⟨b, off, a1, a0, a2⟩ := h4 j d hd; exact ⟨b, off, a1, Nat.le_trans hc a0, a2⟩⟩
theorem far_own {w : World} {B : Nat} {v : Value} {D F : List OV} {n cap : Nat} {p : Option Addr} (h : OwnO w B v D) (hv : v = .slice p n cap) (hF : ∀ (j : Nat) (d : OV), F[j]? = some d → D[j]? = some d) (hl : F.length ≤ D.length) : FarO w B (.slice p F.length cap) F := by
  rcases h.2 with ⟨e1, h0⟩ | ⟨g, c, cur, e1, h2, h3, h4, h5⟩
  · rw [hv] at e1
    simp only [Value.slice.injEq] at e1
    obtain ⟨rfl, _, rfl⟩ := e1
    obtain rfl : F = [] := List.eq_nil_of_length_eq_zero (by omega)
    exact ⟨none, 0, rfl, Nat.le_refl _, fun _ => rfl, fun j d hd => (by simp at hd)⟩
  · rw [hv] at e1
    simp only [Value.slice.injEq] at e1
    obtain ⟨rfl, rfl, rfl⟩ := e1
    rw [hv] at h
    exact ⟨_, cap, rfl, by omega, fun h => (by cases h), fun j d hd => ⟨g, 0, rfl, h2, own_opAt h j d (hF j d hd)⟩⟩
set_option maxHeartbeats 40000000 in
set_option maxRecDepth 100000 in
theorem canon6_any {w0 : World} (va : Value) (D0 : List OV) (E : List Op5) (w : World) (hb0 : Below w0.heap.size w0 w) (hrow : RowO w va D0) (hre : ReD w0 D0 E) (ok : OkE E) :
    Calls Tryz.prog 11 #[va] w fun r w' => ∃ v', r = .returned v' ∧ (∃ D', FarO w' w.heap.size v' D' ∧ ReD w0 D' (canonL E)) ∧ Below w.heap.size w w' := by
  have hDE := forall2_len hre
  obtain ⟨n, hn⟩ : ∃ n, E.length = n := ⟨_, rfl⟩
  obtain ⟨p, cap, rfl, hcap, hnz, hc⟩ := hrow
  have HR : Hid (∀ k, k < n → ∃ (e : Op5) (b off : Nat) (sp : Option Addr) (sl sc : Nat), E[k]? = some e ∧ p = some ⟨b, off, none⟩ ∧ OpAt w b (off + k * 7) (e.k, e.t, e.v, e.c, (sp, sl, sc)) ∧ RN w0 (.slice sp sl sc) e.A) := fun k hk => by
    obtain ⟨d, hd⟩ : ∃ d, D0[k]? = some d := ⟨_, List.getElem?_eq_getElem (by omega)⟩
    obtain ⟨e, he, h1, h2, h3, h4, h5⟩ := forall2_get hre k d hd
    obtain ⟨b, off, hp, hat⟩ := hc k d hd
    obtain ⟨dk, dt, dv, dc, sp, sl, sc⟩ := d
    simp only at h1 h2 h3 h4
    subst h1; subst h2; subst h3; subst h4
    exact ⟨e, b, off, sp, sl, sc, he, hp, hat, h5⟩
  have HN : Hid (E.length = n ∧ OkE E) := ⟨hn, ok⟩
  have hnl : n ≤ 4194304 := by have := ok.len; omega
  rw [hDE, hn] at hcap ⊢
  clear hc hDE hre hnz ok hn
  have hcs : CanS w0 w ((w.alloc (.cells #[] 33)).alloc (.cells #[] 33)) (.slice (some ⟨w.heap.size, 0, none⟩) 0 0) (.slice (some ⟨w.heap.size + 1, 0, none⟩) 0 0) [] [] := by
    have o1 := own_emptyO w w.heap.size (Nat.le_refl _)
    have b1 := (Below.refl w.heap.size w).alloc (Nat.le_refl _) (.cells #[] 33)
    have s1 : (w.alloc (.cells #[] 33)).heap.size = w.heap.size + 1 := by simp
    have o2 := own_emptyO (w.alloc (.cells #[] 33)) w.heap.size (by omega)
    rw [s1] at o2
    refine ⟨⟨[], owns_below o1 ((Below.refl _ _).alloc (Nat.le_refl _) _), .nil⟩, ⟨[], o2, .nil⟩, fun k h1 h2 => ?_, b1.alloc b1.size _, hb0⟩
    have e1 : w.heap.size = k := Option.some.inj h1
    have e2 : w.heap.size + 1 = k := Option.some.inj h2
    omega
  have HS0 : Hid (CanS w0 w ((w.alloc (.cells #[] 33)).alloc (.cells #[] 33)) (.slice (some ⟨w.heap.size, 0, none⟩) 0 0) (.slice (some ⟨w.heap.size + 1, 0, none⟩) 0 0) (stA E 0).1 (stA E 0).2.1) := by
    rw [stA_at (Nat.zero_le _), List.take_zero]; exact hcs
  have hz0 : (0 : Int) = (stA E 0).2.2 := by rw [stA_at (Nat.zero_le _), List.take_zero]; rfl
  clear hcs
  go_enter Tryz.func11, Tryz.ntmps11
  go_wp2
  obtain ⟨W0, hW0⟩ : ∃ W, W = (w.alloc (.cells #[] 33)).alloc (.cells #[] 33) := ⟨_, rfl⟩
  obtain ⟨vo0, hvo0⟩ : ∃ v : Value, v = .slice (some ⟨w.heap.size, 0, none⟩) 0 0 := ⟨_, rfl⟩
  obtain ⟨vg0, hvg0⟩ : ∃ v : Value, v = .slice (some ⟨w.heap.size + 1, 0, none⟩) 0 0 := ⟨_, rfl⟩
  rw [← hW0, ← hvo0, ← hvg0] at HS0
  try rw [← hW0]
  try rw [← hvo0]
  try rw [← hvg0]
  clear hW0 hvo0 hvg0
  go_loopw [3, 4, 5, 6] (fun vo vg g i wr => ∃ (m : Nat), m ≤ n + 1 ∧ i = .int .i64 m ∧ g = .int .i64 (stA E m).2.2 ∧ Hid (CanS w0 w wr vo vg (stA E m).1 (stA E m).2.1)) (fun _ _ _ i _ => n + 1 - (RowKit.intOf i).toNat)
  case atStart => exact ⟨0, Nat.zero_le _, rfl, by rw [← hz0], HS0⟩
  case round =>
    clear HS0 hz0
    obtain ⟨m, hm, rfl, rfl, HS⟩ := hrel
    by_cases hlt : m < n
    · have hltI : (m : Int) < n := by omega
      have hleI : (m : Int) ≤ n := by omega
      have hge0 : (0 : Int) ≤ (m : Int) := by omega
      obtain ⟨e, b, off, sp, sl, sc, he, rfl, hat, hrn⟩ := HR.out m hlt
      obtain ⟨c0, c1, c2, c3, c4, c5, c6⟩ := hat.below HS.out.below
      have how := HN.out.2.wel e (List.mem_of_getElem? he)
      have hA := (HN.out.2.fit e (List.mem_of_getElem? he)).n
      have ht : e.t.size ≤ 8388608 := by have := txtS_mem (List.mem_of_getElem? he); have := HN.out.2.txt; omega
      have hq := stA_q HN.out.2 (m := m) (by have := HN.out.1; omega)
      have hec : e.c ≤ 2199023255552 := by
        have := HN.out.2.base
        rcases cnt_le HN.out.2.wel (List.mem_of_getElem? he) with h1 | h1 <;> omega
      have HF : Hid (RN w0 (.slice sp sl sc) e.A ∧ Wel e ∧ e.A.length ≤ 1048576 ∧ e.t.size ≤ 8388608 ∧ e.c ≤ 2199023255552) := ⟨hrn, how, hA, ht, hec⟩
      have HQ := Hid.mk' hq
      have cI := ins6_any e sp sl sc wr
      rcases (show (e.k = 1 ∨ e.k = 2) ∨ e.k = 3 ∨ e.k = 4 by rcases how.kinds with h | h | h | h <;> omega) with hk | hk | hk
      · have HNX := Hid.mk' (stA_ins he hk)
        have cI0 : decide (e.k = 1 ∨ e.k = 2) = true := decide_eq_true (by omega)
        rw [cI0] at cI
        have HG : Hid (∀ W, Below wr.heap.size wr W → ∃ D, D.length ≤ 33554432 ∧ OpAt (W.alloc (.cells (opC e (.slice sp sl sc)) 33)) W.heap.size 0 (e.k, e.t, e.v, e.c, (sp, sl, sc)) ∧ OwnO (W.alloc (.cells (opC e (.slice sp sl sc)) 33)) w.heap.size u4 D ∧ w.heap.size ≤ (W.alloc (.cells (opC e (.slice sp sl sc)) 33)).heap.size ∧ ∀ v8 w8, OwnO w8 w.heap.size v8 (D ++ [(e.k, e.t, e.v, e.c, (sp, sl, sc))]) → (W.alloc (.cells (opC e (.slice sp sl sc)) 33)).grownBy w8 u4.ownBlock → (v8.ownBlock = u4.ownBlock ∨ v8.ownBlock = some (W.alloc (.cells (opC e (.slice sp sl sc)) 33)).heap.size) → CanS w0 w w8 u3 v8 (stA E (m + 1)).1 (stA E (m + 1)).2.1) := fun W hW => by
          have h := HS.out.keep hW
          have hk := h.keep ((Below.refl W.heap.size W).alloc (Nat.le_refl _) (.cells (opC e (.slice sp sl sc)) 33))
          obtain ⟨D, d1, d2⟩ := hk.gap
          have hl := forall2_len d2
          have := hq.2.2.2.2.2
          refine ⟨D, by omega, ⟨by simp [opC], by simp [opC], by simp [opC], by simp [opC], by simp [opC], by simp [opC], by simp [opC]⟩, d1, hk.below.size, fun v8 w8 a1 a2 a3 => ?_⟩
          rw [HNX.out]; exact hk.gapped d2 hrn a1 a2 a3
        have H2 : Hid ((stA E (m + 1)).2.2 = (stA E m).2.2) := by show _ = _; rw [HNX.out]
        obtain ⟨g, hg⟩ : ∃ x, (stA E m).2.2 = x := ⟨_, rfl⟩
        rw [hg] at H2 ⊢
        clear cI0 HQ hq hrn how hA ht hec hat he HF HNX HS hg
        obtain ⟨k, t, ⟨xx, nn, u⟩, cc, A⟩ := e
        simp only [slV] at c0 c1 c2 c3 c4 c5 c6 cI
        go_wp2_with fail
        refine cI.mono ?_; rintro r w1 ⟨rfl, hb1⟩
        have d0 := (hb1.cell (lt_of_cell c0)).trans c0
        have d1 := (hb1.cell (lt_of_cell c1)).trans c1
        have d2 := (hb1.cell (lt_of_cell c2)).trans c2
        have d3 := (hb1.cell (lt_of_cell c3)).trans c3
        have d4 := (hb1.cell (lt_of_cell c4)).trans c4
        have d5 := (hb1.cell (lt_of_cell c5)).trans c5
        have d6 := (hb1.cell (lt_of_cell c6)).trans c6
        obtain ⟨D, hD1, hD2, hD3, hD4, hD5⟩ := HG.out w1 hb1
        have HD5 := Hid.mk' hD5
        clear cI HG hD5 c0 c1 c2 c3 c4 c5 c6 hb1
        go_wp2_with (at_builtin; refine wpList_append_ops rfl (.tmp 28) (.tmp 33) rfl w.heap.size u4 D rfl hD3 _ 1 _ rfl hD2 hD1 hD4 ?_; intro v8 w8 own8 gr8 hat8; have HS2 := Hid.mk' (HD5.out v8 w8 own8 gr8 hat8); clear own8 gr8 hat8 HD5 hD1 hD2 hD3 hD4 d0 d1 d2 d3 d4 d5 d6)
        go_roundw
        case rel => exact ⟨m + 1, by omega, by go_num, by rw [H2.out], HS2⟩
        case measure => simp [RowKit.intOf]; omega
      · have HNX := Hid.mk' (stA_ret he hk)
        have cI0 : decide (e.k = 1 ∨ e.k = 2) = false := decide_eq_false (by omega)
        rw [cI0] at cI
        have HBE : Hid (∀ W, Below w.heap.size w W → OpAt W b (off + m * 7) (e.k, e.t, e.v, e.c, (sp, sl, sc))) := fun W hW => hat.below hW
        clear cI0 hq hrn how hA ht hec hat he
        obtain ⟨PO, hPO⟩ : ∃ x, (stA E m).1 = x := ⟨_, rfl⟩
        obtain ⟨PG, hPG⟩ : ∃ x, (stA E m).2.1 = x := ⟨_, rfl⟩
        obtain ⟨g, hg⟩ : ∃ x, (stA E m).2.2 = x := ⟨_, rfl⟩
        rw [hPO, hPG, hg] at HNX HQ
        rw [hPO, hPG] at HS
        rw [hg]
        clear hPO hPG hg
        have hg2 := HQ.out.2.2.2.2.1
        have hg1 := HQ.out.2.2.2.1
        obtain ⟨k, t, ⟨xx, nn, u⟩, cc, A⟩ := e
        simp only [slV] at hk c0 c1 c2 c3 c4 c5 c6 cI HBE
        subst hk
        go_wp2_with fail
        refine cI.mono ?_; rintro r w1 ⟨rfl, hb1⟩
        have c0' := (hb1.cell (lt_of_cell c0)).trans c0
        obtain ⟨pg, cg, rfl⟩ := HS.out.len
        have H1 : Hid (CanS w0 w w1 u3 (.slice pg PG.length cg) PO PG) := HS.out.keep hb1
        obtain ⟨lg, hlg⟩ : ∃ x, PG.length = x := ⟨_, rfl⟩
        have HLG : Hid (PG.length = lg) := hlg
        have hlg4 : lg ≤ 4194304 := by have := HQ.out.2.2.2.2.2; omega
        rw [hlg] at H1 ⊢
        clear hlg cI HS c0 c1 c2 c3 c4 c5 c6 hb1
        go_wp2
        go_loopw [3, 56] (fun vo i wr2 => ∃ (j : Nat), j ≤ lg ∧ i = .int .i64 j ∧ Hid (CanS w0 w wr2 vo (.slice pg lg cg) ((PG.take j).foldl pushL PO) PG)) (fun _ i _ => lg - (RowKit.intOf i).toNat)
        case atStart => exact ⟨0, Nat.zero_le _, rfl, by rw [List.take_zero]; exact H1⟩
        case round =>
          clear H1
          obtain ⟨j, hj, rfl, H1⟩ := hrel
          by_cases hjl : j < lg
          · have hjI : (j : Int) < lg := by omega
            have hj0 : (0 : Int) ≤ (j : Int) := by omega
            obtain ⟨e', gg, sp', sl', sc', he', rfl, hat', hrn'⟩ := H1.out.read j (by rw [HLG.out]; exact hjl)
            obtain ⟨d0, d1, d2, d3, d4, d5, d6⟩ := hat'
            rw [Nat.zero_add] at d0 d1 d2 d3 d4 d5 d6
            have HB := H1.out.keep ((Below.refl wr.heap.size wr).alloc (Nat.le_refl _) (.cells (opC e' (.slice sp' sl' sc')) 33))
            obtain ⟨a1, a2, a3, a4⟩ := HQ.out.2.2.1 e' (List.mem_of_getElem? he')
            have cP := push_can e' sp' sl' sc' HB hrn' (HQ.out.1 j) (Nat.le_refl _) (by decide) (Nat.le_refl _) a1 a2 a3 a4
            have hP2 : pushL ((PG.take j).foldl pushL PO) e' = (PG.take (j + 1)).foldl pushL PO := by rw [List.take_add_one, he', List.foldl_append]; rfl
            rw [hP2] at cP
            clear HB a1 a2 a3 a4 H1 hrn' he' hP2
            obtain ⟨k', t', ⟨x', n', u'⟩, c', A'⟩ := e'
            simp only [opC, slV] at d0 d1 d2 d3 d4 d5 d6 cP
            go_wp2_with fail
            refine cP.mono ?_; rintro r w5 ⟨v5, rfl, h5⟩
            have H5 := Hid.mk' h5
            clear cP d0 d1 d2 d3 d4 d5 d6 h5
            go_wp2
            go_roundw
            case rel => exact ⟨j + 1, by omega, by go_num, H5⟩
            case measure => simp [RowKit.intOf]; omega
          · obtain rfl : j = lg := by omega
            have hjI : ¬ (j : Int) < j := by omega
            have hq1 := HQ.out.1 j
            rw [show PG.take j = PG by have := HLG.out; rw [← this, List.take_length]] at H1 hq1
            by_cases hgp : 0 < g
            · have cP := push_can (delO g) none 0 0 H1.out (RN.nil w0) hq1 (Nat.le_refl _) (by decide) (Nat.le_refl _) (delO_wel (by omega)) (by show (0 : Nat) ≤ _; omega) (by show (0 : Nat) ≤ _; omega) (by show g ≤ _; omega)
              have hfl : pushL (PG.foldl pushL PO) (delO g) = flushL PO PG g := by unfold flushL; rw [if_pos hgp]
              rw [hfl] at cP
              simp only [delO] at cP
              clear hq1 H1 hfl
              go_wp2_with fail
              refine cP.mono ?_; rintro r w5 ⟨v5, rfl, h5⟩
              have H5 := Hid.mk' h5.cleared
              clear cP h5
              obtain ⟨d0, d1, d2, d3, d4, d5, d6⟩ := HBE.out w5 H5.out.below
              have cP := push_can ⟨3, t, (xx, nn, u), cc, A⟩ sp sl sc H5.out HF.out.1 HQ.out.2.1 (Nat.le_refl _) (by decide) (Nat.le_refl _) HF.out.2.1 HF.out.2.2.1 HF.out.2.2.2.1 HF.out.2.2.2.2
              have H2 : Hid ((stA E (m + 1)).2.2 = 0) := by show _ = _; rw [HNX.out]
              have h1 : pushL (flushL PO PG g) ⟨3, t, (xx, nn, u), cc, A⟩ = (stA E (m + 1)).1 := by rw [HNX.out]
              have h2 : ([] : List Op5) = (stA E (m + 1)).2.1 := by rw [HNX.out]
              rw [h1, h2] at cP
              clear H5 h1 h2 HNX HQ HF
              simp only [slV] at d0 d1 d2 d3 d4 d5 d6 cP
              go_wp2_with fail
              refine cP.mono ?_; rintro r w6 ⟨v6, rfl, h6⟩
              have H6 := Hid.mk' h6
              clear cP d0 d1 d2 d3 d4 d5 d6 h6
              go_wp2
              go_roundw
              case rel => exact ⟨m + 1, by omega, by go_num, by rw [H2.out], H6⟩
              case measure => simp [RowKit.intOf]; omega
            · have hfl : PG.foldl pushL PO = flushL PO PG g := by unfold flushL; rw [if_neg hgp]
              rw [hfl] at H1
              have H5 := Hid.mk' H1.out.cleared
              clear hq1 H1 hfl
              obtain ⟨d0, d1, d2, d3, d4, d5, d6⟩ := HBE.out wr H5.out.below
              have cP := push_can ⟨3, t, (xx, nn, u), cc, A⟩ sp sl sc H5.out HF.out.1 HQ.out.2.1 (Nat.le_refl _) (by decide) (Nat.le_refl _) HF.out.2.1 HF.out.2.2.1 HF.out.2.2.2.1 HF.out.2.2.2.2
              have H2 : Hid ((stA E (m + 1)).2.2 = 0) := by show _ = _; rw [HNX.out]
              have h1 : pushL (flushL PO PG g) ⟨3, t, (xx, nn, u), cc, A⟩ = (stA E (m + 1)).1 := by rw [HNX.out]
              have h2 : ([] : List Op5) = (stA E (m + 1)).2.1 := by rw [HNX.out]
              rw [h1, h2] at cP
              clear H5 h1 h2 HNX HQ HF
              simp only [slV] at d0 d1 d2 d3 d4 d5 d6 cP
              go_wp2_with fail
              refine cP.mono ?_; rintro r w6 ⟨v6, rfl, h6⟩
              have H6 := Hid.mk' h6
              clear cP d0 d1 d2 d3 d4 d5 d6 h6
              go_wp2
              go_roundw
              case rel => exact ⟨m + 1, by omega, by go_num, by rw [H2.out], H6⟩
              case measure => simp [RowKit.intOf]; omega
      · have HNX := Hid.mk' (stA_del he hk)
        have cI0 : decide (e.k = 1 ∨ e.k = 2) = false := decide_eq_false (by omega)
        rw [cI0] at cI
        have hcnt := how.count (Or.inr hk)
        have hg2 := hq.2.2.2.2.1
        have hg1 := hq.2.2.2.1
        clear cI0 HF HQ hq hrn how hA ht hat he
        obtain ⟨g, hg⟩ : ∃ x, (stA E m).2.2 = x := ⟨_, rfl⟩
        rw [hg] at HNX hg1 hg2 ⊢
        obtain ⟨k, t, ⟨xx, nn, u⟩, cc, A⟩ := e
        simp only [slV] at hk c0 c1 c2 c3 c4 c5 c6 hec hcnt cI
        subst hk
        go_wp2_with fail
        refine cI.mono ?_; rintro r w1 ⟨rfl, hb1⟩
        have c0' := (hb1.cell (lt_of_cell c0)).trans c0
        have c5' := (hb1.cell (lt_of_cell c5)).trans c5
        have H1 : Hid (CanS w0 w w1 u3 u4 (stA E (m + 1)).1 (stA E (m + 1)).2.1) := by rw [HNX.out]; exact HS.out.keep hb1
        have H2 : Hid ((stA E (m + 1)).2.2 = g + cc) := by show _ = _; rw [HNX.out]
        clear cI HS HNX c0 c1 c2 c3 c4 c5 c6 hg hb1
        go_wp2
        go_roundw
        case rel => exact ⟨m + 1, by omega, by go_num, by rw [H2.out], H1⟩
        case measure => simp [RowKit.intOf]; omega
    · by_cases hmn : m = n
      · subst hmn
        have hge0 : (0 : Int) ≤ (m : Int) := by omega
        have hq := stA_q HN.out.2 (m := m) (by have := HN.out.1; omega)
        have HQ := Hid.mk' hq
        have hst : stA E (m + 1) = (flushL (stA E m).1 (stA E m).2.1 (stA E m).2.2, [], 0) := by
          have e1 := HN.out.1
          rw [← e1, stA_end, stA_at (Nat.le_refl _), List.take_length]
        have HNX := Hid.mk' hst
        clear hq hst hlt
        obtain ⟨PO, hPO⟩ : ∃ x, (stA E m).1 = x := ⟨_, rfl⟩
        obtain ⟨PG, hPG⟩ : ∃ x, (stA E m).2.1 = x := ⟨_, rfl⟩
        obtain ⟨g, hg⟩ : ∃ x, (stA E m).2.2 = x := ⟨_, rfl⟩
        rw [hPO, hPG, hg] at HNX HQ
        rw [hPO, hPG] at HS
        rw [hg]
        clear hPO hPG hg
        have hg2 := HQ.out.2.2.2.2.1
        have hg1 := HQ.out.2.2.2.1
        obtain ⟨pg, cg, rfl⟩ := HS.out.len
        obtain ⟨lg, hlg⟩ : ∃ x, PG.length = x := ⟨_, rfl⟩
        have HLG : Hid (PG.length = lg) := hlg
        have hlg4 : lg ≤ 4194304 := by have := HQ.out.2.2.2.2.2; omega
        have H1 : Hid (CanS w0 w wr u3 (.slice pg PG.length cg) PO PG) := HS
        rw [hlg] at H1 ⊢
        clear hlg HS
        go_wp2
        go_loopw [3, 56] (fun vo i wr2 => ∃ (j : Nat), j ≤ lg ∧ i = .int .i64 j ∧ Hid (CanS w0 w wr2 vo (.slice pg lg cg) ((PG.take j).foldl pushL PO) PG)) (fun _ i _ => lg - (RowKit.intOf i).toNat)
        case atStart => exact ⟨0, Nat.zero_le _, rfl, by rw [List.take_zero]; exact H1⟩
        case round =>
          clear H1
          obtain ⟨j, hj, rfl, H1⟩ := hrel
          by_cases hjl : j < lg
          · have hjI : (j : Int) < lg := by omega
            have hj0 : (0 : Int) ≤ (j : Int) := by omega
            obtain ⟨e', gg, sp', sl', sc', he', rfl, hat', hrn'⟩ := H1.out.read j (by rw [HLG.out]; exact hjl)
            obtain ⟨d0, d1, d2, d3, d4, d5, d6⟩ := hat'
            rw [Nat.zero_add] at d0 d1 d2 d3 d4 d5 d6
            have HB := H1.out.keep ((Below.refl wr.heap.size wr).alloc (Nat.le_refl _) (.cells (opC e' (.slice sp' sl' sc')) 33))
            obtain ⟨a1, a2, a3, a4⟩ := HQ.out.2.2.1 e' (List.mem_of_getElem? he')
            have cP := push_can e' sp' sl' sc' HB hrn' (HQ.out.1 j) (Nat.le_refl _) (by decide) (Nat.le_refl _) a1 a2 a3 a4
            have hP2 : pushL ((PG.take j).foldl pushL PO) e' = (PG.take (j + 1)).foldl pushL PO := by rw [List.take_add_one, he', List.foldl_append]; rfl
            rw [hP2] at cP
            clear HB a1 a2 a3 a4 H1 hrn' he' hP2
            obtain ⟨k', t', ⟨x', n', u'⟩, c', A'⟩ := e'
            simp only [opC, slV] at d0 d1 d2 d3 d4 d5 d6 cP
            go_wp2_with fail
            refine cP.mono ?_; rintro r w5 ⟨v5, rfl, h5⟩
            have H5 := Hid.mk' h5
            clear cP d0 d1 d2 d3 d4 d5 d6 h5
            go_wp2
            go_roundw
            case rel => exact ⟨j + 1, by omega, by go_num, H5⟩
            case measure => simp [RowKit.intOf]; omega
          · obtain rfl : j = lg := by omega
            have hjI : ¬ (j : Int) < j := by omega
            have hq1 := HQ.out.1 j
            rw [show PG.take j = PG by have := HLG.out; rw [← this, List.take_length]] at H1 hq1
            by_cases hgp : 0 < g
            · have cP := push_can (delO g) none 0 0 H1.out (RN.nil w0) hq1 (Nat.le_refl _) (by decide) (Nat.le_refl _) (delO_wel (by omega)) (by show (0 : Nat) ≤ _; omega) (by show (0 : Nat) ≤ _; omega) (by show g ≤ _; omega)
              have hfl : pushL (PG.foldl pushL PO) (delO g) = flushL PO PG g := by unfold flushL; rw [if_pos hgp]
              rw [hfl] at cP
              simp only [delO] at cP
              clear hq1 H1 hfl
              go_wp2_with fail
              refine cP.mono ?_; rintro r w5 ⟨v5, rfl, h5⟩
              have H5 := Hid.mk' h5.cleared
              clear cP h5
              have H2 : Hid ((stA E (m + 1)).2.2 = 0) := by show _ = _; rw [HNX.out]
              have H6 : Hid (CanS w0 w w5 v5 (.slice none 0 0) (stA E (m + 1)).1 (stA E (m + 1)).2.1) := by rw [HNX.out]; exact H5
              clear H5 HNX HQ
              go_wp2
              go_roundw
              case rel => exact ⟨m + 1, by omega, by go_num, by rw [H2.out], H6⟩
              case measure => (simp [RowKit.intOf]) <;> omega
            · have hfl : PG.foldl pushL PO = flushL PO PG g := by unfold flushL; rw [if_neg hgp]
              rw [hfl] at H1
              have H5 := Hid.mk' H1.out.cleared
              clear hq1 H1 hfl
              have H2 : Hid ((stA E (m + 1)).2.2 = 0) := by show _ = _; rw [HNX.out]
              have H6 : Hid (CanS w0 w wr u3 (.slice none 0 0) (stA E (m + 1)).1 (stA E (m + 1)).2.1) := by rw [HNX.out]; exact H5
              clear H5 HNX HQ
              go_wp2
              go_roundw
              case rel => exact ⟨m + 1, by omega, by go_num, by rw [H2.out], H6⟩
              case measure => (simp [RowKit.intOf]) <;> omega
      · obtain rfl : m = n + 1 := by omega
        have hnl1 : ¬ ((n : Int) + 1 ≤ n) := by omega
        have hst : (stA E (n + 1)).1 = flushL (runC E).1 (runC E).2.1 (runC E).2.2 := by
          have e1 := HN.out.1
          rw [← e1, stA_end]
        rw [hst] at HS
        have hq := (stA_q HN.out.2 (m := n) (by have := HN.out.1; omega)).2.1.len
        rw [stA_at (by have := HN.out.1; omega), show E.take n = E by have := HN.out.1; rw [← this, List.take_length]] at hq
        have hcan : canonL E = trimL (flushL (runC E).1 (runC E).2.1 (runC E).2.2) := rfl
        generalize flushL (runC E).1 (runC E).2.1 (runC E).2.2 = P at HS hq hcan
        have hb := HS.out.below
        obtain ⟨D, hown, hD⟩ := HS.out.out
        have hD' := hD
        have hlen := forall2_len hD
        generalize (stA E (n + 1)).2.2 = g at *
        clear HS hst HN HR hD
        rcases List.eq_nil_or_concat P with rfl | ⟨F, x, rfl⟩
        · obtain rfl : D = [] := List.eq_nil_of_length_eq_zero (by simpa using hlen)
          obtain ⟨po, co, hvo⟩ := own_slice hown
          obtain rfl : u3 = .slice po 0 co := hvo
          have HO : Hid (FarO wr w.heap.size (.slice po 0 co) [] ∧ Below w.heap.size w wr) := ⟨far_own hown rfl (fun _ _ h => h) (Nat.le_refl _), hb⟩
          have HC : Hid (canonL E = []) := hcan
          clear hown hb hD' hlen hq hmn hlt hm hcan
          go_wp2
          go_ret
          exact ⟨_, rfl, ⟨[], HO.out.1, by rw [HC.out]; exact .nil⟩, HO.out.2⟩
        · rw [List.concat_eq_append] at hD' hlen hq hcan
          obtain ⟨FD, d, rfl⟩ : ∃ FD d, D = FD ++ [d] := by
            rcases List.eq_nil_or_concat D with rfl | ⟨FD, d, rfl⟩
            · simp at hlen
            · exact ⟨FD, d, List.concat_eq_append⟩
          have hl' : FD.length = F.length := by simpa using hlen
          obtain ⟨hF, hx⟩ := forall2_unappend hl' hD'
          obtain ⟨hx1, hx2, hx3, hx4, hx5⟩ : d.1 = x.k ∧ d.2.1 = x.t ∧ d.2.2.1 = x.v ∧ d.2.2.2.1 = x.c ∧ RN w0 (slV d.2.2.2.2) x.A := by cases hx with | cons a _ => exact a
          obtain ⟨dk, dt, dv, dc, sp, sl, sc⟩ := d
          simp only at hx1 hx2 hx3 hx4
          subst hx1; subst hx2; subst hx3; subst hx4
          have hro := own_rowO hown
          obtain ⟨po, co, hvo, hco1, hco2, hco3⟩ := hro
          obtain ⟨bo, oo, rfl, hat⟩ := hco3 FD.length (x.k, x.t, x.v, x.c, sp, sl, sc) (by simp)
          obtain ⟨c0, c1, c2, c3, c4, c5, c6⟩ := hat
          rw [show (FD ++ [(x.k, x.t, x.v, x.c, sp, sl, sc)]).length = FD.length + 1 by simp] at hvo hco1
          subst hvo
          have hlA : sl = x.A.length := by
            obtain ⟨q, cc, e1, _⟩ := hx5.row
            simp only [slV, Value.slice.injEq] at e1
            exact e1.2.1
          have cP := plain6_any x sp sl sc wr hlA
          have HB := Hid.mk' hb
          have HO := Hid.mk' hown
          have HRF : Hid (FarO wr w.heap.size (.slice (some ⟨bo, oo, none⟩) FD.length co) FD ∧ ReD w0 FD F) := ⟨far_own hown rfl (fun j d hd => by rw [List.getElem?_append_left (List.getElem?_eq_some_iff.1 hd).1]; exact hd) (by simp), hF⟩
          have HRX : Hid (FarO wr w.heap.size (.slice (some ⟨bo, oo, none⟩) (FD.length + 1) co) (FD ++ [(x.k, x.t, x.v, x.c, sp, sl, sc)]) ∧ ReD w0 (FD ++ [(x.k, x.t, x.v, x.c, sp, sl, sc)]) (F ++ [x])) := ⟨by have h := far_own hown rfl (F := FD ++ [(x.k, x.t, x.v, x.c, sp, sl, sc)]) (fun _ _ h => h) (Nat.le_refl _); rw [show (FD ++ [(x.k, x.t, x.v, x.c, sp, sl, sc)]).length = FD.length + 1 by simp] at h; exact h, forall2_append hF hx⟩
          have hFl : FD.length ≤ 4194304 := by simp at hq; omega
          obtain ⟨fl, hfl⟩ : ∃ y, FD.length = y := ⟨_, rfl⟩
          rw [hfl] at HRF HRX hFl hco1 c0 c1 c2 c3 c4 c5 c6 ⊢
          clear hco3 hco2 hx5 hx hF hl' hlen hD' hown hb hq hfl HO hmn hlt hm hlA
          have hf0 : (0 : Int) < (fl : Int) + 1 := by omega
          have hf1 : (fl : Int) + 1 - 1 = (fl : Int) := by omega
          have hf2 : (0 : Int) ≤ (fl : Int) := by omega
          cases hp : plainR x with
          | true =>
            rw [trim_yes hp] at hcan
            have HC := Hid.mk' hcan
            rw [hp] at cP
            clear HRX hp hcan
            obtain ⟨k, t, ⟨xx, nn, u⟩, cc, A⟩ := x
            simp only [slV] at c0 c1 c2 c3 c4 c5 c6 cP
            go_wp2_with fail
            refine cP.mono ?_; rintro r w1 ⟨rfl, hb1⟩
            have HB1 : Hid (Below w.heap.size w w1) := HB.out.trans (hb1.mono HB.out.size)
            have HR1 := Hid.mk' (And.intro (HRF.out.1.below hb1) HRF.out.2)
            clear cP c0 c1 c2 c3 c4 c5 c6 HRF HB hb1
            go_wp2
            go_ret
            exact ⟨_, rfl, ⟨_, HR1.out.1, by rw [HC.out]; exact HR1.out.2⟩, HB1.out⟩
          | false =>
            rw [trim_no hp] at hcan
            have HC := Hid.mk' hcan
            rw [hp] at cP
            clear HRF hp hcan
            obtain ⟨k, t, ⟨xx, nn, u⟩, cc, A⟩ := x
            simp only [slV] at c0 c1 c2 c3 c4 c5 c6 cP
            go_wp2_with fail
            refine cP.mono ?_; rintro r w1 ⟨rfl, hb1⟩
            have HB1 : Hid (Below w.heap.size w w1) := HB.out.trans (hb1.mono HB.out.size)
            have HR1 := Hid.mk' (And.intro (HRX.out.1.below hb1) HRX.out.2)
            clear cP c0 c1 c2 c3 c4 c5 c6 HRX HB hb1
            go_wp2
            go_ret
            exact ⟨_, rfl, ⟨_, HR1.out.1, by rw [HC.out]; exact HR1.out.2⟩, HB1.out⟩
end Go.Proofs.YthfpmhnnjjikcaaGreatDoor

/- The document's op, Doc, Of, SameList of layer 9. -/
namespace Go.Proofs.YthfpmhnnjjikcaaGreatDoor
open Go Go.RowKit Go.Lib
set_option linter.unusedVariables false

instance instDecC5 : DecidableEq C5 := fun a b => by unfold C5 at a b; exact inferInstance
instance instDecLC5 : DecidableEq (List C5) := fun a b => by exact instDecidableEqList a b
theorem take_snoc9 {α : Type} {E E' : List α} {k : Nat} {e e' : α} (h : E.take k = E'.take k) (h1 : E[k]? = some e) (h2 : E'[k]? = some e') (h3 : e = e') : E.take (k + 1) = E'.take (k + 1) := by
  rw [List.take_add_one, List.take_add_one, h, h1, h2, h3]
theorem ne_at9 {α : Type} {E E' : List α} {k : Nat} {e e' : α} (h1 : E[k]? = some e) (h2 : E'[k]? = some e') (h3 : ¬ e = e') : ¬ E = E' := fun h => by
  rw [h, h2] at h1
  exact h3 (Option.some.inj h1).symm
theorem ce_of {w : World} {d : CV} {e : C5} (h : d.1 = e.1 ∧ d.2.1 = e.2.1 ∧ d.2.2.1 = e.2.2.1 ∧ RN w (slV d.2.2.2) e.2.2.2) : ceV d = ceP e (slV d.2.2.2) := by
  obtain ⟨dk, dt, dv, ds⟩ := d
  obtain ⟨x1, x2, x3, _⟩ := h
  simp only at x1 x2 x3
  subst x1; subst x2; subst x3; rfl
set_option maxHeartbeats 2000000 in
set_option maxRecDepth 100000 in
theorem sameL9_any (v v' : Value) (D D' : List CV) (E E' : List C5) (w : World) (hrow : RowC w v D) (hrow' : RowC w v' D') (hre : Are w D E) (hre' : Are w D' E') (hl : E.length ≤ 2097152) (hl' : E'.length ≤ 2097152) (hA : ∀ e ∈ E, e.2.2.2.length ≤ 4194304) (hA' : ∀ e ∈ E', e.2.2.2.length ≤ 4194304) :
    Calls Tryz.prog 36 #[v, v'] w fun r w' => r = .returned (.bool (decide (E = E'))) ∧ Below w.heap.size w w' := by
  have hE := forall2_len hre
  have hE' := forall2_len hre'
  obtain ⟨n, hn⟩ : ∃ n, D.length = n := ⟨_, rfl⟩
  obtain ⟨m, hm⟩ : ∃ m, D'.length = m := ⟨_, rfl⟩
  obtain ⟨pa, ca, rfl, ha, _, hca⟩ := hrow
  obtain ⟨pb, cb, rfl, hb, _, hcb⟩ := hrow'
  rw [hn] at ha hE ⊢
  rw [hm] at hb hE' ⊢
  have HN : Hid (D.length = n ∧ D'.length = m ∧ E.length = n ∧ E'.length = m) := ⟨hn, hm, hE.symm, hE'.symm⟩
  by_cases hnm : n = m
  · subst hnm
    have HA : Hid (D ≠ [] → ∃ b off, pa = some ⟨b, off, none⟩ ∧ InC w b off D) := hca
    have HB : Hid (D' ≠ [] → ∃ b off, pb = some ⟨b, off, none⟩ ∧ InC w b off D') := hcb
    have hl : n ≤ 2097152 := by omega
    have CC : Hid (∀ (k : Nat) d d', D[k]? = some d → D'[k]? = some d' → ∃ e e', E[k]? = some e ∧ E'[k]? = some e' ∧ ∀ W, Below w.heap.size w W → Calls Tryz.prog 40 #[ceV d, ceV d'] W fun r w' => r = .returned (.bool (decide (e = e'))) ∧ Below W.heap.size W w') := fun k d d' h1 h2 => by
      obtain ⟨y, hy, r1⟩ := forall2_get hre k d h1
      obtain ⟨y', hy', r2⟩ := forall2_get hre' k d' h2
      refine ⟨y, y', hy, hy', fun W hW => ?_⟩
      rw [ce_of r1, ce_of r2]
      exact sameR9_any y y' _ _ W (r1.2.2.2.below hW).row (r2.2.2.2.below hW).row (hA y (List.mem_of_getElem? hy)) (hA' y' (List.mem_of_getElem? hy'))
    clear hca hcb hn hm hre hre' hE hE' hA hA' hl'
    go_enter Tryz.func36, Tryz.ntmps36
    go_wp2
    go_loopw [13, 5] (fun i _ wr => ∃ (k : Nat), k ≤ n ∧ i = .int .i64 k ∧ Hid (E.take k = E'.take k) ∧ Below w.heap.size w wr) (fun i _ _ => n - (RowKit.intOf i).toNat)
    case atStart => exact ⟨0, Nat.zero_le _, rfl, rfl, Below.refl _ _⟩
    case round =>
      obtain ⟨k, hk, rfl, HT, hbw⟩ := hrel
      by_cases hlt : k < n
      · have hltI : (k : Int) < n := by omega
        obtain ⟨d, hd⟩ : ∃ q, D[k]? = some q := ⟨_, List.getElem?_eq_getElem (by rw [HN.out.1]; exact hlt)⟩
        obtain ⟨d', hd'⟩ : ∃ q, D'[k]? = some q := ⟨_, List.getElem?_eq_getElem (by rw [HN.out.2.1]; exact hlt)⟩
        obtain ⟨e, e', he, he', cc⟩ := CC.out k d d' hd hd'
        obtain ⟨b, off, rfl, hin⟩ := HA.out (by intro e; rw [e] at hd; simp at hd)
        obtain ⟨b', off', rfl, hin'⟩ := HB.out (by intro e; rw [e] at hd'; simp at hd')
        obtain ⟨x0, x1, x2, x3, x4, x5⟩ := cellsC_get D k d hd
        obtain ⟨y0, y1, y2, y3, y4, y5⟩ := cellsC_get D' k d' hd'
        have c0 := (hin.below hbw) _ _ x0
        have c1 := (hin.below hbw) _ _ x1
        have c2 := (hin.below hbw) _ _ x2
        have c3 := (hin.below hbw) _ _ x3
        have c4 := (hin.below hbw) _ _ x4
        have c5 := (hin.below hbw) _ _ x5
        have d0 := (hin'.below hbw) _ _ y0
        have d1 := (hin'.below hbw) _ _ y1
        have d2 := (hin'.below hbw) _ _ y2
        have d3 := (hin'.below hbw) _ _ y3
        have d4 := (hin'.below hbw) _ _ y4
        have d5 := (hin'.below hbw) _ _ y5
        simp only [← Nat.add_assoc] at c0 c1 c2 c3 c4 c5 d0 d1 d2 d3 d4 d5
        have HEE : Hid (E[k]? = some e ∧ E'[k]? = some e') := ⟨he, he'⟩
        clear x0 x1 x2 x3 x4 x5 y0 y1 y2 y3 y4 y5 hin hin' hd hd' he he'
        obtain ⟨f, t, ⟨x, z, u⟩, p, j, c⟩ := d
        obtain ⟨f', t', ⟨x', z', u'⟩, p', j', c'⟩ := d'
        simp only [slV] at c0 c1 c2 c3 c4 c5 d0 d1 d2 d3 d4 d5
        simp only [ceV, slV] at cc
        have HU : Hid (∀ w', Below wr.drew.heap.size wr.drew w' → (w'.cell? ⟨b, off + k * 6, none⟩ = some (.int .i32 f) ∧ w'.cell? ⟨b, off + k * 6 + 1, none⟩ = some (.string t) ∧ w'.cell? ⟨b, off + k * 6 + 2, none⟩ = some (.int .i64 x) ∧ w'.cell? ⟨b, off + k * 6 + 3, none⟩ = some (.int .i64 z) ∧ w'.cell? ⟨b, off + k * 6 + 4, none⟩ = some (.string u) ∧ w'.cell? ⟨b, off + k * 6 + 5, none⟩ = some (.slice p j c) ∧ w'.cell? ⟨b', off' + k * 6, none⟩ = some (.int .i32 f') ∧ w'.cell? ⟨b', off' + k * 6 + 1, none⟩ = some (.string t') ∧ w'.cell? ⟨b', off' + k * 6 + 2, none⟩ = some (.int .i64 x') ∧ w'.cell? ⟨b', off' + k * 6 + 3, none⟩ = some (.int .i64 z') ∧ w'.cell? ⟨b', off' + k * 6 + 4, none⟩ = some (.string u') ∧ w'.cell? ⟨b', off' + k * 6 + 5, none⟩ = some (.slice p' j' c'))) := fun w' hb => ⟨(hb.cell (lt_of_cell (w := wr.drew) c0)).trans c0, (hb.cell (lt_of_cell (w := wr.drew) c1)).trans c1, (hb.cell (lt_of_cell (w := wr.drew) c2)).trans c2, (hb.cell (lt_of_cell (w := wr.drew) c3)).trans c3, (hb.cell (lt_of_cell (w := wr.drew) c4)).trans c4, (hb.cell (lt_of_cell (w := wr.drew) c5)).trans c5, (hb.cell (lt_of_cell (w := wr.drew) d0)).trans d0, (hb.cell (lt_of_cell (w := wr.drew) d1)).trans d1, (hb.cell (lt_of_cell (w := wr.drew) d2)).trans d2, (hb.cell (lt_of_cell (w := wr.drew) d3)).trans d3, (hb.cell (lt_of_cell (w := wr.drew) d4)).trans d4, (hb.cell (lt_of_cell (w := wr.drew) d5)).trans d5⟩
        have hz0 : w.heap.size ≤ wr.drew.heap.size := hbw.size
        obtain ⟨q, hq⟩ : ∃ q, decide (e = e') = q := ⟨_, rfl⟩
        rw [hq] at cc
        have HQ : Hid (decide (e = e') = q) := hq
        clear hq
        cases q with
        | true =>
          have HT2 : Hid (E.take (k + 1) = E'.take (k + 1)) := take_snoc9 HT.out HEE.out.1 HEE.out.2 (of_decide_eq_true HQ.out)
          go_wp2_with fail
          go_region_held3 (fun w' => (w'.cell? ⟨b, off + k * 6, none⟩ = some (.int .i32 f) ∧ w'.cell? ⟨b, off + k * 6 + 1, none⟩ = some (.string t) ∧ w'.cell? ⟨b, off + k * 6 + 2, none⟩ = some (.int .i64 x) ∧ w'.cell? ⟨b, off + k * 6 + 3, none⟩ = some (.int .i64 z) ∧ w'.cell? ⟨b, off + k * 6 + 4, none⟩ = some (.string u) ∧ w'.cell? ⟨b, off + k * 6 + 5, none⟩ = some (.slice p j c) ∧ w'.cell? ⟨b', off' + k * 6, none⟩ = some (.int .i32 f') ∧ w'.cell? ⟨b', off' + k * 6 + 1, none⟩ = some (.string t') ∧ w'.cell? ⟨b', off' + k * 6 + 2, none⟩ = some (.int .i64 x') ∧ w'.cell? ⟨b', off' + k * 6 + 3, none⟩ = some (.int .i64 z') ∧ w'.cell? ⟨b', off' + k * 6 + 4, none⟩ = some (.string u') ∧ w'.cell? ⟨b', off' + k * 6 + 5, none⟩ = some (.slice p' j' c')) ∧ Below w.heap.size w w')
            (exact ⟨by first | (with_reducible assumption) | (simp [*]; done), by first | (with_reducible assumption) | exact hbw.drew⟩)
            (first | (go_at_call 40; refine (cc _ ?_).mono ?_; (· first | assumption | exact hbw.drew | (apply And.right; assumption)); rintro r w3 ⟨rfl, b3⟩; have b4 : Below w.heap.size w w3 := (hbw.drew).trans (b3.mono hz0); have mm := HU.out _ b3))
          clear cc mm b3
          go_wp2
          go_roundw
          case rel => exact ⟨k + 1, by omega, by go_num, HT2, b4⟩
          case measure => simp [RowKit.intOf]; omega
        | false =>
          have hfin : Hid (decide (E = E') = false) := decide_eq_false (ne_at9 HEE.out.1 HEE.out.2 (of_decide_eq_false HQ.out))
          go_wp2_with fail
          go_region_held3 (fun w' => (w'.cell? ⟨b, off + k * 6, none⟩ = some (.int .i32 f) ∧ w'.cell? ⟨b, off + k * 6 + 1, none⟩ = some (.string t) ∧ w'.cell? ⟨b, off + k * 6 + 2, none⟩ = some (.int .i64 x) ∧ w'.cell? ⟨b, off + k * 6 + 3, none⟩ = some (.int .i64 z) ∧ w'.cell? ⟨b, off + k * 6 + 4, none⟩ = some (.string u) ∧ w'.cell? ⟨b, off + k * 6 + 5, none⟩ = some (.slice p j c) ∧ w'.cell? ⟨b', off' + k * 6, none⟩ = some (.int .i32 f') ∧ w'.cell? ⟨b', off' + k * 6 + 1, none⟩ = some (.string t') ∧ w'.cell? ⟨b', off' + k * 6 + 2, none⟩ = some (.int .i64 x') ∧ w'.cell? ⟨b', off' + k * 6 + 3, none⟩ = some (.int .i64 z') ∧ w'.cell? ⟨b', off' + k * 6 + 4, none⟩ = some (.string u') ∧ w'.cell? ⟨b', off' + k * 6 + 5, none⟩ = some (.slice p' j' c')) ∧ Below w.heap.size w w')
            (exact ⟨by first | (with_reducible assumption) | (simp [*]; done), by first | (with_reducible assumption) | exact hbw.drew⟩)
            (first | (go_at_call 40; refine (cc _ ?_).mono ?_; (· first | assumption | exact hbw.drew | (apply And.right; assumption)); rintro r w3 ⟨rfl, b3⟩; have b4 : Below w.heap.size w w3 := (hbw.drew).trans (b3.mono hz0); have mm := HU.out _ b3))
          clear cc mm b3
          go_wp2
          go_ret
          exact ⟨by rw [hfin.out]; rfl, b4⟩
      · have hltI : ¬ (k : Int) < n := by omega
        have hfin : Hid (decide (E = E') = true) := decide_eq_true (by
          have := HT.out
          rwa [List.take_of_length_le (by rw [HN.out.2.2.1]; omega), List.take_of_length_le (by rw [HN.out.2.2.2]; omega)] at this)
        go_wp2
        go_ret
        exact ⟨by rw [hfin.out]; rfl, hbw⟩
  · have hne : ((n : Int) != m) = true := by simp; omega
    have hfin : Hid (decide (E = E') = false) := decide_eq_false (fun h => hnm (by rw [← HN.out.2.2.1, ← HN.out.2.2.2, h]))
    clear hca hcb hn hm hre hre' hE hE' hA hA' hnm HN hl hl'
    go_enter Tryz.func36, Tryz.ntmps36
    go_wp2
    go_ret
    exact ⟨by rw [hfin.out]; rfl, Below.refl _ _⟩

end Go.Proofs.YthfpmhnnjjikcaaGreatDoor

/- vellumlaw09.large, vellumlaw09.lives. -/
namespace Go.Proofs.YthfpmhnnjjikcaaGreatDoor
open Go Go.RowKit Go.Lib
set_option linter.unusedVariables false

/-- How large a list of cells is. -/
def larC (E : List C5) : Int := (E.map fun e => 1 + (e.2.1.size : Int) + 10 * e.2.2.2.length).sum
theorem larC_append (E F : List C5) : larC (E ++ F) = larC E + larC F := by unfold larC; rw [List.map_append, List.sum_append]
theorem larC_one (e : C5) : larC [e] = 1 + (e.2.1.size : Int) + 10 * e.2.2.2.length := by simp [larC]
theorem larC_cons (e : C5) (r : List C5) : larC (e :: r) = 1 + (e.2.1.size : Int) + 10 * e.2.2.2.length + larC r := by simp [larC]
theorem larC_len : ∀ (E : List C5), (E.length : Int) ≤ larC E
  | [] => by simp [larC]
  | e :: r => by
    have := larC_len r
    rw [larC_cons, List.length_cons]
    omega
theorem larC_mem {e : C5} : ∀ {E : List C5}, e ∈ E → 1 + (e.2.1.size : Int) + 10 * e.2.2.2.length ≤ larC E
  | x :: r, h => by
    have h0 := larC_len r
    rw [larC_cons]
    rcases List.mem_cons.1 h with rfl | h
    · omega
    · have := larC_mem h; omega
theorem opOf_t (e : C5) : (opOf e).t.size ≤ 4 + e.2.1.size := by
  obtain ⟨k, t, v, A⟩ := e
  unfold opOf
  split
  · show t.size ≤ 4 + t.size; omega
  · have := enc_le4 ((Int.toNat k : Nat) : Int)
    show (⟨(enc k.toNat).toArray⟩ : ByteArray).size ≤ _
    have e2 : (⟨(enc k.toNat).toArray⟩ : ByteArray).size = (enc k.toNat).length := by simp [ByteArray.size]
    rw [e2]
    unfold enc
    omega
theorem larC_txt : ∀ (E : List C5), (txtS (E.map opOf) : Int) ≤ 4 * larC E
  | [] => by simp [larC, txtS]
  | e :: r => by
    have h := larC_txt r
    have h2 := opOf_t e
    rw [List.map_cons, txtS_cons, larC_cons]
    omega
theorem lightC {E : List C5} (h : decide (20000 < larC E) = false) : txtS (E.map opOf) ≤ 80000 ∧ E.length ≤ 20000 ∧ ∀ e ∈ E, e.2.2.2.length ≤ 2000 ∧ e.2.1.size ≤ 20000 := by
  have h0 := of_decide_eq_false h
  have h1 := larC_txt E
  have h2 := larC_len E
  refine ⟨by omega, by omega, fun e he => ?_⟩
  have := larC_mem he
  omega
/-- A cell without attributes, as it lies in memory. -/
abbrev cvN (e : C5) : CV := (e.1, e.2.1, e.2.2.1, (none, 0, 0))
theorem rowC_blk {w : World} {b : Nat} {D : List CV} (h : w.heap[b]? = some (.cells (cellsC D).toArray 84 (0, 0))) : RowC w (.slice (some ⟨b, 0, none⟩) D.length D.length) D := by
  refine ⟨some ⟨b, 0, none⟩, D.length, rfl, Nat.le_refl _, fun h => (by cases h), fun _ => ⟨b, 0, rfl, fun j u hu => ?_⟩⟩
  rw [Nat.zero_add, cell_of_heap h, List.getElem?_toArray]
  exact hu
theorem areN (w : World) : ∀ (E : List C5), (∀ e ∈ E, e.2.2.2 = []) → Are w (E.map cvN) E
  | [], _ => .nil
  | e :: r, h => by
    refine .cons ⟨rfl, rfl, rfl, ?_⟩ (areN w r fun x hx => h x (List.mem_cons_of_mem _ hx))
    rw [h e (List.mem_cons_self ..)]
    exact RN.nil w
def live9 : List C5 := [(97, ⟨#[]⟩, z0, []), (98, ⟨#[]⟩, z0, []), (-1, ⟨#[105, 109, 97, 103, 101]⟩, z0, [])]
def live9o : List Op5 := [txtO ⟨#[97, 98]⟩, ⟨2, ⟨#[105, 109, 97, 103, 101]⟩, z0, 0, []⟩]
theorem live9_ok : celP live9 = (0, 0) := by kernel_rfl
theorem live9_doc : docOf live9 = live9o := by kernel_rfl
theorem live9_nil : ∀ e ∈ live9, e.2.2.2 = [] := by
  intro e he
  simp only [live9, List.mem_cons, List.not_mem_nil, or_false] at he
  rcases he with rfl | rfl | rfl <;> rfl
theorem live9_fit : ∀ e ∈ live9, FitC e := by
  intro e he
  have hA := live9_nil e he
  refine ⟨?_, ?_, fun q hq => (by rw [hA] at hq; cases hq), by rw [hA]; simp⟩
  all_goals
    simp only [live9, List.mem_cons, List.not_mem_nil, or_false] at he
    rcases he with rfl | rfl | rfl <;> decide
theorem live9o_nil : ∀ o ∈ live9o, o.A = [] := by
  intro o ho
  simp only [live9o, List.mem_cons, List.not_mem_nil, or_false] at ho
  rcases ho with rfl | rfl <;> rfl
theorem live9o_okR : OkR live9o := ⟨fun o ho => by rw [live9o_nil o ho]; simp, by decide⟩
theorem live9o_good : ∀ o ∈ live9o, opE o = 0 := by
  intro o ho
  simp only [live9o, List.mem_cons, List.not_mem_nil, or_false] at ho
  rcases ho with rfl | rfl <;> kernel_rfl
set_option maxHeartbeats 2000000 in
set_option maxRecDepth 100000 in
theorem lives9_any {I : List Nat} {a : Nat → Addr} (w : World) (hI : ∀ i ∈ IxO, i ∈ I) (hS : Std I a w) :
    Calls Tryz.prog 31 #[] w fun r w' => r = .returned (.bool true) ∧ Below w.heap.size w w' := by
  have CO : Hid (∀ W b, Below w.heap.size w W → W.heap[b]? = some (.cells (cellsC (live9.map cvN)).toArray 84 (0, 0)) → Calls Tryz.prog 82 #[.slice (some ⟨b, 0, none⟩) 3 3] W fun r w' => ∃ dv, r = .returned (.tuple #[dv, .int .i64 0, .nilIface]) ∧ (∃ q, dv = .pointer (some ⟨q, 0, none⟩)) ∧ DelV w' W.heap.size W.heap.size dv live9o ∧ Below W.heap.size W w') := fun W b hW hb => by
    refine (ofC_any _ (live9.map cvN) live9 W hI (hS.below hW) (rowC_blk hb) (areN W live9 live9_nil) live9_fit (by decide) (by decide)).mono ?_
    rintro r w' ⟨dv, h1, h2, _, h4⟩
    rw [live9_ok] at h1 h2
    rw [live9_doc] at h2
    have h5 := h2 rfl
    obtain ⟨q, pv, PL, e, _⟩ := id h5
    exact ⟨dv, h1, ⟨q, e⟩, h5, h4⟩
  have CI : Hid (∀ W b dv B1 B2, DelV W B1 B2 dv live9o → W.heap[b]? = some (.cells (cellsO (live9o.map ovN)).toArray 33 (0, 0)) → Calls Tryz.prog 15 #[dv, .slice (some ⟨b, 0, none⟩) 2 2] W fun r w' => r = .returned (.bool true) ∧ Below W.heap.size W w') := fun W b dv B1 B2 h hb => by
    have := is_any dv (.slice (some ⟨b, 0, none⟩) 2 2) live9o live9o W h live9o_good live9o_okR (re_blk hb live9o_nil) live9o_okR
    rw [decide_eq_true rfl] at this
    exact this
  clear hS hI
  go_enter Tryz.func31, Tryz.ntmps31
  have b0 := (Below.refl w.heap.size w).alloc (Nat.le_refl _) (.cells (cellsC (live9.map cvN)).toArray 84)
  go_wp2_with fail
  refine (CO.out _ _ b0 (heap_alloc_new w _)).mono ?_; rintro r w5 ⟨dv, rfl, ⟨q, rfl⟩, hd5, hb5⟩
  have b5 := b0.trans (hb5.mono b0.size)
  have HD5 : Hid (∃ B1 B2, DelV w5 B1 B2 (.pointer (some ⟨q, 0, none⟩)) live9o) := ⟨_, _, hd5⟩
  clear hb5 hd5 CO b0
  obtain ⟨B1, B2, hd7⟩ := HD5.out
  have HD : Hid (DelV w5 B1 B2 (.pointer (some ⟨q, 0, none⟩)) live9o) := hd7
  clear hd7 HD5
  go_wp2_with fail
  refine (CI.out _ _ _ B1 B2 (HD.out.below ((Below.refl _ _).alloc (Nat.le_refl _) _)) (heap_alloc_new w5 _)).mono ?_; rintro r w8 ⟨rfl, hb8⟩
  have b8 := (b5.alloc b5.size _).trans (hb8.mono (Nat.le_trans b5.size (by rw [World.size_alloc]; omega)))
  clear hb8 b5 CI HD
  go_wp2
  go_ret
  exact ⟨rfl, b8⟩
end Go.Proofs.YthfpmhnnjjikcaaGreatDoor

/- vellumhand.Ops: operations as new memory, with spare room. -/
namespace Go.Proofs.YthfpmhnnjjikcaaGreatDoor
open Go Go.RowKit Go.Lib
set_option linter.unusedVariables false

abbrev d78 : OV := (78, ⟨#[]⟩, z0, 0, (none, 0, 0))
theorem HandO.val {w : World} {lo hi : Nat} {v : Value} {A : List A2} (h : HandO w lo hi v A) : ∃ p l c, v = .slice p l c := by
  rcases h with ⟨_, h⟩ | ⟨g, c, _, h, _⟩
  · exact ⟨_, _, _, h⟩
  · exact ⟨_, _, _, h⟩
theorem HandO.keep {w w' : World} {lo hi hi' : Nat} {v : Value} {A : List A2} (h : HandO w lo hi v A) (b : KeepA w w') (hh : hi ≤ hi') : HandO w' lo hi' v A := by
  rcases h with h | ⟨g, c, h1, h2, h3, h4⟩
  · exact Or.inl h
  · exact Or.inr ⟨g, c, h1, h2, by omega, keepA_own h4 b⟩
theorem HandO.upto {w w' : World} {lo hi hi' : Nat} {v : Value} {A : List A2} (h : HandO w lo hi v A) (b : Below hi w w') (hh : hi ≤ hi') : HandO w' lo hi' v A := by
  rcases h with h | ⟨g, c, h1, h2, h3, h4⟩
  · exact Or.inl h
  · exact Or.inr ⟨g, c, h1, h2, by omega, owns_same h4 fun k hk => b.block k (by simp only [Value.ownBlock, Option.some.injEq] at hk; omega)⟩
theorem HandO.setBelow {w : World} {lo hi : Nat} {v : Value} {A : List A2} (h : HandO w lo hi v A) {g : Nat} (hg : g < lo) (j : Nat) (u : Value) : HandO (w.setCell ⟨g, j, none⟩ u) lo hi v A := by
  rcases h with h | ⟨g', c, h1, h2, h3, h4⟩
  · exact Or.inl h
  · exact Or.inr ⟨g', c, h1, h2, h3, ownsRow_setCell_below h4 (a := ⟨g, j, none⟩) hg u⟩
theorem HandO.lower {w : World} {lo lo' hi : Nat} {v : Value} {A : List A2} (h : HandO w lo hi v A) (hh : lo' ≤ lo) : HandO w lo' hi v A := by
  rcases h with h | ⟨g', c, h1, h2, h3, h4⟩
  · exact Or.inl h
  · exact Or.inr ⟨g', c, h1, h2, h3, own_weaken h4 hh⟩
theorem HandO.RN {w : World} {lo hi : Nat} {v : Value} {A : List A2} (h : HandO w lo hi v A) : RN w v A := ⟨h.hand.2.1, h.hand.1⟩
/-- What an operation in memory is, its list with spare room. -/
def HandD (w : World) (lo hi : Nat) (D : List OV) (E : List Op5) : Prop := All2 (fun (d : OV) (e : Op5) => d.1 = e.k ∧ d.2.1 = e.t ∧ d.2.2.1 = e.v ∧ d.2.2.2.1 = e.c ∧ HandO w lo hi (slV d.2.2.2.2) e.A) D E
theorem HandD.upto {w w' : World} {lo hi hi' : Nat} {D : List OV} {E : List Op5} (h : HandD w lo hi D E) (b : Below hi w w') (hh : hi ≤ hi') : HandD w' lo hi' D E := All2.imp (fun d e h => ⟨h.1, h.2.1, h.2.2.1, h.2.2.2.1, h.2.2.2.2.upto b hh⟩) h
theorem HandD.keep {w w' : World} {lo hi hi' : Nat} {D : List OV} {E : List Op5} (h : HandD w lo hi D E) (b : KeepA w w') (hh : hi ≤ hi') : HandD w' lo hi' D E := All2.imp (fun d e h => ⟨h.1, h.2.1, h.2.2.1, h.2.2.2.1, h.2.2.2.2.keep b hh⟩) h
theorem HandD.below {w w' : World} {lo hi hi' : Nat} {D : List OV} {E : List Op5} (h : HandD w lo hi D E) (b : Below w.heap.size w w') (hh : hi ≤ hi') : HandD w' lo hi' D E := h.keep (keepA_below b) hh
theorem HandD.re {w : World} {lo hi : Nat} {D : List OV} {E : List Op5} (h : HandD w lo hi D E) : ReD w D E := All2.imp (fun d e h => ⟨h.1, h.2.1, h.2.2.1, h.2.2.2.1, h.2.2.2.2.RN⟩) h
theorem handD_snoc {w : World} {lo hi : Nat} {D : List OV} {E : List Op5} {d : OV} {e : Op5} (h : HandD w lo hi D E) (h1 : d.1 = e.k ∧ d.2.1 = e.t ∧ d.2.2.1 = e.v ∧ d.2.2.2.1 = e.c ∧ HandO w lo hi (slV d.2.2.2.2) e.A) : HandD w lo hi (D ++ [d]) (E ++ [e]) :=
  forall2_append h (.cons h1 .nil)
/-- Operations with spare room behind them, the call's own. -/
def HandL (w : World) (lo hi : Nat) (v : Value) (E : List Op5) : Prop :=
  ∃ g c D, v = .slice (some ⟨g, 0, none⟩) E.length c ∧ lo ≤ g ∧ g < hi ∧ D.length = E.length ∧ OwnO w lo (.slice (some ⟨g, 0, none⟩) (D ++ [d77, d78]).length c) (D ++ [d77, d78]) ∧ HandD w lo hi D E
theorem HandL.below {w w' : World} {lo hi : Nat} {v : Value} {E : List Op5} (h : HandL w lo hi v E) (b : Below w.heap.size w w') : HandL w' lo hi v E := by
  obtain ⟨g, c, D, h1, h2, h3, h4, h5, h6⟩ := h
  exact ⟨g, c, D, h1, h2, h3, h4, owns_below h5 b, h6.below b (Nat.le_refl _)⟩
theorem HandL.re {w : World} {lo hi : Nat} {v : Value} {E : List Op5} (h : HandL w lo hi v E) : ReO w v E := by
  obtain ⟨g, c, D, rfl, h2, h3, h4, h5, h6⟩ := h
  refine ⟨D, ?_, h6.re⟩
  obtain ⟨p, c', he, hc, hn, hr⟩ := own_rowO h5
  simp only [Value.slice.injEq] at he
  obtain ⟨rfl, -, rfl⟩ := he
  refine ⟨_, _, by rw [h4], by simp at hc; omega, hn, fun j x hx => hr j x ?_⟩
  rw [List.getElem?_append_left (List.getElem?_eq_some_iff.1 hx).1]; exact hx
/-- append(own, two operations). -/
theorem wpList_append_op2 {w : World} {ops : Array Oper} {rest : List Oper} {o : Oper} {a : Act} {Q : Exit → Act → World → Prop} (hgd : o.guard = none) (s x : Operand)
    (ho : o.op = .call { callee := .builtin .append, args := #[s, x], argTypes := #[26, 26] })
    (base : Nat) (v : Value) (L : List OV) (hs : a.eval s = v) (hown : OwnO w base v L)
    (b c : Nat) (d e : OV) (hx : a.eval x = .slice (some ⟨b, 0, none⟩) 2 c) (hM : OpAt w b 0 d) (hM2 : OpAt w b 7 e)
    (h63 : L.length ≤ 33554432) (hbase : base ≤ w.heap.size)
    (h : ∀ v' w', OwnO w' base v' (L ++ [d, e]) → w.grownBy w' v.ownBlock → (v'.ownBlock = v.ownBlock ∨ v'.ownBlock = some w.heap.size) → wpList Tryz.prog ops Q rest (a.put o.dst v') w') : wpList Tryz.prog ops Q (o :: rest) a w := by
  obtain ⟨i, z, hi, hz, hz1, hz2, hz3⟩ := infoOp
  refine wpList_append_own_at _ hgd s x _ ho base 33 i z 7 88 Tryz.underlying26 hi hz hz1 hz2 hz3 (by decide) v L.length (cellsO L) hs hown ⟨b, 0, none⟩ 2 c (cellsO [d, e]) hx (by rw [cellsO_len]; rfl) (fun j y hj => ?_) (cellsO_one _) (by unfold maxLen; omega) (by omega) hbase (fun v' w' h1 h2 _ h3 => ?_)
  · rw [Addr.add_lit, Nat.zero_add]
    obtain ⟨h0, h1, h2, h3, h4, h5, h6⟩ := hM
    obtain ⟨k0, k1, k2, k3, k4, k5, k6⟩ := hM2
    simp only [Nat.zero_add] at h0 h1 h2 h3 h4 h5 h6
    match j, hj with
    | 0, hj => simp [cellsO] at hj; rw [← hj]; exact h0
    | 1, hj => simp [cellsO] at hj; rw [← hj]; exact h1
    | 2, hj => simp [cellsO] at hj; rw [← hj]; exact h2
    | 3, hj => simp [cellsO] at hj; rw [← hj]; exact h3
    | 4, hj => simp [cellsO] at hj; rw [← hj]; exact h4
    | 5, hj => simp [cellsO] at hj; rw [← hj]; exact h5
    | 6, hj => simp [cellsO] at hj; rw [← hj]; exact h6
    | 7, hj => simp [cellsO] at hj; rw [← hj]; exact k0
    | 8, hj => simp [cellsO] at hj; rw [← hj]; exact k1
    | 9, hj => simp [cellsO] at hj; rw [← hj]; exact k2
    | 10, hj => simp [cellsO] at hj; rw [← hj]; exact k3
    | 11, hj => simp [cellsO] at hj; rw [← hj]; exact k4
    | 12, hj => simp [cellsO] at hj; rw [← hj]; exact k5
    | 13, hj => simp [cellsO] at hj; rw [← hj]; exact k6
    | j + 14, hj => simp [cellsO] at hj
  · refine h v' w' ?_ h2 ?_
    · show w'.ownsRow _ _ _ _ _ _
      rw [cellsO_append, List.length_append]
      exact h1
    · exact h3
end Go.Proofs.YthfpmhnnjjikcaaGreatDoor

/- The errors' numbers: what vellumnum.list and vellumnum.Num answer where all nineteen sentinels lie as laid. -/
namespace Go.Proofs.YthfpmhnnjjikcaaGreatDoor
open Go Go.RowKit
set_option linter.unusedVariables false

/-- All nineteen. -/
def all19 : List Nat := List.range 19
abbrev Sent (a : Nat → Addr) (w : World) : Prop := Er all19 a w
theorem in19 {i : Nat} (h : i < 19) : i ∈ all19 := List.mem_range.2 h
def errA (a : Nat → Addr) : Array Value := #[errV a 0, errV a 1, errV a 2, errV a 3, errV a 4, errV a 5, errV a 6, errV a 7, errV a 8, errV a 9, errV a 10, errV a 11, errV a 12, errV a 13, errV a 14, errV a 15, errV a 16, errV a 17, errV a 18]

theorem wl_build (a : Nat → Addr) {ops : Array Oper} {rest : List Oper} {o : Oper} {A : Act} {w : World} {Q : Exit → Act → World → Prop} (hg : o.guard = none) (parts : Array (Nat × Operand)) (ho : o.op = .build 120 parts)
    (hp : (parts.map fun (i, x) => (i, A.eval x)) = #[(0, errV a 0), (1, errV a 1), (2, errV a 2), (3, errV a 3), (4, errV a 4), (5, errV a 5), (6, errV a 6), (7, errV a 7), (8, errV a 8), (9, errV a 9), (10, errV a 10), (11, errV a 11), (12, errV a 12), (13, errV a 13), (14, errV a 14), (15, errV a 15), (16, errV a 16), (17, errV a 17), (18, errV a 18)])
    (h : wpList Tryz.prog ops Q rest (A.put o.dst (.agg (errA a))) w) : wpList Tryz.prog ops Q (o :: rest) A w := by
  have hb : Tryz.prog.built 120 (parts.map fun (i, x) => (i, A.eval x)).toList = some (errA a) := by rw [hp]; kernel_rfl
  refine wpList_build hg 120 parts ho (by rw [hb]; rfl) ?_
  rw [hb]; exact h

theorem alloc_setRow (w : World) (old cs : Array Value) (t : TypeId) : (w.alloc (.cells old t)).setRow w.heap.size cs = w.alloc (.cells cs t) := by
  have : ((w.heap.push (.cells old t)).modify w.heap.size fun | .cells _ t f => .cells cs t f | o => o) = w.heap.push (.cells cs t) := by
    apply Array.ext
    · simp
    · intro i h1 h2
      rw [Array.getElem_modify]
      by_cases hi : w.heap.size = i
      · subst hi; simp
      · rw [if_neg hi]
        have : i < w.heap.size := by simp at h2; omega
        simp [Array.getElem_push, this]
  show { w with heap := (w.heap.push (.cells old t)).modify w.heap.size _ } = { w with heap := w.heap.push _ }
  rw [← this]; rfl

theorem wl_store (a : Nat → Addr) {ops : Array Oper} {rest : List Oper} {o : Oper} {A : Act} {w : World} {Q : Exit → Act → World → Prop} {old : Array Value} (hg : o.guard = none) (x y : Operand) (ho : o.op = .store 120 x y)
    (hx : A.eval x = .pointer (some ⟨w.heap.size, 0, none⟩)) (hy : A.eval y = .agg (errA a)) (hold : old.size = 19)
    (h : wpList Tryz.prog ops Q rest (A.put o.dst undef) (w.alloc (.cells (errA a) 120))) : wpList Tryz.prog ops Q (o :: rest) A (w.alloc (.cells old 120)) := by
  refine wpList_store_row hg 120 x y ho w.heap.size (errA a) hx hy 120 old (by show (w.heap.push _)[w.heap.size]? = _; simp) (by kernel_rfl) (by rw [hold]; rfl) (by kernel_rfl) ?_
  rw [alloc_setRow]; exact h

set_option maxHeartbeats 400000 in
set_option maxRecDepth 100000 in
theorem list_any (a : Nat → Addr) (w : World) (h : ∀ i, i < 19 → w.cell? ⟨[3, 4, 5, 6, 7, 8, 9, 10, 2, 11, 12, 0, 13, 14, 15, 16, 17, 1, 18].getD i 0, 0, none⟩ = some (errV a i)) :
    Calls Tryz.prog 61 #[] w fun e w' => e = .returned (.agg (errA a)) ∧ Below w.heap.size w w' := by
  have h0 : w.cell? ⟨3, 0, none⟩ = some (errV a 0) := h 0 (by omega)
  have h1 : w.cell? ⟨4, 0, none⟩ = some (errV a 1) := h 1 (by omega)
  have h2 : w.cell? ⟨5, 0, none⟩ = some (errV a 2) := h 2 (by omega)
  have h3 : w.cell? ⟨6, 0, none⟩ = some (errV a 3) := h 3 (by omega)
  have h4 : w.cell? ⟨7, 0, none⟩ = some (errV a 4) := h 4 (by omega)
  have h5 : w.cell? ⟨8, 0, none⟩ = some (errV a 5) := h 5 (by omega)
  have h6 : w.cell? ⟨9, 0, none⟩ = some (errV a 6) := h 6 (by omega)
  have h7 : w.cell? ⟨10, 0, none⟩ = some (errV a 7) := h 7 (by omega)
  have h8 : w.cell? ⟨2, 0, none⟩ = some (errV a 8) := h 8 (by omega)
  have h9 : w.cell? ⟨11, 0, none⟩ = some (errV a 9) := h 9 (by omega)
  have h10 : w.cell? ⟨12, 0, none⟩ = some (errV a 10) := h 10 (by omega)
  have h11 : w.cell? ⟨0, 0, none⟩ = some (errV a 11) := h 11 (by omega)
  have h12 : w.cell? ⟨13, 0, none⟩ = some (errV a 12) := h 12 (by omega)
  have h13 : w.cell? ⟨14, 0, none⟩ = some (errV a 13) := h 13 (by omega)
  have h14 : w.cell? ⟨15, 0, none⟩ = some (errV a 14) := h 14 (by omega)
  have h15 : w.cell? ⟨16, 0, none⟩ = some (errV a 15) := h 15 (by omega)
  have h16 : w.cell? ⟨17, 0, none⟩ = some (errV a 16) := h 16 (by omega)
  have h17 : w.cell? ⟨1, 0, none⟩ = some (errV a 17) := h 17 (by omega)
  have h18 : w.cell? ⟨18, 0, none⟩ = some (errV a 18) := h 18 (by omega)
  have z0 : 3 < w.heap.size := lt_of_cell h0
  have z1 : 4 < w.heap.size := lt_of_cell h1
  have z2 : 5 < w.heap.size := lt_of_cell h2
  have z3 : 6 < w.heap.size := lt_of_cell h3
  have z4 : 7 < w.heap.size := lt_of_cell h4
  have z5 : 8 < w.heap.size := lt_of_cell h5
  have z6 : 9 < w.heap.size := lt_of_cell h6
  have z7 : 10 < w.heap.size := lt_of_cell h7
  have z8 : 2 < w.heap.size := lt_of_cell h8
  have z9 : 11 < w.heap.size := lt_of_cell h9
  have z10 : 12 < w.heap.size := lt_of_cell h10
  have z11 : 0 < w.heap.size := lt_of_cell h11
  have z12 : 13 < w.heap.size := lt_of_cell h12
  have z13 : 14 < w.heap.size := lt_of_cell h13
  have z14 : 15 < w.heap.size := lt_of_cell h14
  have z15 : 16 < w.heap.size := lt_of_cell h15
  have z16 : 17 < w.heap.size := lt_of_cell h16
  have z17 : 1 < w.heap.size := lt_of_cell h17
  have z18 : 18 < w.heap.size := lt_of_cell h18
  clear h
  go_enter Tryz.func61, Tryz.ntmps61
  go_wp2_with (first | (refine wl_build a rfl _ rfl (by kernel_rfl) ?_) | (refine wl_store a rfl _ _ rfl (by kernel_rfl) (by kernel_rfl) (by kernel_rfl) ?_))
  have hl := run_loadVar_new (P := Tryz.prog) w 120 (errA a) 19 40 Tryz.underlying120 (by kernel_rfl)
  refine bodyPost_ret (v := .agg (errA a)) ?_ rfl ⟨rfl, (Below.refl _ _).alloc (Nat.le_refl _) _⟩
  simp only [results, Tryz.results61]
  simp [asAddr, Act.put, hl]

theorem errA_get (a : Nat → Addr) (k : Nat) (hk : k < 19) : (errA a)[k]? = some (errV a k) := by
  have e : errA a = ((List.range 19).map (errV a)).toArray := rfl
  rw [e]
  simp [hk]

theorem index_arr {A : Array Value} {k : Nat} {v : Value} (hk : k < 19) (hA : A[k]? = some v) (w : World) : (Instr.index 120 (.agg A) (.int .i64 k)).run Tryz.prog w = .ok v w := by
  obtain ⟨i, hi, hs⟩ := Option.map_eq_some_iff.1 (show (Tryz.prog.info? 40).map (·.size) = some 1 by kernel_rfl)
  have hk2 : (0 : Int) ≤ k ∧ (k : Int) < 19 := by omega
  simp [Instr.index, run_underlying Tryz.underlying120, asIntOf, hk2, sizeOf, typeInfo, hi, hs, part, hA]
  omega

theorem num_nil (w : World) : Calls Tryz.prog 14 #[.nilIface] w fun e w' => e = .returned (.int .i64 0) ∧ w' = w := by
  go_enter Tryz.func14, Tryz.ntmps14
  go_wp2
  go_ret
  exact ⟨rfl, rfl⟩

set_option maxHeartbeats 400000 in
theorem num_err {a : Nat → Addr} {w : World} (h : Sent a w) (n : Nat) (hn : n < 19) :
    Calls Tryz.prog 14 #[errV a n] w fun e w' => e = .returned (.int .i64 (n + 1)) ∧ Below w.heap.size w w' := by
  have hcell : ∀ i, i < 19 → w.cell? ⟨[3, 4, 5, 6, 7, 8, 9, 10, 2, 11, 12, 0, 13, 14, 15, 16, 17, 1, 18].getD i 0, 0, none⟩ = some (errV a i) := fun i hi => h.cell i (in19 hi)
  have hnil := eql_nil a n
  have hsame := eql_same a n
  obtain ⟨A, hA⟩ : ∃ A, A = errA a := ⟨_, rfl⟩
  have hAs : A.size = 19 := by rw [hA]; rfl
  have hAg : ∀ k, k < 19 → A[k]? = some (errV a k) := by rw [hA]; exact errA_get a
  go_enter Tryz.func14, Tryz.ntmps14
  go_wp2_with (go_at_call 61; refine (list_any a _ hcell).mono ?_; rintro e w1 ⟨rfl, hb⟩; have h1 := h.below hb; clear hcell h hnil; rw [← hA]; clear hA)
  go_loop [8] (fun i => ∃ k : Nat, k ≤ n ∧ i = .int .i64 k) (fun i => 19 - (intOf i).toNat)
  case atStart => exact ⟨0, Nat.zero_le _, rfl⟩
  case round =>
    obtain ⟨k, hk, rfl⟩ := hrel
    have hAk := hAg k (by omega)
    have hk9 : (k : Int) < 19 := by omega
    have hix := index_arr (A := A) (by omega : k < 19) hAk
    clear hAg hAk
    by_cases hlt : k < n
    · have he := eql_other h1 n k (in19 hn) (in19 (by omega)) (by omega)
      clear h1 hsame
      go_wp2
      go_round
      case rel => exact ⟨k + 1, by omega, by go_num⟩
      case measure => simp [intOf]; omega
    · obtain rfl : k = n := by omega
      clear h1
      go_wp2
      go_ret
      exact ⟨rfl, hb⟩

theorem num_of {a : Nat → Addr} {w : World} (h : Sent a w) (e : Nat) (he : e ≤ 19) :
    Calls Tryz.prog 14 #[errOf a e] w fun r w' => r = .returned (.int .i64 e) ∧ Below w.heap.size w w' := by
  cases e with
  | zero => exact (num_nil w).mono fun r w' ⟨h1, h2⟩ => ⟨h1, by rw [h2]; exact Below.refl _ _⟩
  | succ n => rw [errOf_succ]; exact num_err h n (by omega)
end Go.Proofs.YthfpmhnnjjikcaaGreatDoor

/- vellumhand.Kept and vellumlaw03.same. -/
namespace Go.Proofs.YthfpmhnnjjikcaaGreatDoor
open Go Go.RowKit Go.Lib
set_option linter.unusedVariables false

set_option maxHeartbeats 800000 in
set_option maxRecDepth 100000 in
theorem kept_any (va vb : Value) (A : List A2) (w : World) (hA : HandA w va A) (hB : RowA w vb A) (hl : A.length ≤ 1048576) :
    Calls Tryz.prog 57 #[va, vb] w fun r w' => r = .returned (.bool true) ∧ Below w.heap.size w w' := by
  have cS := refSame_any va vb A A w hA.2.1 hB (by omega) (by omega)
  simp only [decide_true] at cS
  obtain ⟨pb, cb, rfl, hcb⟩ := hB.val
  clear hB
  obtain ⟨n, hn⟩ : ∃ n, A.length = n := ⟨_, rfl⟩
  by_cases h0 : n = 0
  · subst h0
    obtain ⟨pa, ca, rfl, _⟩ := hA.2.1.val
    rw [hn] at cS ⊢
    clear hA hl hn hcb
    go_enter Tryz.func57, Tryz.ntmps57
    go_wp2_with fail
    refine cS.mono ?_; rintro r w2 ⟨rfl, hb2⟩
    go_wp2
    go_ret
    exact ⟨rfl, hb2⟩
  · have h0I : ((n : Int) == 0) = false := by simp; omega
    obtain ⟨p, c, rfl, hc, hr⟩ := hA.2.2 (fun e => h0 (by rw [← hn, e]; rfl))
    obtain ⟨p', c', e', hc', hr'⟩ := hr
    obtain ⟨b, off, hp1, h1⟩ := hr' n s1 (by rw [List.getElem?_append_right (by omega), hn]; simp)
    obtain ⟨b2, off2, hp2, h2⟩ := hr' (n + 1) s2 (by rw [List.getElem?_append_right (by omega), hn]; simp)
    simp only [Value.slice.injEq] at e'
    obtain ⟨rfl, -, rfl⟩ := e'
    subst hp1
    cases hp2
    rw [hn] at cS hl hc hcb ⊢
    have q1 := beq_key (x := ⟨#[115, 112, 97, 114, 101]⟩) (y := ⟨#[115, 112, 97, 114, 101]⟩) true (decide_eq_true rfl)
    have q2 := beq_key (x := ⟨#[114, 111, 111, 109]⟩) (y := ⟨#[114, 111, 111, 109]⟩) true (decide_eq_true rfl)
    have d1 := h1.c0
    have d2 := h2.c0
    simp only at d1 d2
    clear hA hc' hr' h0 h1 h2
    go_enter Tryz.func57, Tryz.ntmps57
    go_wp2_with fail
    refine cS.mono ?_; rintro r w2 ⟨rfl, hb2⟩
    have e1 := (hb2.cell (lt_of_cell d1)).trans d1
    have e2 := (hb2.cell (lt_of_cell d2)).trans d2
    clear d1 d2 cS hn
    go_wp2
    go_ret
    exact ⟨rfl, hb2⟩

end Go.Proofs.YthfpmhnnjjikcaaGreatDoor

/- vellumhand.KeptOps: what Ops made is still what it made. -/
namespace Go.Proofs.YthfpmhnnjjikcaaGreatDoor
open Go Go.RowKit Go.Lib
set_option linter.unusedVariables false
end Go.Proofs.YthfpmhnnjjikcaaGreatDoor

/- vellumspare.Spoil: writes over operations and their lists, and nothing else. -/
namespace Go.Proofs.YthfpmhnnjjikcaaGreatDoor
open Go Go.RowKit Go.Lib
set_option linter.unusedVariables false

theorem cell_at {w : World} {g : Nat} {cur : Array Value} {e : TypeId} (h : w.heap[g]? = some (.cells cur e (0, 0))) (j : Nat) (hj : j < cur.size) : ∃ u, w.cell? ⟨g, j, none⟩ = some u :=
  ⟨cur[j], by simp [World.cell?, h, hj]⟩
theorem out_set4 {lo hi : Nat} {w W : World} (h : Out lo hi w W) {g : Nat} (h1 : lo ≤ g) (h2 : g < hi) (a b c d : Nat) (u0 u1 u2 u3 : Value) :
    Out lo hi w ((((W.setCell ⟨g, a, none⟩ u0).setCell ⟨g, b, none⟩ u1).setCell ⟨g, c, none⟩ u2).setCell ⟨g, d, none⟩ u3) :=
  (((h.setCell g a u0 h1 h2).setCell g b u1 h1 h2).setCell g c u2 h1 h2).setCell g d u3 h1 h2
theorem set4_other (W : World) {g k : Nat} (hk : k ≠ g) (a b c d i : Nat) (u0 u1 u2 u3 : Value) :
    ((((W.setCell ⟨g, a, none⟩ u0).setCell ⟨g, b, none⟩ u1).setCell ⟨g, c, none⟩ u2).setCell ⟨g, d, none⟩ u3).cell? ⟨k, i, none⟩ = W.cell? ⟨k, i, none⟩ := by
  refine World.cell?_of_block (a := ⟨k, i, none⟩) ?_
  have h : ∀ (W : World) (j : Nat) (v : Value), (W.setCell ⟨g, j, none⟩ v).heap[k]? = W.heap[k]? := fun W j v => Below.heap_setCell _ _ _ _ hk
  rw [h, h, h, h]

theorem out_set7 {lo hi : Nat} {w W : World} (h : Out lo hi w W) {g : Nat} (h1 : lo ≤ g) (h2 : g < hi) (o : Nat) (u0 u1 u2 u3 u4 u5 u6 : Value) :
    Out lo hi w (((((((W.setCell ⟨g, o, none⟩ u0).setCell ⟨g, o + 1, none⟩ u1).setCell ⟨g, o + 2, none⟩ u2).setCell ⟨g, o + 3, none⟩ u3).setCell ⟨g, o + 4, none⟩ u4).setCell ⟨g, o + 5, none⟩ u5).setCell ⟨g, o + 6, none⟩ u6) :=
  ((((((h.setCell g _ u0 h1 h2).setCell g _ u1 h1 h2).setCell g _ u2 h1 h2).setCell g _ u3 h1 h2).setCell g _ u4 h1 h2).setCell g _ u5 h1 h2).setCell g _ u6 h1 h2
theorem set7_far (W : World) {g o i : Nat} (hi : o + 7 ≤ i) (u0 u1 u2 u3 u4 u5 u6 : Value) :
    (((((((W.setCell ⟨g, o, none⟩ u0).setCell ⟨g, o + 1, none⟩ u1).setCell ⟨g, o + 2, none⟩ u2).setCell ⟨g, o + 3, none⟩ u3).setCell ⟨g, o + 4, none⟩ u4).setCell ⟨g, o + 5, none⟩ u5).setCell ⟨g, o + 6, none⟩ u6).cell? ⟨g, i, none⟩ = W.cell? ⟨g, i, none⟩ := by
  have h : ∀ (W : World) (j : Nat) (v : Value), j < i → (W.setCell ⟨g, j, none⟩ v).cell? ⟨g, i, none⟩ = W.cell? ⟨g, i, none⟩ := fun W j v hj => World.cell?_setCell_other _ _ _ _ (fun e => by cases e; omega)
  rw [h _ _ _ (by omega), h _ _ _ (by omega), h _ _ _ (by omega), h _ _ _ (by omega), h _ _ _ (by omega), h _ _ _ (by omega), h _ _ _ (by omega)]
theorem OpAt.far (W : World) {g o j : Nat} {d : OV} (h : OpAt W g j d) (hi : o + 7 ≤ j) (u0 u1 u2 u3 u4 u5 u6 : Value) :
    OpAt (((((((W.setCell ⟨g, o, none⟩ u0).setCell ⟨g, o + 1, none⟩ u1).setCell ⟨g, o + 2, none⟩ u2).setCell ⟨g, o + 3, none⟩ u3).setCell ⟨g, o + 4, none⟩ u4).setCell ⟨g, o + 5, none⟩ u5).setCell ⟨g, o + 6, none⟩ u6) g j d :=
  ⟨(set7_far W (by omega) ..).trans h.c0, (set7_far W (by omega) ..).trans h.c1, (set7_far W (by omega) ..).trans h.c2, (set7_far W (by omega) ..).trans h.c3, (set7_far W (by omega) ..).trans h.c4, (set7_far W (by omega) ..).trans h.c5, (set7_far W (by omega) ..).trans h.c6⟩

end Go.Proofs.YthfpmhnnjjikcaaGreatDoor

/- vellumhand.OverOps: operations written over, their lists too, and grown. -/
namespace Go.Proofs.YthfpmhnnjjikcaaGreatDoor
open Go Go.RowKit Go.Lib
set_option linter.unusedVariables false

theorem Out.widen {lo hi a b : Nat} {w w' : World} (h : Out a b w w') (h1 : lo ≤ a) (h2 : b ≤ hi) : Out lo hi w w' :=
  ⟨h.os, h.tape, h.output, h.size, fun k hk ho => h.block k hk (by omega), fun k cur e fz hc hk => by
    by_cases hb : k < b
    · exact h.shape k cur e fz hc hb
    · exact ⟨cur, (h.block k (Array.getElem?_eq_some_iff.1 hc).1 (Or.inr (by omega))).trans hc, rfl⟩⟩
/-- A row of operations that may be written, in blocks between two marks or in new ones: its shape alone. -/
def LiO (w : World) (L H B : Nat) (v : Value) (n : Nat) : Prop :=
  (v = .slice none 0 0 ∧ n = 0) ∨ ∃ (g cap : Nat) (cur : Array Value), v = .slice (some ⟨g, 0, none⟩) n cap ∧ ((L ≤ g ∧ g < H) ∨ B ≤ g) ∧ w.heap[g]? = some (.cells cur 33 (0, 0)) ∧ n ≤ cap ∧ cur.size = cap * 7
theorem LiO.val {w : World} {L H B n : Nat} {v : Value} (h : LiO w L H B v n) : ∃ p c, v = .slice p n c := by
  rcases h with ⟨h, h0⟩ | ⟨g, cap, cur, h, _⟩
  · exact ⟨none, 0, by rw [h, h0]⟩
  · exact ⟨_, _, h⟩
theorem LiO.below {w w' : World} {L H B n : Nat} {v : Value} (h : LiO w L H B v n) (b : Below w.heap.size w w') : LiO w' L H B v n := by
  rcases h with h | ⟨g, cap, cur, h1, h2, h3, h4⟩
  · exact Or.inl h
  · exact Or.inr ⟨g, cap, cur, h1, h2, (b.block g (Array.getElem?_eq_some_iff.1 h3).1).trans h3, h4⟩
theorem OpAt.same_block {w w' : World} {g j : Nat} {d : OV} (h : OpAt w g j d) (hb : w'.heap[g]? = w.heap[g]?) : OpAt w' g j d := by
  have e : ∀ i, w'.cell? ⟨g, i, none⟩ = w.cell? ⟨g, i, none⟩ := fun i => World.cell?_of_block (a := ⟨g, i, none⟩) hb
  exact ⟨(e _).trans h.c0, (e _).trans h.c1, (e _).trans h.c2, (e _).trans h.c3, (e _).trans h.c4, (e _).trans h.c5, (e _).trans h.c6⟩
/-- append(such a row, one operation). -/
theorem wpList_append_reo {w u : World} {ops : Array Oper} {rest : List Oper} {o : Oper} {a : Act} {Q : Exit → Act → World → Prop} (hgd : o.guard = none) (s x : Operand)
    (ho : o.op = .call { callee := .builtin .append, args := #[s, x], argTypes := #[26, 26] })
    (L H : Nat) (v : Value) (n : Nat) (hs : a.eval s = v) (hv : LiO w L H u.heap.size v n) (hu : Out L H u w)
    (b c : Nat) (q : OV) (hx : a.eval x = .slice (some ⟨b, 0, none⟩) 1 c) (hM : OpAt w b 0 q) (h63 : n ≤ 2097152)
    (h : ∀ v' w', LiO w' L H u.heap.size v' (n + 1) → Out L H u w' → wpList Tryz.prog ops Q rest (a.put o.dst v') w') : wpList Tryz.prog ops Q (o :: rest) a w := by
  obtain ⟨i, z, hi, hz, hz1, hz2, hz3⟩ := infoOp
  have hnew : ∀ (j : Nat) (u : Value), (cellsO [q])[j]? = some u → w.cell? ((⟨b, 0, none⟩ : Addr).add j) = some u := fun j u hu => by
    rw [Addr.add_lit, Nat.zero_add]
    obtain ⟨h0, h1, h2, h3, h4, h5, h6⟩ := hM
    simp only [Nat.zero_add] at h0 h1 h2 h3 h4 h5 h6
    match j, hu with
    | 0, hj => simp [cellsO] at hj; rw [← hj]; exact h0
    | 1, hj => simp [cellsO] at hj; rw [← hj]; exact h1
    | 2, hj => simp [cellsO] at hj; rw [← hj]; exact h2
    | 3, hj => simp [cellsO] at hj; rw [← hj]; exact h3
    | 4, hj => simp [cellsO] at hj; rw [← hj]; exact h4
    | 5, hj => simp [cellsO] at hj; rw [← hj]; exact h5
    | 6, hj => simp [cellsO] at hj; rw [← hj]; exact h6
    | j + 7, hj => simp [cellsO] at hj
  have fin : ∀ (v' : Value) (w' : World) (xs : List Value), w'.ownsRow w.heap.size 33 7 v' (n + 1) xs → Out L H u w' → wpList Tryz.prog ops Q rest (a.put o.dst v') w' := fun v' w' xs hw ho' => by
    refine h _ _ ?_ ho'
    rcases hw.2 with ⟨_, h0⟩ | ⟨g, cap, cur, h1, h2, h3, h4, h5, h6, _⟩
    · omega
    · exact Or.inr ⟨g, cap, cur, h1, Or.inr (Nat.le_trans hu.size h2), h3, h4, h6⟩
  rcases hv with ⟨rfl, rfl⟩ | ⟨g, cap, cur, rfl, h2, h4, h5, h6⟩
  · exact wpList_append_grows w hgd s x _ ho 33 i z 7 88 Tryz.underlying26 hi hz hz1 hz2 hz3 (by decide) none 0 0 [] hs (fun _ => ⟨rfl, rfl⟩) rfl (fun b hb => (by cases hb)) ⟨b, 0, none⟩ 1 c (cellsO [q]) hx rfl hnew (cellsO_one _) (by decide) (by unfold maxLen; omega) (by omega) (fun v' w' r1 r2 => fin v' w' _ r1 (out_grownv hu r2))
  · refine wpList_append_arg w hgd s x _ ho 33 i z 7 88 Tryz.underlying26 hi hz hz1 hz2 hz3 (by decide) g 0 n cap (cur.toList.take (n * 7)) hs (by rw [List.length_take, Array.length_toList, h6]; omega) (fun j u hu => ?_) ⟨b, 0, none⟩ 1 c (cellsO [q]) hx rfl hnew (cellsO_one _) (fun hr j hj => ?_) (by unfold maxLen; omega) (by omega) (fun hr => ?_) (fun hr v' w' r1 r2 => fin v' w' _ r1 (out_grownv hu r2))
    · have hj := (List.getElem?_eq_some_iff.1 hu).1
      rw [List.getElem?_take] at hu
      split at hu
      · rw [Nat.zero_add]
        simp only [World.cell?, h4]
        simpa using hu
      · cases hu
    · have hj' : j < 7 := by simpa [cellsO] using hj
      rw [Nat.zero_add]
      exact ⟨by obtain ⟨u, hu⟩ := cell_atv h4 (n * 7 + j) (by omega); rw [hu]; rfl, frozen_of_row w g _ cur _ h4⟩
    · obtain ⟨cur', hc', hs'⟩ := (out_setCellsv (Nat.le_refl g) (Nat.lt_succ_self g) (cellsO [q]) (0 + n * 7) w (Out.refl g (g + 1) w)).shape g cur _ _ h4 (Nat.lt_succ_self g)
      refine h _ _ (Or.inr ⟨g, cap, cur', rfl, h2, hc', hr, by rw [hs', h6]⟩) ?_
      rcases h2 with ⟨h2, h3⟩ | h2
      · exact out_setCellsv h2 h3 _ _ _ hu
      · exact out_setCellsFar h2 _ _ _ hu

abbrev d98 : OV := (98, ⟨#[]⟩, z0, 0, (none, 0, 0))
end Go.Proofs.YthfpmhnnjjikcaaGreatDoor

/- What writing over a list leaves of deltas; build.Same. -/
namespace Go.Proofs.YthfpmhnnjjikcaaGreatDoor
open Go Go.RowKit Go.Lib
set_option linter.unusedVariables false

theorem DelV.out {w w' : World} {lo hi B1 B2 : Nat} {v : Value} {E : List Op5} (h : DelV w B1 B2 v E) (o : Out lo hi w w') (h1 : hi ≤ B1) (h2 : hi ≤ B2) : DelV w' B1 B2 v E := by
  obtain ⟨q, pv, PL, a1, a2, a3, a4, a5⟩ := h
  refine ⟨q, pv, PL, a1, a2, (o.block q (Array.getElem?_eq_some_iff.1 a3).1 (Or.inr (by omega))).trans a3, o.own h1 a4, ?_⟩
  exact All2.imp (fun x e h => by obtain ⟨s, k1, k2⟩ := h; exact ⟨s, k1, o.own h2 k2⟩) a5
theorem FarO.out {w w' : World} {lo hi B : Nat} {v : Value} {D : List OV} (h : FarO w B v D) (o : Out lo hi w w') (h1 : hi ≤ B) : FarO w' B v D := by
  obtain ⟨p, cap, a1, a2, a3, a4⟩ := h
  exact ⟨p, cap, a1, a2, a3, fun j d hd => by
    obtain ⟨b, off, k1, k0, k2⟩ := a4 j d hd
    exact ⟨b, off, k1, k0, k2.same_block (o.block b (lt_of_cell k2.c0) (Or.inr (by omega)))⟩⟩

end Go.Proofs.YthfpmhnnjjikcaaGreatDoor

/- Of all lists of cells vellumlaw09.CellsBack answers true. -/
namespace Go.Proofs.YthfpmhnnjjikcaaGreatDoor
open Go Go.RowKit Go.Lib Go.Shelf
set_option linter.unusedVariables false

theorem Hid.mkh {P : Prop} (h : P) : Hid P := h
theorem goodC9 {A : List C5} (h : ∀ e ∈ A, celE e = 0) : ∀ c ∈ A, GoodC c := fun c hc => good_iff.1 (h c hc)
theorem doc_facts9 {A : List C5} (hg : ∀ e ∈ A, celE e = 0) (hF : ∀ e ∈ A, FitC e) (ht : txtS (A.map opOf) ≤ 1048576) (hl : A.length ≤ 1048576) :
    (∀ o ∈ docOf A, opE o = 0) ∧ (∀ o ∈ docOf A, FitA o) ∧ (docOf A).length ≤ 1048576 ∧ txtS (docOf A) ≤ 1048576 ∧ sumB (docOf A) = 0 ∧ sumR (docOf A) = A.length ∧ cellsL (docOf A) = A ∧ OkR (docOf A) := by
  have hc := goodC9 hg
  have ok := okE_cells hg hF (by omega) hl
  obtain ⟨k1, k2, k3⟩ := canon_ok ok
  rw [List.length_map] at k3
  have hu := doc_units hc
  have hw : ∀ o ∈ A.map opOf, Wel o := fun o ho => by
    obtain ⟨c, hc', rfl⟩ := List.mem_map.1 ho
    exact (opOf_good (hc c hc')).1
  have hs := sums_cells A hg
  have hb : sumB (docOf A) = 0 := by
    have h1 := (canon_sums hw).1
    have h2 := sums_nn hu.1
    rw [hs.1] at h1
    have : sumB (docOf A) ≤ 0 := h1
    omega
  have hr : sumR (docOf A) = A.length := by rw [sumR_units hu.1, hu.2.2.2, ← units_ops hc, ← sumR_units hw]; exact hs.2
  have e1 : (docOf A).length ≤ A.length := k3
  have e2 : txtS (docOf A) ≤ txtS (A.map opOf) := k2
  exact ⟨k1.good, k1.fit, by omega, by omega, hb, hr, (cells_doc hc).2, OkE.okR k1 (by show (docOf A).length ≤ _; omega)⟩
theorem doc_dle9 {A : List C5} (hg : ∀ e ∈ A, celE e = 0) (hF : ∀ e ∈ A, FitC e) (ht : txtS (A.map opOf) ≤ 1048576) (hl : A.length ≤ 1048576) {W : World} {B1 B2 : Nat} {dv : Value} (h : DelV W B1 B2 dv (docOf A)) : DlE W B1 B2 dv (docOf A) := by
  obtain ⟨h1, h2, h3, h4, h5, h6, _, _⟩ := doc_facts9 hg hF ht hl
  exact ⟨h, h1, h2, by omega, by omega, ⟨by rw [h5]; decide, by rw [h6]; omega⟩⟩
theorem doc_join9 {A B : List C5} (hA : ∀ e ∈ A, celE e = 0) (hB : ∀ e ∈ B, celE e = 0) : canonL (docOf A ++ docOf B) = docOf (A ++ B) := by
  have hAB : ∀ c ∈ A ++ B, GoodC c := fun c hc => (List.mem_append.1 hc).elim (goodC9 hA c) (goodC9 hB c)
  have u1 := doc_units (goodC9 hA)
  have u2 := doc_units (goodC9 hB)
  have u3 := doc_units hAB
  refine canon_unique (fun o ho => (List.mem_append.1 ho).elim (u1.1 o) (u2.1 o)) u3.1 u3.2.1 ?_
  rw [u3.2.2.2, units_append, u1.2.2.2, u2.2.2.2, ← List.map_append, nrm_ins0, strip_ins]
theorem doc_inj9 {A B : List C5} (hA : ∀ e ∈ A, celE e = 0) (hB : ∀ e ∈ B, celE e = 0) : docOf A = docOf B ↔ A = B :=
  ⟨fun h => by rw [← (cells_doc (goodC9 hA)).2, ← (cells_doc (goodC9 hB)).2, h], fun h => by rw [h]⟩
end Go.Proofs.YthfpmhnnjjikcaaGreatDoor

/- vellumlaw09.told: what cells.Each tells. -/
namespace Go.Proofs.YthfpmhnnjjikcaaGreatDoor
open Go Go.RowKit Go.Lib Go.Shelf
set_option linter.unusedVariables false
attribute [local go_sem] Oper.semAt_some

/-- What told has laid for itself. -/
structure To9 (B3 B4 B5 : Nat) (N : Int) (A : World) : Prop where
  m : A.heap[B3]? = some (.cells #[.int .i64 N] 3 (0, 0))
  r : ∃ u, A.heap[B4]? = some (.cells #[u] 74 (0, 0))
  o : ∃ u, A.heap[B5]? = some (.cells #[u] 4 (0, 0))
theorem To9.tr {B3 B4 B5 B : Nat} {N : Int} {A A' : World} (h : To9 B3 B4 B5 N A) (k : Tr7 (fun t => t = 3) B A A') (h3 : B3 < B) (h4 : B4 < B) (h5 : B5 < B) : To9 B3 B4 B5 N A' := by
  obtain ⟨h1, ⟨u, h2⟩, ⟨z, h6⟩⟩ := h
  exact ⟨k.kept _ _ h1 (.inl h3), ⟨u, k.kept _ _ h2 (.inl h4)⟩, ⟨z, k.kept _ _ h6 (.inl h5)⟩⟩
theorem To9.below {B3 B4 B5 : Nat} {N : Int} {A A' : World} (h : To9 B3 B4 B5 N A) (b : Below A.heap.size A A') : To9 B3 B4 B5 N A' := by
  obtain ⟨h1, ⟨u, h2⟩, ⟨z, h6⟩⟩ := h
  exact ⟨heap_below b h1, ⟨u, heap_below b h2⟩, ⟨z, heap_below b h6⟩⟩
theorem To9.round {E : List Op5} {w A A' : World} {O B3 B4 B5 : Nat} {N : Int} {pre : List EZ} {lv v' : Value} {L : List CV} {d : CV} (t : To9 B3 B4 B5 N A) (h : Li9 E w O pre lv L A) (g : (A.alloc (.cells (ceC d) 84)).grownBy A' lv.ownBlock) (hO : B4 ≠ O) : To9 B3 B4 B5 N (A'.setCell ⟨O, 0, none⟩ v') := by
  obtain ⟨h1, ⟨u, h2⟩, ⟨z, h6⟩⟩ := t
  have ne : ∀ (k : Nat) (o : Obj), A.heap[k]? = some o → (∀ cs, o ≠ .cells cs 74 (0, 0)) → k ≠ O := fun k o hk hn e => by subst e; rw [h.box] at hk; exact hn _ (Option.some.inj hk).symm
  exact ⟨(Below.heap_setCell _ _ _ _ (ne _ _ h1 fun cs e => by cases e)).trans (list_keep h g _ _ h1 fun cs e => by cases e), ⟨u, (Below.heap_setCell _ _ _ _ hO).trans (list_keep h g _ _ h2 fun cs e => by cases e)⟩, ⟨z, (Below.heap_setCell _ _ _ _ (ne _ _ h6 fun cs e => by cases e)).trans (list_keep h g _ _ h6 fun cs e => by cases e)⟩⟩
theorem Li9.set9 {E : List Op5} {w : World} {O : Nat} {pre : List EZ} {lv : Value} {D : List CV} {A : World} (h : Li9 E w O pre lv D A) {g : Nat} {cs : Array Value} {t : TypeId} (hg : A.heap[g]? = some (.cells cs t (0, 0))) (ht : t ≠ 84 ∧ t ≠ 163) (hO : g ≠ O) (hw : w.heap.size ≤ g) (u : Value) : Li9 E w O pre lv D (A.setCell ⟨g, 0, none⟩ u) := by
  have ne : ∀ (k : Nat) (cs' : Array Value) (t' : TypeId), A.heap[k]? = some (.cells cs' t' (0, 0)) → t' ≠ t → k ≠ g := fun k cs' t' hk hn e => by
    subst e; rw [hg] at hk
    simp only [Option.some.injEq, Obj.cells.injEq] at hk
    exact hn hk.2.1.symm
  refine ⟨(Below.heap_setCell _ _ _ _ (Ne.symm hO)).trans h.box, h.len, owns_same h.own fun j hj => ?_, h.are.keep fun j cur hj => ?_, h.below.setCell (p := ⟨g, 0, none⟩) hw u, h.asc, h.mks⟩
  · obtain ⟨_, cur, hc⟩ := owns_block h.own j hj
    exact Below.heap_setCell _ _ _ _ (ne _ _ _ hc (Ne.symm ht.1))
  · exact Below.heap_setCell _ _ _ _ (ne _ _ _ hj (Ne.symm ht.2))
theorem told_leave (A : World) (D B4 B5 : Nat) (tmps : Array Value) (lv : Value) {R : Value → World → Prop} (h4 : tmps[4]? = some (.pointer (some ⟨B4, 0, none⟩))) (h5 : tmps[5]? = some (.pointer (some ⟨B5, 0, none⟩))) (hK : A.heap[D]? = some (.deferred (some []))) (c4 : A.cell? ⟨B4, 0, none⟩ = some lv) (c5 : A.cell? ⟨B5, 0, none⟩ = some (.bool true)) (n4 : B4 ≠ D) (n5 : B5 ≠ D) (h : R lv (A.putObj D (.deferred none))) :
    bodyPostM Fence.wide 15 Tryz.prog Tryz.f38 (fun r w' => ∃ lv, r = .returned (.tuple #[lv, .bool true]) ∧ R lv w') Exit.ret { tmps := tmps, defers := [{ target := .collected D, args := #[] }] } A := by
  have g4 : (A.putObj D (.deferred none)).cell? ⟨B4, 0, none⟩ = some lv := (World.cell?_of_block (a := ⟨B4, 0, none⟩) (World.putObj_heap_other n4)).trans c4
  have g5 : (A.putObj D (.deferred none)).cell? ⟨B5, 0, none⟩ = some (.bool true) := (World.cell?_of_block (a := ⟨B5, 0, none⟩) (World.putObj_heap_other n5)).trans c5
  refine ⟨by simp, .inl ⟨_, _, rfl, run_takeDeferred hK, ?_⟩⟩
  refine ⟨.tuple #[lv, .bool true], ?_, ⟨lv, rfl, h⟩⟩
  simp [results, Tryz.results38, go_sem, h4, h5, g4, g5]
set_option maxHeartbeats 8000000 in
set_option maxRecDepth 100000 in
theorem told9_any {B1 B2 : Nat} (v : Value) (E : List Op5) (N : Nat) (w : World) (h : DlE w B1 B2 v E) (hl : (docC9 E).length ≤ 2097152) (hN : (docC9 E).length ≤ N) (hN2 : N ≤ 4194304) (hbg : (cellsL E).length ≤ 1099511627776) :
    Calls Tryz.prog 38 #[v, .int .i64 N] w fun r w' => ∃ lv, r = .returned (.tuple #[lv, .bool true]) ∧ (∃ D, OwnC w' w.heap.size lv D ∧ AreO w' w.heap.size D (docC9 E) ∧ Asc9 D) ∧ Below w.heap.size w w' := by
  have cE : Hid (∀ W, Below w.heap.size w W → Calls Tryz.prog 84 #[v] W fun r w' => ∃ x, r = .returned (.func (.func 115) #[] #[.pointer (some ⟨x, 0, none⟩)]) ∧ (∃ u, w'.cell? ⟨x, 0, none⟩ = some u ∧ DlE w' B1 B2 u E) ∧ Below W.heap.size W w') := fun W hW => by
    refine (eachC_call v E W (h.d.below hW)).mono ?_
    rintro r w' ⟨x, e, ⟨u, h1, h2⟩, _, h3⟩
    exact ⟨x, e, ⟨u, h1, ⟨h2, h.g, h.fit, h.len, h.txt, h.fits⟩⟩, h3⟩
  obtain ⟨q, rfl⟩ : ∃ q, v = .pointer (some ⟨q, 0, none⟩) := by obtain ⟨q, _, _, e, _⟩ := h.d; exact ⟨q, e⟩
  have HB : Hid ((docC9 E).length ≤ 2097152 ∧ (docC9 E).length ≤ N ∧ N ≤ 4194304 ∧ (cellsL E).length ≤ 1099511627776) := ⟨hl, hN, hN2, hbg⟩
  clear h hl hN hbg
  obtain ⟨O4, hO4⟩ : ∃ x, x = w.heap.size + 1 := ⟨_, rfl⟩
  obtain ⟨O5, hO5⟩ : ∃ x, x = w.heap.size + 1 + 1 := ⟨_, rfl⟩
  obtain ⟨C3, hC3⟩ : ∃ x, x = w.heap.size + 1 + 1 + 1 := ⟨_, rfl⟩
  obtain ⟨O6, hO6⟩ : ∃ x, x = w.heap.size + 1 + 1 + 1 + 1 := ⟨_, rfl⟩
  obtain ⟨W3, hW3⟩ : ∃ W, W = ((((w.alloc (.cells #[.int .i64 N] 3)).alloc (.cells #[.slice none 0 0] 74)).alloc (.cells #[.bool false] 4)).alloc (.cells #[] 84)).alloc (.cells #[.slice (some ⟨C3, 0, none⟩) 0 0] 74) := ⟨_, rfl⟩
  have b3 : Below w.heap.size w W3 := by
    rw [hW3]
    exact (((((Below.refl _ _).alloc (Nat.le_refl _) _).alloc (by simp) _).alloc (by simp <;> omega) _).alloc (by simp <;> omega) _).alloc (by simp <;> omega) _
  have hs3 : W3.heap.size = w.heap.size + 5 := by rw [hW3]; simp
  have hT3 : To9 w.heap.size O4 O5 N W3 := by
    rw [hW3, hO4, hO5]
    refine ⟨?_, ⟨.slice none 0 0, ?_⟩, ⟨.bool false, ?_⟩⟩
    · rw [Below.heap_alloc _ _ _ (by simp <;> omega), Below.heap_alloc _ _ _ (by simp <;> omega), Below.heap_alloc _ _ _ (by simp <;> omega), Below.heap_alloc _ _ _ (by simp)]; exact heap_alloc_new w _
    · rw [Below.heap_alloc _ _ _ (by simp <;> omega), Below.heap_alloc _ _ _ (by simp <;> omega), Below.heap_alloc _ _ _ (by simp)]
      have := heap_alloc_new (w.alloc (.cells #[.int .i64 N] 3)) (.cells #[.slice none 0 0] 74)
      rwa [World.size_alloc] at this
    · rw [Below.heap_alloc _ _ _ (by simp <;> omega), Below.heap_alloc _ _ _ (by simp)]
      have := heap_alloc_new ((w.alloc (.cells #[.int .i64 N] 3)).alloc (.cells #[.slice none 0 0] 74)) (.cells #[.bool false] 4)
      rwa [World.size_alloc, World.size_alloc] at this
  have hO3 : W3.heap[O6]? = some (.cells #[.slice (some ⟨C3, 0, none⟩) 0 0] 74 (0, 0)) := by
    rw [hW3, hO6]
    have := heap_alloc_new ((((w.alloc (.cells #[.int .i64 N] 3)).alloc (.cells #[.slice none 0 0] 74)).alloc (.cells #[.bool false] 4)).alloc (.cells #[] 84)) (.cells #[.slice (some ⟨C3, 0, none⟩) 0 0] 74)
    rwa [World.size_alloc, World.size_alloc, World.size_alloc, World.size_alloc] at this
  have hE3 : OwnC W3 w.heap.size (.slice (some ⟨C3, 0, none⟩) 0 0) [] := by
    rw [hW3]
    have := own_emptyC (((w.alloc (.cells #[.int .i64 N] 3)).alloc (.cells #[.slice none 0 0] 74)).alloc (.cells #[.bool false] 4)) w.heap.size (by simp <;> omega)
    rw [World.size_alloc, World.size_alloc, World.size_alloc, ← hC3] at this
    exact owns_below this ((Below.refl _ _).alloc (Nat.le_refl _) _)
  have c3 := cE.out W3 b3
  have HL3 : Hid (Below w.heap.size w W3 ∧ W3.heap.size = w.heap.size + 5 ∧ To9 w.heap.size O4 O5 N W3 ∧ W3.heap[O6]? = some (.cells #[.slice (some ⟨C3, 0, none⟩) 0 0] 74 (0, 0)) ∧ OwnC W3 w.heap.size (.slice (some ⟨C3, 0, none⟩) 0 0) []) := ⟨b3, hs3, hT3, hO3, hE3⟩
  clear b3 hs3 hT3 hO3 hE3 cE
  refine (callsIn_wide (n := 15)).1 ?_
  refine callsIn_of_wp_marks Tryz.func38 rfl trivial ?_ rfl
  simp only [Tryz.ntmps38, List.size_toArray, List.length_cons, List.length_nil, Nat.reduceAdd, Nat.reduceSub, Array.replicate_succ, Array.replicate_zero, List.push_toArray, List.append_toArray, List.nil_append, List.cons_append]
  rw [wpIn_wide]
  go_upto_region 2 with fail
  rw [← hO6, ← hC3, ← hO5, ← hO4, ← hW3]
  have HZ : Hid (O4 = w.heap.size + 1 ∧ O5 = w.heap.size + 2 ∧ O6 = w.heap.size + 4 ∧ C3 = w.heap.size + 3) := ⟨by omega, by omega, by omega, by omega⟩
  have hnf : ∀ (X9 : Nat) (W : World), (binOp .eql 149 (.func (.func 115) #[] #[.pointer (some ⟨X9, 0, none⟩)]) .nilFunc).run Tryz.prog W = .ok (.bool false) W := fun X9 W => by kernel_rfl
  clear hW3 hO4 hO5 hO6 hC3
  go_wp2_with fail
  refine c3.mono ?_; rintro r w4 ⟨x, rfl, hx, hb4⟩
  have H4 : Hid (Li9 E w O6 [] (.slice (some ⟨C3, 0, none⟩) 0 0) [] w4 ∧ To9 w.heap.size O4 O5 N w4 ∧ (∃ u, w4.cell? ⟨x, 0, none⟩ = some u ∧ DlE w4 B1 B2 u E) ∧ w.heap.size + 5 ≤ w4.heap.size) := by
    obtain ⟨h1, h2, h3, h4, h5⟩ := HL3.out
    exact ⟨⟨heap_below hb4 h4, rfl, owns_below h5 hb4, by rw [List.length_nil, List.take_zero]; exact .nil, h1.trans (hb4.mono h1.size), List.Pairwise.nil, fun d hd => by cases hd⟩, h3.below hb4, hx, by have := hb4.size; omega⟩
  have hn9 := hnf x
  clear c3 hx hb4 HL3 hnf
  go_wp2_with fail
  refine (wpIn_wide (n := 15)).1 ?_
  refine wpIn_rangeFunc_GA (encs := encE9) rfl (by decide) (gf := 115) (lb := #[.pointer (some ⟨x, 0, none⟩)]) rfl trivial (enters_of Tryz.func115 (by kernel_rfl) rfl)
    (eachC_seq E w4 x H4.out.2.2.1 (docC9 E).length ?hbig (by unfold docC9; split <;> rfl) 14 (by decide)) (Below.refl _ _) (fun _ => rfl) (fun pre x A A' h k => h.bk k) (fun pre x A A' B B' k1 h k2 => KE9.bk k1 h k2)
    (fun (pre : List EZ) A => (∃ lv D, Li9 E w O6 pre lv D A) ∧ To9 w.heap.size O4 O5 N A) (fun _ _ _ => False)
    (fun s A A' ⟨⟨lv, D, h⟩, h2⟩ k => ⟨⟨lv, D, h.tr k (by have := H4.out; have := HZ.out; omega) (by have := H4.out; have := HZ.out; omega)⟩, h2.tr k (by have := H4.out; have := HZ.out; omega) (by have := H4.out; have := HZ.out; omega) (by have := H4.out; have := HZ.out; omega)⟩) (fun _ _ _ _ h _ => h) ⟨⟨_, _, H4.out.1⟩, H4.out.2.1⟩
    (fun (_ : List EZ) (z : EZ) (a' : Act) (A : World) => ∃ b, a' = { tmps := #[.pointer (some ⟨q, 0, none⟩), .int .i64 N, undef, .pointer (some ⟨w.heap.size, 0, none⟩), .pointer (some ⟨O4, 0, none⟩), .pointer (some ⟨O5, 0, none⟩), .pointer (some ⟨O6, 0, none⟩), .func (.func 115) #[] #[.pointer (some ⟨x, 0, none⟩)], .int .i64 (z.1 : Nat), .pointer (some ⟨b, 0, none⟩), .slice (some ⟨C3, 0, none⟩) 0 0, .pointer (some ⟨q, 0, none⟩), .func (.func 115) #[] #[.pointer (some ⟨x, 0, none⟩)], .func (.func 115) #[] #[.pointer (some ⟨x, 0, none⟩)], .bool false, undef, .func (.func 115) #[] #[.pointer (some ⟨x, 0, none⟩)], .int .i64 (z.1 : Nat), ceV z.2.1, undef, undef, undef, undef, undef, undef, undef, undef, undef, undef, undef, undef, undef, undef, undef, undef], defers := [] } ∧ A.heap[b]? = some (.cells (ceC z.2.1) 84 (0, 0))) (fun _ _ _ _ _ ⟨b, h1, h2⟩ k => ⟨b, h1, k.cells h2⟩) ?assign ?body ?done ?stop
  case hbig => exact HB.out.2.2.2
  case assign =>
    intro l2 pre z W4 K _ _ hK
    obtain ⟨zi, ⟨zk, zt, ⟨z1, z2, z3⟩, zp, zl, zc⟩, zlo, zhi⟩ := z
    simp only [encE9, ceV, slV]
    gi_wp2
    exact hK _ _ ((Below.refl _ _).alloc (Nat.le_refl _) _) ⟨W4.heap.size, rfl, heap_alloc_new W4 _⟩
  case body =>
    rintro l2 pre z a' A hl2 hrec ⟨⟨lv, L, hli⟩, hto⟩ hG ⟨b, rfl, hb⟩
    obtain ⟨hi0, e, he, g1, g2, g3, g4, g5, g6, g7⟩ := hG
    have hec : (cellsL E)[pre.length]? = some e := by
      unfold docC9 at he
      split at he
      · exact he
      · cases he
    have hlt := (List.getElem?_eq_some_iff.1 he).1
    have hll := hli.len
    obtain ⟨zi, ⟨zk, zt, ⟨z1, z2, z3⟩, zp, zl, zc⟩, zlo, zhi⟩ := z
    simp only at hi0
    obtain ⟨pv, cv, rfl⟩ : ∃ p c, lv = .slice p L.length c := by obtain ⟨p, c, h, _⟩ := own_rowC hli.own; exact ⟨p, c, h⟩
    obtain ⟨ln, hln⟩ : ∃ n, L.length = n := ⟨_, rfl⟩
    rw [hln] at hli
    have hzi : zi = ln := by omega
    subst hzi
    have hln63 : L.length + 1 ≤ 33554432 := by have := HB.out; omega
    have hbase : w.heap.size ≤ (A.alloc (.cells (ceC (zk, zt, (z1, z2, z3), zp, zl, zc)) 84)).heap.size := by have := hli.below.size; rw [World.size_alloc]; omega
    have HM : Hid ((A.alloc (.cells (ceC (zk, zt, (z1, z2, z3), zp, zl, zc)) 84)).heap[A.heap.size]? = some (.cells (ceC (zk, zt, (z1, z2, z3), zp, zl, zc)) 84 (0, 0)) ∧ OwnC (A.alloc (.cells (ceC (zk, zt, (z1, z2, z3), zp, zl, zc)) 84)) w.heap.size (.slice pv zi cv) L) := ⟨heap_alloc_new A _, owns_below hli.own ((Below.refl _ _).alloc (Nat.le_refl _) _)⟩
    have HLI : Hid (Li9 E w O6 pre (.slice pv zi cv) L A ∧ (cellsL E)[pre.length]? = some e ∧ (zk = e.1 ∧ zt = e.2.1 ∧ (z1, z2, z3) = e.2.2.1) ∧ InA A zlo zhi (.slice zp zl zc) e.2.2.2 ∧ w4.heap.size ≤ zlo ∧ ∀ y ∈ pre, y.2.2.2 ≤ zlo) := ⟨hli, hec, ⟨g1, g2, g3⟩, g4, g5, g7⟩
    have HTO : Hid (To9 w.heap.size O4 O5 N A) := hto
    have cO : A.cell? ⟨O6, 0, none⟩ = some (.slice pv zi cv) := by rw [cell_of_heap hli.box]; rfl
    have cM : A.cell? ⟨w.heap.size, 0, none⟩ = some (.int .i64 N) := by rw [cell_of_heap hto.m]; rfl
    have b0 : A.cell? ⟨b, 0, none⟩ = some (.int .i32 zk) := by rw [cell_of_heap hb]; rfl
    have b1 : A.cell? ⟨b, 1, none⟩ = some (.string zt) := by rw [cell_of_heap hb]; rfl
    have b2 : A.cell? ⟨b, 2, none⟩ = some (.int .i64 z1) := by rw [cell_of_heap hb]; rfl
    have b3 : A.cell? ⟨b, 3, none⟩ = some (.int .i64 z2) := by rw [cell_of_heap hb]; rfl
    have b4 : A.cell? ⟨b, 4, none⟩ = some (.string z3) := by rw [cell_of_heap hb]; rfl
    have b5 : A.cell? ⟨b, 5, none⟩ = some (.slice zp zl zc) := by rw [cell_of_heap hb]; rfl
    have k1 : ((zi : Int) != zi) = false := bne_self_eq_false _
    have k2 : ¬ ((zi : Int) > N) := by have := HB.out; omega
    clear hli hto he hec g1 g2 g3 g4 g5 g6 g7 hlt hb hi0 hrec hl2 hll hln
    simp only [ceV, slV]
    gi_wp2_with (gi_at_builtin; refine wpListIn_append_cells rfl (.tmp 30) (.tmp 32) rfl w.heap.size (.slice pv zi cv) L rfl HM.out.2 A.heap.size (zk, zt, (z1, z2, z3), zp, zl, zc) rfl HM.out.1 hln63 hbase ?_; intro v' A' own' gr'; obtain ⟨pw, nw, cw, ev⟩ : ∃ p n c, v' = .slice p n c := (by obtain ⟨p, c, h, _⟩ := own_rowC own'; exact ⟨p, _, c, h⟩); subst ev; have hbox := list_box (d := (zk, zt, (z1, z2, z3), zp, zl, zc)) HLI.out.1 gr'; have cO' : A'.cell? ⟨O6, 0, none⟩ = some (.slice pv zi cv) := (by rw [cell_of_heap hbox]; rfl); have fO' : A'.frozen? ⟨O6, 0, none⟩ = false := frozen_of_heap hbox 0; have HBX : Hid ((OwnC A' w.heap.size (.slice pw nw cw) (L ++ [(zk, zt, (z1, z2, z3), zp, zl, zc)]) ∧ (A.alloc (.cells (ceC (zk, zt, (z1, z2, z3), zp, zl, zc)) 84)).grownBy A' (Value.slice pv zi cv).ownBlock) ∧ A'.heap[O6]? = some (.cells #[.slice pv zi cv] 74 (0, 0))) := ⟨⟨own', gr'⟩, hbox⟩; clear own' gr' hbox cO cM b0 b1 b2 b3 b4 b5 HM)
    have HT9 := HTO.out.round (v' := .slice pw nw cw) HLI.out.1 HBX.out.1.2 (by have := HZ.out; omega)
    obtain ⟨x1, x2, x3⟩ := list_round HLI.out.1 HLI.out.2.1 HLI.out.2.2.1 HLI.out.2.2.2.1 HLI.out.2.2.2.2.1 HLI.out.2.2.2.2.2 HBX.out.1.1 HBX.out.1.2 HBX.out.2 (by have := HZ.out; have := H4.out; omega)
    exact ⟨x1, x2, x3, HT9⟩
  case stop => intro D c pre W _ h; exact h.elim
  case done =>
    rintro D xs A hD hS ⟨⟨lv, L, hli⟩, hto⟩ hK
    have cO : A.cell? ⟨O6, 0, none⟩ = some lv := by rw [cell_of_heap hli.box]; rfl
    obtain ⟨pv, cv, rfl⟩ : ∃ p c, lv = .slice p L.length c := by obtain ⟨p, c, h, _⟩ := own_rowC hli.own; exact ⟨p, c, h⟩
    obtain ⟨ln, hln⟩ : ∃ n, L.length = n := ⟨_, rfl⟩
    rw [hln] at hli cO
    obtain ⟨u4, r4⟩ := hto.r
    obtain ⟨u5, r5⟩ := hto.o
    have c4 : A.cell? ⟨O4, 0, none⟩ = some u4 := by rw [cell_of_heap r4]; rfl
    have c5 : A.cell? ⟨O5, 0, none⟩ = some u5 := by rw [cell_of_heap r5]; rfl
    have f4 := frozen_of_heap r4 0
    have f5 := frozen_of_heap r5 0
    have n45 : ¬ O4 = O5 := by have := HZ.out; omega
    have n54 : ¬ O5 = O4 := by have := HZ.out; omega
    have n46 : ¬ O4 = O6 := by have := HZ.out; omega
    have n64 : ¬ O6 = O4 := by have := HZ.out; omega
    have hall : (cellsL E).take xs.length = docC9 E := by
      unfold docC9 at hS ⊢
      split at hS
      · rename_i h0; rw [if_pos h0]; exact List.take_of_length_le (by omega)
      · rename_i h0; rw [if_neg h0, hS]; rfl
    have HF : Hid (Li9 E w O6 xs (.slice pv ln cv) L A ∧ (cellsL E).take xs.length = docC9 E ∧ w4.heap.size ≤ D) := ⟨hli, hall, hD⟩
    clear hli hall hS hD hto hln
    have HT : Hid ((∃ cs, A.heap[O4]? = some (.cells cs 74 (0, 0))) ∧ ∃ cs, A.heap[O5]? = some (.cells cs 4 (0, 0))) := ⟨⟨_, r4⟩, _, r5⟩
    have hw4 : w.heap.size ≤ O4 ∧ w.heap.size ≤ O5 ∧ O4 < D ∧ O5 < D := by have := HZ.out; have := H4.out; have := HF.out.2.2; omega
    clear r4 r5
    gi_wp2
    go_wp2
    obtain ⟨⟨cs4, r4⟩, cs5, r5⟩ := HT.out
    have h8 := HF.out.1.set9 r4 (by decide) (fun e => n46 e) hw4.1 (.slice pv ln cv)
    have r5' := (Below.heap_setCell A ⟨O4, 0, none⟩ (.slice pv ln cv) O5 n54).trans r5
    have h9 := h8.set9 r5' (by decide) (fun e => by have := HZ.out; omega) hw4.2.1 (.bool true)
    have hK' : ((A.setCell ⟨O4, 0, none⟩ (.slice pv ln cv)).setCell ⟨O5, 0, none⟩ (.bool true)).heap[D]? = some (.deferred (some [])) := (Below.heap_setCell _ _ _ _ (show D ≠ O5 by omega)).trans ((Below.heap_setCell _ _ _ _ (show D ≠ O4 by omega)).trans hK)
    have q4 : ((A.setCell ⟨O4, 0, none⟩ (.slice pv ln cv)).setCell ⟨O5, 0, none⟩ (.bool true)).cell? ⟨O4, 0, none⟩ = some (.slice pv ln cv) := by
      have e1 := heap_set_at A O4 0 (.slice pv ln cv) _ _ _ r4
      have hz : 0 < cs4.size := by rw [cell_of_heap r4] at c4; exact (Array.getElem?_eq_some_iff.1 c4).1
      rw [World.cell?_of_block (a := ⟨O4, 0, none⟩) (w := A.setCell ⟨O4, 0, none⟩ (.slice pv ln cv)) (Below.heap_setCell _ _ _ _ n45), cell_of_heap e1]
      simp [hz]
    have q5 : ((A.setCell ⟨O4, 0, none⟩ (.slice pv ln cv)).setCell ⟨O5, 0, none⟩ (.bool true)).cell? ⟨O5, 0, none⟩ = some (.bool true) := by
      have e1 := heap_set_at (A.setCell ⟨O4, 0, none⟩ (.slice pv ln cv)) O5 0 (.bool true) _ _ _ r5'
      have hz : 0 < cs5.size := by rw [cell_of_heap r5] at c5; exact (Array.getElem?_eq_some_iff.1 c5).1
      rw [cell_of_heap e1]
      simp [hz]
    have h10 := h9.tr (tr7_put9 (T := fun t => t = 3) (o' := .deferred none) hK' (Nat.le_refl _)) (by have := HZ.out; have := HF.out.2.2; have := H4.out; omega) (by omega)
    exact told_leave _ D O4 O5 _ (.slice pv ln cv) rfl rfl hK' q4 q5 (by omega) (by omega) ⟨⟨L, h10.own, by rw [← HF.out.2.1]; exact h10.are, h10.asc⟩, h10.below⟩
end Go.Proofs.YthfpmhnnjjikcaaGreatDoor

/- A region that draws its order, in a round of a range over a function: the plain kit's walk of it (held at S) serves: its laws, and those by which it is walked by hand. -/
namespace Go.Proofs.YthfpmhnnjjikcaaGreatDoor
open Go
set_option linter.unusedVariables false

section
variable {n l : Nat} {P : Program} {ops : Array Oper} {Q : Exit → Act → World → Prop} {md : Region.Mode} {S : World → Prop}
theorem op_round {o : Oper} {a : Act} {w : World} {K : Act → World → Prop} (hd : ∀ c, o.op ≠ .defer c) (h : o.wp P a w K Q) : o.wpIn (Fence.wide.inRound l) n P a w K Q := by
  refine ⟨fun _ _ => trivial, ?_⟩
  rw [Oper.semAt_plain _ _ _ hd]
  unfold Oper.wp at h
  generalize (execOp a.eval o).run P w = r at *
  cases r with
  | ok x w' =>
    cases x <;> simp only [Oper.upon, Oper.uponIn] at h ⊢ <;>
      first
        | exact h
        | exact ⟨fun hh => (by cases hh), CallsIn.inRound l (callsIn_wide.2 h)⟩
        | (refine ⟨fun hh => (by cases hh), fun c cs hr => ?_⟩
           obtain ⟨v, w'', r, s⟩ := h c cs
           exact ⟨v, w'', r, stepsIn_wide.2 s⟩)
  | halt x w' => cases x <;> simp only [Oper.upon, Oper.uponIn] at h ⊢ <;> exact h
theorem any_round (hno : ¬ LetsOut Q) (hd : ∀ (i : Nat) (o : Oper), ops[i]? = some o → ∀ c, o.op ≠ .defer c) : ∀ (fuel : Nat) (listed : Array Bool) (a : Act) (w : World), wpAny P md ops Q fuel listed a w → wpAnyIn (Fence.wide.inRound l) n P md ops Q fuel listed a w
  | 0, _, _, _, h => h
  | fuel + 1, listed, a, w, h => by
    refine ⟨h.1, fun i hi => ?_⟩
    have hh := h.2 i hi
    unfold wpOp at hh
    unfold wpOpIn
    cases ho : ops[i]? with
    | none => rw [ho] at hh; exact any_round hno hd fuel _ _ _ hh
    | some o =>
      rw [ho] at hh
      simp only at hh ⊢
      split
      · rename_i hw
        rw [if_pos hw] at hh
        exact Oper.wpIn_mono (fun a w => any_round hno hd fuel _ a w) (op_round (hd i o ho) (hh.elim id fun h => (hno h.2).elim))
      · rename_i hw
        rw [if_neg hw] at hh
        exact ⟨fun _ _ => trivial, any_round hno hd fuel _ _ _ hh⟩
theorem region_round_held {id : Nat} {a : Act} {w : World} (hm : P.follows .mixedOrders = true) (hd : (ops.all fun o => match o.op with | .defer _ => false | _ => true) = true) (hno : ¬ LetsOut Q) (hS : S w.drew)
    (h : S w.drew → wpAnyH P .any ops Q S ops.size (Array.replicate ops.size false) a w.drew) : (Code.region id ops true).wpIn (Fence.wide.inRound l) n P Q a w := by
  refine wpIn_region_any hm (any_round hno (fun i o ho c hc => ?_) _ _ _ _ (wpAny_of_held _ _ _ _ (h hS)))
  have := Array.all_eq_true_iff_forall_mem.1 hd o (Array.mem_of_getElem? ho)
  rw [hc] at this
  cases this
end

/-- An operation that never comes up. -/
def dOp : Oper := { dst := none, op := Op.move (.tmp 0), type := 0, pos := "", after := #[], guard := none }
/-- The operation with number i. -/
def nthO (d : Oper) : List Oper → Nat → Oper
  | [], _ => d
  | o :: _, 0 => o
  | _ :: t, i + 1 => nthO d t i
section
variable {P : Program} {Q : Exit → Act → World → Prop} {md : Region.Mode} {S : World → Prop}
/-- An operation that yields in every world that meets S is taken first. -/
theorem take_L (d : Oper) {L : List Oper} (i : Nat) (v : Value) {fuel : Nat} {listed : Array Bool} {a : Act} {w : World} (hi : L.toArray[i]? = some (nthO d L i))
    (hs : Region.noSelect L.toArray = true) (hf : Region.free md L.toArray listed i = true) (hr : (Region.ready md L.toArray listed).contains i = true)
    (hQ : ∀ c a (o : Option Tmp) v w, Q (.panic c) (a.put o v) w → Q (.panic c) a w) (hw : Region.wanted (nthO d L i) (yielded L.toArray a.tmps) = true)
    (hS : S w) (hy : ∀ w, S w → (execOp a.eval (nthO d L i)).run P w = .ok (.value v) w)
    (h : wpAnyH P md L.toArray Q S fuel (listed.setIfInBounds i true) (a.put (nthO d L i).dst v) w) : wpAnyH P md L.toArray Q S (fuel + 1) listed a w :=
  wpAnyH_take hi hs hf hr (fun c a w => hQ c a _ _ w) (Or.inl ⟨hw, hy⟩) hS h
/-- One operation alone may come up. -/
theorem one_L (d : Oper) {L : List Oper} (i : Nat) {fuel : Nat} {listed : Array Bool} {a : Act} {w : World} (hi : L.toArray[i]? = some (nthO d L i)) (hr : Region.ready md L.toArray listed = [i])
    (h : ∀ K' : Act → World → Prop, Shut (∀ a w, S w → (S w → wpAnyH P md L.toArray Q S fuel (listed.setIfInBounds i true) a w) → K' a w) → if Region.wanted (nthO d L i) (yielded L.toArray a.tmps) = true then Oper.wp P (nthO d L i) a w K' Q else K' (a.put (nthO d L i).dst undef) w) : wpAnyH P md L.toArray Q S (fuel + 1) listed a w :=
  wpAnyH_ready hr (by simp) (AllReadyH.cons hi h AllReadyH.nil)
end
end Go.Proofs.YthfpmhnnjjikcaaGreatDoor

/- vellumlaw09.stops: cells.Each, stopped. -/
namespace Go.Proofs.YthfpmhnnjjikcaaGreatDoor
open Go Go.RowKit Go.Lib Go.Shelf
set_option linter.unusedVariables false
attribute [local go_sem] Oper.semAt_some

/-- What stops has laid for itself, behind k rounds. -/
structure So9 (w : World) (B4 B5 B6 O : Nat) (bv : Value) (stop : Int) (k : Nat) (A : World) : Prop where
  a : A.heap[B4]? = some (.cells #[bv] 74 (0, 0))
  b : A.heap[B5]? = some (.cells #[.int .i64 stop] 3 (0, 0))
  c : ∃ u, A.heap[B6]? = some (.cells #[u] 4 (0, 0))
  n : A.heap[O]? = some (.cells #[.int .i64 k] 3 (0, 0))
  below : Below w.heap.size w A
theorem So9.tr {w : World} {B4 B5 B6 O B : Nat} {bv : Value} {stop : Int} {k : Nat} {A A' : World} (h : So9 w B4 B5 B6 O bv stop k A) (t : Tr7 (fun t => t = 3) B A A') (hB : B4 < B ∧ B5 < B ∧ B6 < B ∧ O < B ∧ w.heap.size ≤ B) : So9 w B4 B5 B6 O bv stop k A' := by
  obtain ⟨u, hc⟩ := h.c
  exact ⟨t.kept _ _ h.a (.inl hB.1), t.kept _ _ h.b (.inl hB.2.1), ⟨u, t.kept _ _ hc (.inl hB.2.2.1)⟩, t.kept _ _ h.n (.inl hB.2.2.2.1), tr_below8 h.below (Nat.le_refl _) hB.2.2.2.2 t⟩
theorem So9.step {w : World} {B4 B5 B6 O : Nat} {bv : Value} {stop : Int} {k : Nat} {A W : World} (h : So9 w B4 B5 B6 O bv stop k A) (b : Below A.heap.size A W) (hO : B4 ≠ O ∧ B5 ≠ O ∧ B6 ≠ O ∧ w.heap.size ≤ O) (B0 Bz : Nat) (hz : O < B0) (pre : List EZ) (x : EZ) :
    KeepsFrom Bz A (W.setCell ⟨O, 0, none⟩ (.int .i64 ((k : Int) + 1))) ∧ KE9 B0 pre x A (W.setCell ⟨O, 0, none⟩ (.int .i64 ((k : Int) + 1))) ∧ So9 w B4 B5 B6 O bv stop (k + 1) (W.setCell ⟨O, 0, none⟩ (.int .i64 ((k : Int) + 1))) := by
  have hn := heap_below b h.n
  obtain ⟨u, hc⟩ := h.c
  have oth : ∀ (j : Nat) (o : Obj), A.heap[j]? = some o → j ≠ O → (W.setCell ⟨O, 0, none⟩ (.int .i64 ((k : Int) + 1))).heap[j]? = some o := fun j o hj hne => (Below.heap_setCell _ _ _ _ hne).trans (heap_below b hj)
  have ne : ∀ (j : Nat) (o : Obj), A.heap[j]? = some o → (∀ cs, o ≠ .cells cs 3 (0, 0)) → j ≠ O := fun j o hj ho e => by subst e; rw [h.n] at hj; exact ho _ (Option.some.inj hj).symm
  have hs : A.heap.size ≤ (W.setCell ⟨O, 0, none⟩ (.int .i64 ((k : Int) + 1))).heap.size := by have := b.size; simp; omega
  refine ⟨⟨hs, fun j o _ hj hq => oth j o hj (ne j o hj fun cs e => by rw [e] at hq; cases hq)⟩, ⟨hs, fun j cs t hj ht => oth j _ hj (fun e => ?_), fun j t p hj => oth j _ hj (ne j _ hj fun cs e => by cases e), fun j cs hj _ => oth j _ hj (ne j _ hj fun cs e => by cases e)⟩, oth _ _ h.a hO.1, oth _ _ h.b hO.2.1, ⟨u, oth _ _ hc hO.2.2.1⟩, ?_, (h.below.trans (b.mono h.below.size)).setCell (p := ⟨O, 0, none⟩) hO.2.2.2 _⟩
  · subst e
    rw [h.n] at hj
    simp only [Option.some.injEq, Obj.cells.injEq] at hj
    obtain ⟨_, ht', _⟩ := hj
    subst ht'
    rcases ht with ht | ht | ht | ht
    · exact absurd ht (by decide)
    · exact absurd ht (by decide)
    · exact absurd ht (by decide)
    · omega
  · have := heap_set_at W O 0 (.int .i64 ((k : Int) + 1)) _ _ _ hn
    simpa using this
theorem Tr7.below_put9 {n D : Nat} {w A : World} {o o' : Obj} (h : Below n w A) (hK : A.heap[D]? = some o) (hD : n ≤ D) : Below n w (A.putObj D o') :=
  ⟨h.os, h.tape, h.output, by have := h.size; simpa using this, fun k hk => (World.putObj_heap_other (by omega)).trans (h.block k hk)⟩
theorem stops_leave (A : World) (D B6 : Nat) (tmps : Array Value) {R : World → Prop} (h6 : tmps[6]? = some (.pointer (some ⟨B6, 0, none⟩))) (hK : A.heap[D]? = some (.deferred (some []))) (c6 : A.cell? ⟨B6, 0, none⟩ = some (.bool true)) (n6 : B6 ≠ D) (h : R (A.putObj D (.deferred none))) :
    bodyPostM Fence.wide 15 Tryz.prog Tryz.f41 (fun r w' => r = .returned (.bool true) ∧ R w') Exit.ret { tmps := tmps, defers := [{ target := .collected D, args := #[] }] } A := by
  have g6 : (A.putObj D (.deferred none)).cell? ⟨B6, 0, none⟩ = some (.bool true) := (World.cell?_of_block (a := ⟨B6, 0, none⟩) (World.putObj_heap_other n6)).trans c6
  refine ⟨by simp, .inl ⟨_, _, rfl, run_takeDeferred hK, ?_⟩⟩
  refine ⟨.bool true, ?_, ⟨rfl, h⟩⟩
  simp [results, Tryz.results41, go_sem, h6, g6]
set_option maxHeartbeats 8000000 in
set_option maxRecDepth 100000 in
theorem stops9_any {B1 B2 : Nat} (v bv : Value) (E : List Op5) (D0 : List CV) (stop : Int) (w : World) (h : DlE w B1 B2 v E) (hb : RowC w bv D0) (ha : Are w D0 (docC9 E)) (hl : (docC9 E).length ≤ 2097152) (hA : ∀ e ∈ docC9 E, e.2.2.2.length ≤ 4194304) (hbg : (cellsL E).length ≤ 1099511627776) :
    Calls Tryz.prog 41 #[v, bv, .int .i64 stop] w fun r w' => r = .returned (.bool true) ∧ Below w.heap.size w w' := by
  have cE : Hid (∀ W, Below w.heap.size w W → Calls Tryz.prog 84 #[v] W fun r w' => ∃ x, r = .returned (.func (.func 115) #[] #[.pointer (some ⟨x, 0, none⟩)]) ∧ (∃ u, w'.cell? ⟨x, 0, none⟩ = some u ∧ DlE w' B1 B2 u E) ∧ Below W.heap.size W w') := fun W hW => by
    refine (eachC_call v E W (h.d.below hW)).mono ?_
    rintro r w' ⟨x, e, ⟨u, h1, h2⟩, _, h3⟩
    exact ⟨x, e, ⟨u, h1, ⟨h2, h.g, h.fit, h.len, h.txt, h.fits⟩⟩, h3⟩
  obtain ⟨q, rfl⟩ : ∃ q, v = .pointer (some ⟨q, 0, none⟩) := by obtain ⟨q, _, _, e, _⟩ := h.d; exact ⟨q, e⟩
  have hDA := forall2_len ha
  obtain ⟨m, hm⟩ : ∃ m, D0.length = m := ⟨_, rfl⟩
  obtain ⟨pb, cb, rfl, hcb, _, hin⟩ := hb
  have HB : Hid ((docC9 E).length = m ∧ D0.length = m ∧ m ≤ 2097152 ∧ (∀ e ∈ docC9 E, e.2.2.2.length ≤ 4194304) ∧ (cellsL E).length ≤ 1099511627776) := ⟨by omega, hm, by omega, hA, hbg⟩
  have HD0 : Hid (Are w D0 (docC9 E) ∧ (D0 ≠ [] → ∃ b off, pb = some ⟨b, off, none⟩ ∧ InC w b off D0)) := ⟨ha, hin⟩
  rw [hm] at hcb ⊢
  clear h hl hA hbg ha hin hDA hm
  obtain ⟨O4, hO4⟩ : ∃ x, x = w.heap.size := ⟨_, rfl⟩
  obtain ⟨O5, hO5⟩ : ∃ x, x = w.heap.size + 1 := ⟨_, rfl⟩
  obtain ⟨O6, hO6⟩ : ∃ x, x = w.heap.size + 1 + 1 := ⟨_, rfl⟩
  obtain ⟨W3, hW3⟩ : ∃ W, W = ((w.alloc (.cells #[.slice pb m cb] 74)).alloc (.cells #[.int .i64 stop] 3)).alloc (.cells #[.bool false] 4) := ⟨_, rfl⟩
  have b3 : Below w.heap.size w W3 := by
    rw [hW3]
    exact ((((Below.refl _ _).alloc (Nat.le_refl _) _).alloc (by simp) _).alloc (by simp <;> omega) _)
  have hs3 : W3.heap.size = w.heap.size + 3 := by rw [hW3]; simp
  have h4 : W3.heap[O4]? = some (.cells #[.slice pb m cb] 74 (0, 0)) := by
    rw [hW3, hO4, Below.heap_alloc _ _ _ (by simp <;> omega), Below.heap_alloc _ _ _ (by simp)]; exact heap_alloc_new w _
  have h5 : W3.heap[O5]? = some (.cells #[.int .i64 stop] 3 (0, 0)) := by
    rw [hW3, hO5, Below.heap_alloc _ _ _ (by simp)]
    have := heap_alloc_new (w.alloc (.cells #[.slice pb m cb] 74)) (.cells #[.int .i64 stop] 3)
    rwa [World.size_alloc] at this
  have h6 : W3.heap[O6]? = some (.cells #[.bool false] 4 (0, 0)) := by
    rw [hW3, hO6]
    have := heap_alloc_new ((w.alloc (.cells #[.slice pb m cb] 74)).alloc (.cells #[.int .i64 stop] 3)) (.cells #[.bool false] 4)
    rwa [World.size_alloc, World.size_alloc] at this
  have c3 := cE.out W3 b3
  have HL3 : Hid (Below w.heap.size w W3 ∧ W3.heap.size = w.heap.size + 3 ∧ W3.heap[O4]? = some (.cells #[.slice pb m cb] 74 (0, 0)) ∧ W3.heap[O5]? = some (.cells #[.int .i64 stop] 3 (0, 0)) ∧ W3.heap[O6]? = some (.cells #[.bool false] 4 (0, 0))) := ⟨b3, hs3, h4, h5, h6⟩
  have hnf : ∀ (X9 : Nat) (W : World), (binOp .eql 149 (.func (.func 115) #[] #[.pointer (some ⟨X9, 0, none⟩)]) .nilFunc).run Tryz.prog W = .ok (.bool false) W := fun X9 W => by kernel_rfl
  have HZ : Hid (O4 = w.heap.size ∧ O5 = w.heap.size + 1 ∧ O6 = w.heap.size + 2) := ⟨by omega, by omega, by omega⟩
  clear b3 hs3 h4 h5 h6 cE
  refine (callsIn_wide (n := 15)).1 ?_
  refine callsIn_of_wp_marks Tryz.func41 rfl trivial ?_ rfl
  simp only [Tryz.ntmps41, List.size_toArray, List.length_cons, List.length_nil, Nat.reduceAdd, Nat.reduceSub, Array.replicate_succ, Array.replicate_zero, List.push_toArray, List.append_toArray, List.nil_append, List.cons_append]
  rw [wpIn_wide]
  go_upto_region 1 with fail
  rw [← hO6, ← hO5, ← hO4, ← hW3]
  clear hW3 hO4 hO5 hO6
  go_wp2_with fail
  refine c3.mono ?_; rintro r w4 ⟨x, rfl, ⟨u, hx1, hx2⟩, hb4⟩
  obtain ⟨W5, hW5⟩ : ∃ W, W = w4.alloc (.cells #[.int .i64 0] 3) := ⟨_, rfl⟩
  obtain ⟨O, hO⟩ : ∃ O, O = w4.heap.size := ⟨_, rfl⟩
  have bA : Below w4.heap.size w4 W5 := by rw [hW5]; exact (Below.refl _ _).alloc (Nat.le_refl _) _
  have hnO : W5.heap[O]? = some (.cells #[.int .i64 0] 3 (0, 0)) := by rw [hW5, hO]; exact heap_alloc_new w4 _
  have H5 : Hid (So9 w O4 O5 O6 O (.slice pb m cb) stop 0 W5 ∧ (∃ u, W5.cell? ⟨x, 0, none⟩ = some u ∧ DlE W5 B1 B2 u E) ∧ W5.heap.size = O + 1 ∧ w.heap.size + 3 ≤ O) := by
    obtain ⟨k1, k2, k3, k4, k5⟩ := HL3.out
    have hs4 := hb4.size
    refine ⟨⟨heap_below bA (heap_below hb4 k3), heap_below bA (heap_below hb4 k4), ⟨_, heap_below bA (heap_below hb4 k5)⟩, hnO, ?_⟩, ⟨u, (bA.cell (lt_of_cell hx1)).trans hx1, hx2.below bA⟩, by rw [hW5, hO]; simp, by omega⟩
    have b4 := k1.trans (hb4.mono k1.size)
    exact b4.trans (bA.mono b4.size)
  have hn9 := hnf x
  clear c3 hx1 hx2 hb4 HL3 hnf bA hnO
  go_wp2_with fail
  rw [← hO, ← hW5]
  clear hW5 hO
  refine (wpIn_wide (n := 15)).1 ?_
  refine wpIn_rangeFunc_GA (encs := encE9) rfl (by decide) (gf := 115) (lb := #[.pointer (some ⟨x, 0, none⟩)]) rfl trivial (enters_of Tryz.func115 (by kernel_rfl) rfl)
    (eachC_seq E W5 x H5.out.2.1 (docC9 E).length HB.out.2.2.2.2 (by unfold docC9; split <;> rfl) 14 (by decide)) (Below.refl _ _) (fun _ => rfl) (fun pre x A A' h k => h.bk k) (fun pre x A A' B B' k1 h k2 => KE9.bk k1 h k2)
    (fun (pre : List EZ) A => So9 w O4 O5 O6 O (.slice pb m cb) stop pre.length A) (fun c pre A => c = .exit 0 ∧ So9 w O4 O5 O6 O (.slice pb m cb) stop pre.length A ∧ (pre.length : Int) = stop)
    (fun s A A' h k => h.tr k (by have := H5.out; have := HZ.out; omega)) (fun c s A A' ⟨h1, h2, h3⟩ k => ⟨h1, h2.tr k (by have := H5.out; have := HZ.out; omega), h3⟩) H5.out.1
    (fun (_ : List EZ) (z : EZ) (a' : Act) (A : World) => ∃ b, a' = { tmps := #[.pointer (some ⟨q, 0, none⟩), .slice pb m cb, .int .i64 stop, undef, .pointer (some ⟨O4, 0, none⟩), .pointer (some ⟨O5, 0, none⟩), .pointer (some ⟨O6, 0, none⟩), .func (.func 115) #[] #[.pointer (some ⟨x, 0, none⟩)], .pointer (some ⟨O, 0, none⟩), .int .i64 (z.1 : Nat), .pointer (some ⟨b, 0, none⟩), .pointer (some ⟨q, 0, none⟩), .func (.func 115) #[] #[.pointer (some ⟨x, 0, none⟩)], .func (.func 115) #[] #[.pointer (some ⟨x, 0, none⟩)], .bool false, .func (.func 115) #[] #[.pointer (some ⟨x, 0, none⟩)], .int .i64 (z.1 : Nat), ceV z.2.1, undef, undef, undef, undef, undef, undef, undef, undef, undef, undef, undef, undef, undef, undef, undef, undef, undef, undef, undef, undef, undef, undef, undef, undef, undef, undef, undef], defers := [] } ∧ A.heap[b]? = some (.cells (ceC z.2.1) 84 (0, 0))) (fun _ _ _ _ _ ⟨b, h1, h2⟩ k => ⟨b, h1, k.cells h2⟩) ?assign ?body ?done ?stop
  case assign =>
    intro l2 pre z W4 K _ _ hK
    obtain ⟨zi, ⟨zk, zt, ⟨z1, z2, z3⟩, zp, zl, zc⟩, zlo, zhi⟩ := z
    simp only [encE9, ceV, slV]
    gi_wp2
    exact hK _ _ ((Below.refl _ _).alloc (Nat.le_refl _) _) ⟨W4.heap.size, rfl, heap_alloc_new W4 _⟩
  case body =>
    rintro l2 pre z a' A hl2 hrec hso hG ⟨b, rfl, hb⟩
    obtain ⟨hi0, e, he, g1, g2, g3, g4, g5, g6, g7⟩ := hG
    have hlt := (List.getElem?_eq_some_iff.1 he).1
    obtain ⟨d, hd⟩ : ∃ d, D0[pre.length]? = some d := ⟨_, List.getElem?_eq_getElem (by have := HB.out; omega)⟩
    obtain ⟨e', he', hr⟩ := forall2_get HD0.out.1 _ d hd
    obtain rfl : e' = e := Option.some.inj (he'.symm.trans he)
    have hem := HB.out.2.2.2.1 e' (List.mem_of_getElem? he)
    obtain ⟨k, hk⟩ : ∃ k, pre.length = k := ⟨_, rfl⟩
    rw [hk] at hso he hd hlt hi0
    obtain ⟨zi, ⟨zk, zt, ⟨z1, z2, z3⟩, zp, zl, zc⟩, zlo, zhi⟩ := z
    simp only at hi0 g1 g2 g3 g4
    subst hi0
    obtain ⟨bb, off, rfl, hin⟩ := HD0.out.2 (by intro e; rw [e] at hd; simp at hd)
    obtain ⟨x0, x1, x2, x3, x4, x5⟩ := cellsC_get D0 zi d hd
    have c0 := (hin.below hso.below) _ _ x0
    have c1 := (hin.below hso.below) _ _ x1
    have c2 := (hin.below hso.below) _ _ x2
    have c3 := (hin.below hso.below) _ _ x3
    have c4 := (hin.below hso.below) _ _ x4
    have c5 := (hin.below hso.below) _ _ x5
    simp only [← Nat.add_assoc] at c0 c1 c2 c3 c4 c5
    have cw : A.cell? ⟨O4, 0, none⟩ = some (.slice (some ⟨bb, off, none⟩) m cb) := by rw [cell_of_heap hso.a]; rfl
    have cs : A.cell? ⟨O5, 0, none⟩ = some (.int .i64 stop) := by rw [cell_of_heap hso.b]; rfl
    have cn : A.cell? ⟨O, 0, none⟩ = some (.int .i64 zi) := by rw [cell_of_heap hso.n]; rfl
    have b0 : A.cell? ⟨b, 0, none⟩ = some (.int .i32 zk) := by rw [cell_of_heap hb]; rfl
    have b1 : A.cell? ⟨b, 1, none⟩ = some (.string zt) := by rw [cell_of_heap hb]; rfl
    have b2 : A.cell? ⟨b, 2, none⟩ = some (.int .i64 z1) := by rw [cell_of_heap hb]; rfl
    have b3 : A.cell? ⟨b, 3, none⟩ = some (.int .i64 z2) := by rw [cell_of_heap hb]; rfl
    have b4 : A.cell? ⟨b, 4, none⟩ = some (.string z3) := by rw [cell_of_heap hb]; rfl
    have b5 : A.cell? ⟨b, 5, none⟩ = some (.slice zp zl zc) := by rw [cell_of_heap hb]; rfl
    have hDB : ∀ W, Below A.heap.size A W → RN W (slV d.2.2.2) e'.2.2.2 := fun W hW => (hr.2.2.2.below hso.below).below hW
    have hd4 := ce_of (w := w) hr
    have cS : Hid (∀ W, Below A.heap.size A W → Calls Tryz.prog 40 #[.agg #[.int .i32 zk, .string zt, .int .i64 z1, .int .i64 z2, .string z3, .slice zp zl zc], ceV d] W fun r w' => r = .returned (.bool true) ∧ Below A.heap.size A w') := fun W hW => from_below hW (by
      have hR := hDB W hW
      rw [hd4]
      have := sameR9_any e' e' (.slice zp zl zc) (slV d.2.2.2) W ((g4.below hW).row) hR.row hem hem
      rw [decide_eq_true rfl] at this
      rw [show (.agg #[.int .i32 zk, .string zt, .int .i64 z1, .int .i64 z2, .string z3, .slice zp zl zc] : Value) = ceP e' (.slice zp zl zc) from ce_of (w := A) (d := (zk, zt, (z1, z2, z3), zp, zl, zc)) ⟨g1, g2, g3, own_RN g4.own⟩]
      exact this)
    have HSO : Hid (So9 w O4 O5 O6 O (.slice (some ⟨bb, off, none⟩) m cb) stop zi A ∧ pre.length = zi) := ⟨hso, hk⟩
    have hltm : zi < m := by have := HB.out; omega
    have hltI : (zi : Int) < m := by omega
    have hge : ¬ (zi : Int) ≥ m := by omega
    have hgB : decide ((zi : Int) ≥ (m : Int)) = false := decide_eq_false (by omega)
    have hgB2 : decide ((m : Int) ≤ (zi : Int)) = false := decide_eq_false (by omega)
    have hgB3 : decide (m ≤ zi) = false := decide_eq_false (by omega)
    have hz0 : (0 : Int) ≤ (zi : Int) := by omega
    have hz1 : IntKind.i64.wrap ((zi : Int) + 1) = zi + 1 := by have := HB.out; rw [IntKind.wrap_i64]; omega
    obtain ⟨dk, dt, ⟨dx, dn, du⟩, dp, dl, dcap⟩ := d
    simp only [slV, ceV] at c0 c1 c2 c3 c4 c5 cS
    have HU : Hid (∀ W, Below A.heap.size A W → (W.cell? ⟨O4, 0, none⟩ = some (.slice (some ⟨bb, off, none⟩) m cb) ∧ (W.cell? ⟨b, 0, none⟩ = some (.int .i32 zk) ∧ W.cell? ⟨b, 1, none⟩ = some (.string zt) ∧ W.cell? ⟨b, 2, none⟩ = some (.int .i64 z1) ∧ W.cell? ⟨b, 3, none⟩ = some (.int .i64 z2) ∧ W.cell? ⟨b, 4, none⟩ = some (.string z3) ∧ W.cell? ⟨b, 5, none⟩ = some (.slice zp zl zc)) ∧ W.cell? ⟨bb, off + zi * 6, none⟩ = some (.int .i32 dk) ∧ W.cell? ⟨bb, off + zi * 6 + 1, none⟩ = some (.string dt) ∧ W.cell? ⟨bb, off + zi * 6 + 2, none⟩ = some (.int .i64 dx) ∧ W.cell? ⟨bb, off + zi * 6 + 3, none⟩ = some (.int .i64 dn) ∧ W.cell? ⟨bb, off + zi * 6 + 4, none⟩ = some (.string du) ∧ W.cell? ⟨bb, off + zi * 6 + 5, none⟩ = some (.slice dp dl dcap))) := fun W hW => ⟨(hW.cell (lt_of_cell cw)).trans cw, ⟨(hW.cell (lt_of_cell b0)).trans b0, (hW.cell (lt_of_cell b1)).trans b1, (hW.cell (lt_of_cell b2)).trans b2, (hW.cell (lt_of_cell b3)).trans b3, (hW.cell (lt_of_cell b4)).trans b4, (hW.cell (lt_of_cell b5)).trans b5⟩, (hW.cell (lt_of_cell c0)).trans c0, (hW.cell (lt_of_cell c1)).trans c1, (hW.cell (lt_of_cell c2)).trans c2, (hW.cell (lt_of_cell c3)).trans c3, (hW.cell (lt_of_cell c4)).trans c4, (hW.cell (lt_of_cell c5)).trans c5⟩
    have HC : Hid (∀ W, Below A.heap.size A W → W.cell? ⟨O5, 0, none⟩ = some (.int .i64 stop) ∧ W.cell? ⟨O, 0, none⟩ = some (.int .i64 zi) ∧ W.frozen? ⟨O, 0, none⟩ = false) := fun W hW => ⟨(hW.cell (lt_of_cell cs)).trans cs, (hW.cell (lt_of_cell cn)).trans cn, frozen_of_heap (heap_below hW hso.n) 0⟩
    have HMD := Hid.mkh (HU.out _ (Below.refl A.heap.size A).drew)
    have bd : Below A.heap.size A A.drew := (Below.refl _ _).drew
    clear hso he hd g1 g2 g3 g4 g5 g6 g7 hlt hb hrec hl2 hk c0 c1 c2 c3 c4 c5 cw cs cn b0 b1 b2 b3 b4 b5 hin hr he' hem hDB hd4 x0 x1 x2 x3 x4 x5
    simp only [ceV, slV]
    gi_wp2
    refine region_round_held (S := (fun w' => (w'.cell? ⟨O4, 0, none⟩ = some (.slice (some ⟨bb, off, none⟩) m cb) ∧ (w'.cell? ⟨b, 0, none⟩ = some (.int .i32 zk) ∧ w'.cell? ⟨b, 1, none⟩ = some (.string zt) ∧ w'.cell? ⟨b, 2, none⟩ = some (.int .i64 z1) ∧ w'.cell? ⟨b, 3, none⟩ = some (.int .i64 z2) ∧ w'.cell? ⟨b, 4, none⟩ = some (.string z3) ∧ w'.cell? ⟨b, 5, none⟩ = some (.slice zp zl zc)) ∧ w'.cell? ⟨bb, off + zi * 6, none⟩ = some (.int .i32 dk) ∧ w'.cell? ⟨bb, off + zi * 6 + 1, none⟩ = some (.string dt) ∧ w'.cell? ⟨bb, off + zi * 6 + 2, none⟩ = some (.int .i64 dx) ∧ w'.cell? ⟨bb, off + zi * 6 + 3, none⟩ = some (.int .i64 dn) ∧ w'.cell? ⟨bb, off + zi * 6 + 4, none⟩ = some (.string du) ∧ w'.cell? ⟨bb, off + zi * 6 + 5, none⟩ = some (.slice dp dl dcap)) ∧ Below A.heap.size A w')) (by kernel_rfl) (by kernel_rfl) (fun ⟨_, _, h⟩ => h) ?_ (fun hHeld => ?_)
    · (try dsimp only); exact ⟨by first | (with_reducible assumption) | exact HMD.out, by first | (with_reducible assumption)⟩
    refine take_L dOp 0 ?_ (by kernel_rfl) (by kernel_rfl) (by kernel_rfl) (by kernel_rfl) (fun _ _ _ _ _ h => h) (by rfl) hHeld (fun w hSw => ?_) ?_
    rotate_left
    · (try dsimp only at hSw); simp only [nthO]; go_simp; first | done | with_reducible rfl
    simp only [nthO, Act.put, List.setIfInBounds_toArray, List.set_cons_zero, List.set_cons_succ]
    refine take_L dOp 1 ?_ (by kernel_rfl) (by kernel_rfl) (by kernel_rfl) (by kernel_rfl) (fun _ _ _ _ _ h => h) (by rfl) hHeld (fun w hSw => ?_) ?_
    rotate_left
    · (try dsimp only at hSw); simp only [nthO]; go_simp; first | done | with_reducible rfl
    simp only [nthO, Act.put, List.setIfInBounds_toArray, List.set_cons_zero, List.set_cons_succ]
    refine take_L dOp 2 ?_ (by kernel_rfl) (by kernel_rfl) (by kernel_rfl) (by kernel_rfl) (fun _ _ _ _ _ h => h) (by rfl) hHeld (fun w hSw => ?_) ?_
    rotate_left
    · (try dsimp only at hSw); simp only [nthO]; go_simp; first | done | with_reducible rfl
    simp only [nthO, Act.put, List.setIfInBounds_toArray, List.set_cons_zero, List.set_cons_succ]
    refine take_L dOp 3 ?_ (by kernel_rfl) (by kernel_rfl) (by kernel_rfl) (by kernel_rfl) (fun _ _ _ _ _ h => h) (by rfl) hHeld (fun w hSw => ?_) ?_
    rotate_left
    · (try dsimp only at hSw); simp only [nthO]; go_simp; first | done | with_reducible rfl
    simp only [nthO, Act.put, List.setIfInBounds_toArray, List.set_cons_zero, List.set_cons_succ]
    refine take_L dOp 4 ?_ (by kernel_rfl) (by kernel_rfl) (by kernel_rfl) (by kernel_rfl) (fun _ _ _ _ _ h => h) (by rfl) hHeld (fun w hSw => ?_) ?_
    rotate_left
    · (try dsimp only at hSw); simp only [nthO]; go_simp; first | done | with_reducible rfl
    simp only [nthO, Act.put, List.setIfInBounds_toArray, List.set_cons_zero, List.set_cons_succ]
    refine take_L dOp 5 ?_ (by kernel_rfl) (by kernel_rfl) (by kernel_rfl) (by kernel_rfl) (fun _ _ _ _ _ h => h) (by rfl) hHeld (fun w hSw => ?_) ?_
    rotate_left
    · (try dsimp only at hSw); simp only [nthO]; go_simp; first | done | with_reducible rfl
    simp only [nthO, Act.put, List.setIfInBounds_toArray, List.set_cons_zero, List.set_cons_succ]
    refine take_L dOp 6 ?_ (by kernel_rfl) (by kernel_rfl) (by kernel_rfl) (by kernel_rfl) (fun _ _ _ _ _ h => h) (by rfl) hHeld (fun w hSw => ?_) ?_
    rotate_left
    · (try dsimp only at hSw); simp only [nthO]; go_simp; first | done | with_reducible rfl
    simp only [nthO, Act.put, List.setIfInBounds_toArray, List.set_cons_zero, List.set_cons_succ]
    refine take_L dOp 7 ?_ (by kernel_rfl) (by kernel_rfl) (by kernel_rfl) (by kernel_rfl) (fun _ _ _ _ _ h => h) (by rfl) hHeld (fun w hSw => ?_) ?_
    rotate_left
    · (try dsimp only at hSw); simp only [nthO]; go_simp; first | done | with_reducible rfl
    simp only [nthO, Act.put, List.setIfInBounds_toArray, List.set_cons_zero, List.set_cons_succ]
    refine take_L dOp 8 ?_ (by kernel_rfl) (by kernel_rfl) (by kernel_rfl) (by kernel_rfl) (fun _ _ _ _ _ h => h) (by rfl) hHeld (fun w hSw => ?_) ?_
    rotate_left
    · (try dsimp only at hSw); simp only [nthO]; go_simp; first | done | with_reducible rfl
    simp only [nthO, Act.put, List.setIfInBounds_toArray, List.set_cons_zero, List.set_cons_succ]
    refine take_L dOp 9 ?_ (by kernel_rfl) (by kernel_rfl) (by kernel_rfl) (by kernel_rfl) (fun _ _ _ _ _ h => h) (by rfl) hHeld (fun w hSw => ?_) ?_
    rotate_left
    · (try dsimp only at hSw); simp only [nthO]; go_simp; first | done | with_reducible rfl
    simp only [nthO, Act.put, List.setIfInBounds_toArray, List.set_cons_zero, List.set_cons_succ]
    refine one_L dOp 10 (by kernel_rfl) (by kernel_rfl) (fun K hK => ?_)
    simp only [nthO]
    go_simp
    first
      | (go_at_call 40; refine (cS.out _ ?_).mono ?_; (· first | (with_reducible assumption) | (apply And.right; with_reducible assumption)); rintro r wB ⟨rfl, bB⟩; have mB := HU.out _ bB)
      | go_wp2_with (go_at_call 40; refine (cS.out _ ?_).mono ?_; (· first | (with_reducible assumption) | (apply And.right; with_reducible assumption)); rintro r wB ⟨rfl, bB⟩; have mB := HU.out _ bB)
    try go_wp2_with fail
    refine hK.out _ _ ?_ (fun hHeld2 => ?_)
    · (try dsimp only); exact ⟨by first | (with_reducible assumption) | exact HMD.out, by first | (with_reducible assumption)⟩
    clear hK K hHeld; have hHeld := hHeld2; clear hHeld2
    try simp only [Act.put, List.setIfInBounds_toArray, List.set_cons_zero, List.set_cons_succ]
    refine take_L dOp 11 ?_ (by kernel_rfl) (by kernel_rfl) (by kernel_rfl) (by kernel_rfl) (fun _ _ _ _ _ h => h) (by rfl) hHeld (fun w hSw => ?_) ?_
    rotate_left
    · (try dsimp only at hSw); simp only [nthO]; go_simp; first | done | with_reducible rfl
    simp only [nthO, Act.put, List.setIfInBounds_toArray, List.set_cons_zero, List.set_cons_succ]
    refine take_L dOp 12 ?_ (by kernel_rfl) (by kernel_rfl) (by kernel_rfl) (by kernel_rfl) (fun _ _ _ _ _ h => h) (by rfl) hHeld (fun w hSw => ?_) ?_
    rotate_left
    · (try dsimp only at hSw); simp only [nthO]; go_simp; first | done | with_reducible rfl
    simp only [nthO, Act.put, List.setIfInBounds_toArray, List.set_cons_zero, List.set_cons_succ]
    refine wpAnyH_done (by kernel_rfl) ?_ _
    obtain ⟨ds, dn', df⟩ := HC.out _ bB
    obtain ⟨x1, x2, x3⟩ := HSO.out.1.step bB (by have := HZ.out; have := H5.out; omega) W5.heap.size W5.heap.size (by have := H5.out; omega) pre (zi, ((zk, zt, (z1, z2, z3), zp, zl, zc), zlo, zhi))
    have HX : Hid (KeepsFrom W5.heap.size A (wB.setCell ⟨O, 0, none⟩ (.int .i64 ((zi : Int) + 1))) ∧ KE9 W5.heap.size pre (zi, ((zk, zt, (z1, z2, z3), zp, zl, zc), zlo, zhi)) A (wB.setCell ⟨O, 0, none⟩ (.int .i64 ((zi : Int) + 1))) ∧ So9 w O4 O5 O6 O (.slice (some ⟨bb, off, none⟩) m cb) stop (zi + 1) (wB.setCell ⟨O, 0, none⟩ (.int .i64 ((zi : Int) + 1)))) := ⟨x1, x2, x3⟩
    have no5 : ¬ O5 = O := by have := HZ.out; have := H5.out; omega
    have no6 : ¬ O = O5 := fun h => no5 h.symm
    clear x1 x2 x3 cS HU HC HMD bd mB bB hHeld
    by_cases hq : (zi : Int) + 1 = stop
    · have hqb : ((zi : Int) + 1 == stop) = true := by simpa using hq
      have HQ : Hid ((zi : Int) + 1 = stop) := hq
      clear hq
      gi_wp2
      exact ⟨HX.out.1, rfl, by show So9 _ _ _ _ _ _ _ (pre ++ [_]).length _; rw [List.length_append, HSO.out.2]; exact HX.out.2.2, by show (((pre ++ [_]).length : Nat) : Int) = stop; rw [List.length_append, HSO.out.2]; exact HQ.out⟩
    · have hqb : ((zi : Int) + 1 == stop) = false := by simpa using hq
      clear hq
      gi_wp2
      exact ⟨HX.out.1, HX.out.2.1, by show So9 _ _ _ _ _ _ _ (pre ++ [_]).length _; rw [List.length_append, HSO.out.2]; exact HX.out.2.2⟩
  case stop =>
    rintro D c pre A hD ⟨rfl, hso, hst⟩ hK
    obtain ⟨k, hk⟩ : ∃ k, pre.length = k := ⟨_, rfl⟩
    rw [hk] at hso hst
    have cw : A.cell? ⟨O4, 0, none⟩ = some (.slice pb m cb) := by rw [cell_of_heap hso.a]; rfl
    have cs : A.cell? ⟨O5, 0, none⟩ = some (.int .i64 stop) := by rw [cell_of_heap hso.b]; rfl
    have cn : A.cell? ⟨O, 0, none⟩ = some (.int .i64 k) := by rw [cell_of_heap hso.n]; rfl
    obtain ⟨u6, r6⟩ := hso.c
    have c6 : A.cell? ⟨O6, 0, none⟩ = some u6 := by rw [cell_of_heap r6]; rfl
    have f6 := frozen_of_heap r6 0
    have k1 : ((k : Int) == stop) = true := by simpa using hst
    have hD6 : O6 < D ∧ w.heap.size ≤ O6 ∧ w.heap.size ≤ D := by have := HZ.out; have := H5.out; omega
    have HF : Hid (Below w.heap.size w A ∧ A.heap[O6]? = some (.cells #[u6] 4 (0, 0)) ∧ A.heap[D]? = some (.deferred (some []))) := ⟨hso.below, r6, hK⟩
    have hfin : ∀ tmps : Array Value, tmps[6]? = some (.pointer (some ⟨O6, 0, none⟩)) → bodyPostM Fence.wide 15 Tryz.prog Tryz.f41 (fun r w' => r = .returned (.bool true) ∧ Below w.heap.size w w') Exit.ret { tmps := tmps, defers := [{ target := .collected D, args := #[] }] } (A.setCell ⟨O6, 0, none⟩ (.bool true)) := fun tmps h6 => by
      obtain ⟨k1, k2, k3⟩ := HF.out
      have hK' : (A.setCell ⟨O6, 0, none⟩ (.bool true)).heap[D]? = some (.deferred (some [])) := (Below.heap_setCell _ _ _ _ (show D ≠ O6 by omega)).trans k3
      have q6 : (A.setCell ⟨O6, 0, none⟩ (.bool true)).cell? ⟨O6, 0, none⟩ = some (.bool true) := by
        rw [cell_of_heap (heap_set_at A O6 0 (.bool true) _ _ _ k2)]; rfl
      exact stops_leave _ D O6 _ h6 hK' q6 (by omega) (Tr7.below_put9 (k1.setCell (p := ⟨O6, 0, none⟩) hD6.2.1 _) hK' hD6.2.2)
    have HFF := Hid.mkh hfin
    clear hso hD hK r6 hst hk hfin
    by_cases hkm : k = m
    · have k2 : ((k : Int) == m) = true := by rw [hkm]; exact beq_self_eq_true _
      clear hkm
      gi_wp2
      go_wp2
      exact HFF.out _ rfl
    · have k2 : ((k : Int) == m) = false := by rw [beq_eq_false_iff_ne]; omega
      clear hkm
      gi_wp2
      go_wp2
      exact HFF.out _ rfl
  case done =>
    rintro D xs A hD hS hso hK
    rw [hS, HB.out.1] at hso
    have cw : A.cell? ⟨O4, 0, none⟩ = some (.slice pb m cb) := by rw [cell_of_heap hso.a]; rfl
    have cs : A.cell? ⟨O5, 0, none⟩ = some (.int .i64 stop) := by rw [cell_of_heap hso.b]; rfl
    have cn : A.cell? ⟨O, 0, none⟩ = some (.int .i64 m) := by rw [cell_of_heap hso.n]; rfl
    obtain ⟨u6, r6⟩ := hso.c
    have c6 : A.cell? ⟨O6, 0, none⟩ = some u6 := by rw [cell_of_heap r6]; rfl
    have f6 := frozen_of_heap r6 0
    have k1 : ((m : Int) == m) = true := beq_self_eq_true _
    have hD6 : O6 < D ∧ w.heap.size ≤ O6 ∧ w.heap.size ≤ D := by have := HZ.out; have := H5.out; omega
    have HF : Hid (Below w.heap.size w A ∧ A.heap[O6]? = some (.cells #[u6] 4 (0, 0)) ∧ A.heap[D]? = some (.deferred (some []))) := ⟨hso.below, r6, hK⟩
    clear hso hS hD hK r6
    gi_wp2
    go_wp2
    obtain ⟨k1, k2, k3⟩ := HF.out
    have hK' : (A.setCell ⟨O6, 0, none⟩ (.bool true)).heap[D]? = some (.deferred (some [])) := (Below.heap_setCell _ _ _ _ (show D ≠ O6 by omega)).trans k3
    have q6 : (A.setCell ⟨O6, 0, none⟩ (.bool true)).cell? ⟨O6, 0, none⟩ = some (.bool true) := by
      rw [cell_of_heap (heap_set_at A O6 0 (.bool true) _ _ _ k2)]; rfl
    refine stops_leave _ D O6 _ rfl hK' q6 (by omega) ?_
    exact Tr7.below_put9 (k1.setCell (p := ⟨O6, 0, none⟩) hD6.2.1 _) hK' hD6.2.2
end Go.Proofs.YthfpmhnnjjikcaaGreatDoor
