/- The canonical list while it is made: sizes. The document's deltas: Canonical. The document's answers for ops: empty, Check, Length, apart. The document's deltas: Of. vellummade's Delta and Is, vellumspare's Heavy. What vellumref01.Text answers: the encodings, one behind the other. An operation in memory behind stores. What vellumref04.Cut answers. vellumref07's length and Cut. vellumref07.Cut of a text. vellumref07.Cut of a count. -/
import Derived.Test.YtpmnmlhmeidmeaaGreatDoorMgf
import Derived.Test.YtpmnmlhmeidmeaaGreatDoorMga
import Derived.Test.YtpmnmlhmeidmeaaGreatDoorMge
import Derived.Lib.AppendStr
import Derived.Laws.IdiomStrings
import Derived.Test.YtpmnmlhmeidmeaaGreatDoorSpo
import Derived.Test.YtpmnmlhmeidmeaaGreatDoorMgb
import Derived.Deep.RegionHeld3
import Derived.Deep.DeepCutAuto
import Derived.BigRegion

/- The canonical list while it is made: sizes. -/
namespace Go.Proofs.YtpmnmlhmeidmeaaGreatDoor
open Go Go.RowKit Go.Lib
set_option linter.unusedVariables false

theorem base_jn {x o : Op5} (hk : x.k = o.k) : baseO (jnO x o) = baseO x + baseO o ∨ o.k = 1 ∨ o.k = 2 := by
  by_cases h : o.k = 3 ∨ o.k = 4
  · left
    rw [base_3 h, base_3 (o := x) (by omega), base_3 (o := jnO x o) (by show x.k = 3 ∨ x.k = 4; omega)]
    rfl
  · by_cases h1 : o.k = 1
    · exact Or.inr (Or.inl h1)
    · by_cases h2 : o.k = 2
      · exact Or.inr (Or.inr h2)
      · left
        have e : ∀ y : Op5, y.k = o.k → baseO y = 0 := fun y hy => by unfold baseO; rw [if_neg (by omega)]
        rw [e x hk, e o rfl, e (jnO x o) hk]; rfl
/-- Lists of operations put together bit by bit: sizes. -/
structure PQ (P : List Op5) (T : Nat) (S : Int) (L : Nat) : Prop where
  wel : ∀ x ∈ P, Wel x ∧ x.A.length ≤ 1048576
  txt : txtS P ≤ T
  sum : sumB P ≤ S
  len : P.length ≤ L
theorem PQ.push {P : List Op5} {T L : Nat} {S : Int} {o : Op5} (h : PQ P T S L) (ho : Wel o) (hA : o.A.length ≤ 1048576) : PQ (pushL P o) (T + o.t.size) (S + baseO o) (L + 1) := by
  obtain ⟨s1, s2⟩ := push_size P o
  have h1 := h.txt
  have h2 := h.len
  have h3 := h.sum
  refine ⟨?_, by omega, ?_, by omega⟩
  · rcases List.eq_nil_or_concat P with rfl | ⟨F, x, rfl⟩
    · rw [push_nil]; intro y hy; rw [List.mem_singleton.1 hy]; exact ⟨ho, hA⟩
    · rw [List.concat_eq_append] at h ⊢
      by_cases hj : x.k ≠ o.k ∨ o.k = 2 ∨ x.A ≠ o.A
      · rw [push_apart hj]
        intro y hy
        rcases List.mem_append.1 hy with hy | hy
        · exact h.wel y hy
        · rw [List.mem_singleton.1 hy]; exact ⟨ho, hA⟩
      · rw [push_join hj]
        have hx := h.wel x (List.mem_append_right _ (List.mem_singleton.2 rfl))
        have hk : x.k = o.k := Decidable.byContradiction fun e => hj (Or.inl e)
        have h2' : o.k ≠ 2 := fun e => hj (Or.inr (Or.inl e))
        have hA' : x.A = o.A := Decidable.byContradiction fun e => hj (Or.inr (Or.inr e))
        intro y hy
        rcases List.mem_append.1 hy with hy | hy
        · exact h.wel y (List.mem_append_left _ hy)
        · rw [List.mem_singleton.1 hy]
          exact ⟨(join_wel hx.1 ho hk h2' hA').1, hx.2⟩
  · rcases List.eq_nil_or_concat P with rfl | ⟨F, x, rfl⟩
    · rw [push_nil, sumB_one]; have : sumB ([] : List Op5) = 0 := rfl; omega
    · rw [List.concat_eq_append] at h3 ⊢
      by_cases hj : x.k ≠ o.k ∨ o.k = 2 ∨ x.A ≠ o.A
      · rw [push_apart hj, sumB_append, sumB_one]; omega
      · rw [push_join hj, sumB_append, sumB_one]
        rw [sumB_append, sumB_one] at h3
        have hk : x.k = o.k := Decidable.byContradiction fun e => hj (Or.inl e)
        rcases base_jn hk with e | e | e
        · rw [e]; omega
        · rw [base_1 (o := jnO x o) (by show x.k = 1 ∨ x.k = 2; omega), base_1 (o := o) (Or.inl e)]
          rw [base_1 (o := x) (by omega)] at h3
          omega
        · exact absurd (Or.inr (Or.inl e)) hj
theorem PQ.up {P : List Op5} {T T' L L' : Nat} {S S' : Int} (h : PQ P T S L) (h1 : T ≤ T') (h2 : S ≤ S') (h3 : L ≤ L') : PQ P T' S' L' := ⟨h.wel, Nat.le_trans h.txt h1, Int.le_trans h.sum h2, Nat.le_trans h.len h3⟩
theorem PQ.fold : ∀ (G : List Op5) {P : List Op5} {T L : Nat} {S : Int}, PQ P T S L → (∀ o ∈ G, (Wel o ∧ o.A.length ≤ 1048576) ∧ (o.k = 1 ∨ o.k = 2)) → PQ (G.foldl pushL P) (T + txtS G) S (L + G.length)
  | [], P, T, L, S, h, _ => h
  | o :: r, P, T, L, S, h, hG => by
    obtain ⟨⟨h1, h2⟩, h3⟩ := hG o (List.mem_cons_self ..)
    have hp := h.push h1 h2
    rw [base_1 h3, Int.add_zero] at hp
    have := PQ.fold r hp (fun x hx => hG x (List.mem_cons_of_mem _ hx))
    have e : txtS (o :: r) = o.t.size + txtS r := by simp [txtS]
    rw [e, List.length_cons]
    exact this.up (by omega) (Int.le_refl _) (by omega)
/-- The document's state behind some operations: sizes. -/
structure RunQ (F : List Op5) (s : List Op5 × List Op5 × Int) : Prop where
  out : ∃ T S L, PQ s.1 T S L ∧ T + txtS s.2.1 ≤ txtS F ∧ S + s.2.2 ≤ sumB F ∧ L + s.2.1.length + (if 0 < s.2.2 then 1 else 0) ≤ F.length
  gap : ∀ o ∈ s.2.1, (Wel o ∧ o.A.length ≤ 1048576) ∧ (o.k = 1 ∨ o.k = 2)
  nn : 0 ≤ s.2.2
theorem RunQ.nil : RunQ [] ([], [], 0) := ⟨⟨0, 0, 0, ⟨fun x h => (by cases h), by simp [txtS], by simp [sumB], by simp⟩, by simp [txtS], by simp [sumB], by simp⟩, fun o h => (by cases h), Int.le_refl 0⟩
theorem flush_q {F : List Op5} {s : List Op5 × List Op5 × Int} (h : RunQ F s) : PQ (flushL s.1 s.2.1 s.2.2) (txtS F) (sumB F) F.length := by
  obtain ⟨⟨T, S, L, h1, h2, h3, h4⟩, h5, h6⟩ := h
  have hf := PQ.fold s.2.1 h1 h5
  unfold flushL
  split
  · rename_i h0
    rw [if_pos h0] at h4
    have := hf.push (delO_wel (n := s.2.2) (by omega)) (by show (0 : Nat) ≤ _; omega)
    rw [base_3 (o := delO s.2.2) (Or.inr rfl)] at this
    exact this.up (by show T + txtS s.2.1 + 0 ≤ _; omega) (by show S + s.2.2 ≤ _; omega) (by omega)
  · exact hf.up (by omega) (by omega) (by omega)
theorem RunQ.step {F : List Op5} {s : List Op5 × List Op5 × Int} {o : Op5} (h : RunQ F s) (ho : Wel o) (hA : o.A.length ≤ 1048576) : RunQ (F ++ [o]) (stepC s o) := by
  have e1 := txtS_append F [o]
  have e2 := sumB_append F [o]
  rw [txtS_one] at e1
  rw [sumB_one] at e2
  have e3 : (F ++ [o]).length = F.length + 1 := by simp
  have hq := flush_q h
  have hn := h.nn
  unfold stepC
  rcases ho.kinds with hk | hk | hk | hk
  · rw [if_pos (Or.inl hk)]
    rw [base_1 (Or.inl hk)] at e2
    obtain ⟨T, S, L, h1, h2, h3, h4⟩ := h.out
    refine ⟨⟨T, S, L, h1, ?_, by show S + s.2.2 ≤ _; omega, ?_⟩, fun x hx => ?_, hn⟩
    · show T + txtS (s.2.1 ++ [o]) ≤ _; rw [txtS_append, txtS_one]; omega
    · show L + (s.2.1 ++ [o]).length + _ ≤ _; rw [List.length_append]; simp only [List.length_singleton]; omega
    · rcases List.mem_append.1 hx with hx | hx
      · exact h.gap x hx
      · rw [List.mem_singleton.1 hx]; exact ⟨⟨ho, hA⟩, Or.inl hk⟩
  · rw [if_pos (Or.inr hk)]
    rw [base_1 (Or.inr hk)] at e2
    obtain ⟨T, S, L, h1, h2, h3, h4⟩ := h.out
    refine ⟨⟨T, S, L, h1, ?_, by show S + s.2.2 ≤ _; omega, ?_⟩, fun x hx => ?_, hn⟩
    · show T + txtS (s.2.1 ++ [o]) ≤ _; rw [txtS_append, txtS_one]; omega
    · show L + (s.2.1 ++ [o]).length + _ ≤ _; rw [List.length_append]; simp only [List.length_singleton]; omega
    · rcases List.mem_append.1 hx with hx | hx
      · exact h.gap x hx
      · rw [List.mem_singleton.1 hx]; exact ⟨⟨ho, hA⟩, Or.inr hk⟩
  · rw [if_neg (by omega), if_neg (by omega)]
    have hp := hq.push ho hA
    exact ⟨⟨_, _, _, hp, by show txtS F + o.t.size + txtS [] ≤ _; rw [show txtS [] = 0 from rfl]; omega, by show sumB F + baseO o + 0 ≤ _; omega, by show F.length + 1 + 0 + (if (0 : Int) < 0 then 1 else 0) ≤ _; simp⟩, fun x hx => (by cases hx), Int.le_refl 0⟩
  · rw [if_neg (by omega), if_pos hk]
    rw [base_3 (Or.inr hk)] at e2
    have hc := ho.count (Or.inr hk)
    obtain ⟨T, S, L, h1, h2, h3, h4⟩ := h.out
    refine ⟨⟨T, S, L, h1, by show T + txtS s.2.1 ≤ _; omega, by show S + (s.2.2 + o.c) ≤ _; omega, ?_⟩, h.gap, by show 0 ≤ s.2.2 + o.c; omega⟩
    show L + s.2.1.length + (if 0 < s.2.2 + o.c then 1 else 0) ≤ _
    rw [if_pos (by omega)]; omega
theorem runC_snoc (F : List Op5) (o : Op5) : runC (F ++ [o]) = stepC (runC F) o := by unfold runC; rw [List.foldl_append]; rfl
theorem runQ_take {E : List Op5} (h : OkE E) : ∀ k, k ≤ E.length → RunQ (E.take k) (runC (E.take k)) := fun k => by
  induction k with
  | zero => intro _; rw [List.take_zero]; exact RunQ.nil
  | succ k ih =>
    intro hk
    have he : E[k]? = some E[k] := List.getElem?_eq_getElem (by omega)
    have hm : E[k] ∈ E := List.getElem_mem _
    rw [List.take_add_one, he, Option.toList_some, runC_snoc]
    exact (ih (by omega)).step (h.wel _ hm) (h.fit _ hm).n
/-- What push asks of the operations ahead. -/
theorem PQ.ask {P : List Op5} {T L : Nat} {S : Int} (h : PQ P T S L) (hT : T ≤ 8388608) (hS : S ≤ 2199023255552) : ∀ x ∈ P, Wel x ∧ x.A.length ≤ 2097152 ∧ x.t.size ≤ 8388608 ∧ x.c ≤ 2199023255552 := fun x hx => by
  obtain ⟨h1, h2⟩ := h.wel x hx
  have h3 := txtS_mem hx
  have h4 := h.txt
  have h5 := h.sum
  have h6 := cnt_le (fun y hy => (h.wel y hy).1) hx
  exact ⟨h1, by omega, by omega, by omega⟩
end Go.Proofs.YtpmnmlhmeidmeaaGreatDoor

/- The document's deltas: Canonical. -/
namespace Go.Proofs.YtpmnmlhmeidmeaaGreatDoor
open Go Go.RowKit Go.Lib
set_option linter.unusedVariables false

/-- Two rows of the call's own, apart. -/
structure CanS (w0 wc W : World) (vo vg : Value) (PO PG : List Op5) : Prop where
  out : ∃ D, OwnO W wc.heap.size vo D ∧ ReD w0 D PO
  gap : ∃ D, OwnO W wc.heap.size vg D ∧ ReD w0 D PG
  apart : ∀ k, vo.ownBlock = some k → vg.ownBlock ≠ some k
  below : Below wc.heap.size wc W
  base : Below w0.heap.size w0 wc
theorem CanS.keep {w0 wc W W' : World} {vo vg : Value} {PO PG : List Op5} (h : CanS w0 wc W vo vg PO PG) (b : Below W.heap.size W W') : CanS w0 wc W' vo vg PO PG := by
  obtain ⟨D, a1, a2⟩ := h.out
  obtain ⟨G, b1, b2⟩ := h.gap
  exact ⟨⟨D, owns_below a1 b, a2⟩, ⟨G, owns_below b1 b, b2⟩, h.apart, h.below.trans (b.mono h.below.size), h.base⟩
theorem CanS.pushed {w0 wc W W' : World} {vo vg : Value} {PO PG P : List Op5} {e : Ending} (h : CanS w0 wc W vo vg PO PG) (r : PushR w0 wc.heap.size W W' vo e P) : ∃ v', e = .returned v' ∧ CanS w0 wc W' v' vg P PG := by
  obtain ⟨v', D', rfl, h1, h2, h3, h4⟩ := r
  obtain ⟨D, a1, a2⟩ := h.out
  obtain ⟨G, b1, b2⟩ := h.gap
  have hlt : ∀ k, vg.ownBlock = some k → k < W.heap.size := fun k hk => by
    obtain ⟨_, cur, hc⟩ := owns_block b1 k hk
    exact (Array.getElem?_eq_some_iff.1 hc).1
  refine ⟨v', rfl, ⟨D', h1, h2⟩, ⟨G, owns_same b1 fun k hk => h3.block k (hlt k hk) (fun e => h.apart k e hk), b2⟩, fun k hk hg => ?_, ?_, h.base⟩
  · rcases h4 with h4 | ⟨j, h4, h5⟩
    · exact h.apart k (h4 ▸ hk) hg
    · rw [h4] at hk
      obtain rfl : j = k := Option.some.inj hk
      have := hlt j hg
      omega
  · have := h3.below (B := wc.heap.size) h.below.size (fun k hk => (owns_block a1 k hk).1)
    exact h.below.trans this
theorem CanS.gapped {w0 wc W w8 : World} {vo vg v8 : Value} {PO PG : List Op5} {e : Op5} {sp : Option Addr} {sl sc : Nat} (h : CanS w0 wc W vo vg PO PG) {D : List OV} (hD : ReD w0 D PG) (hr : RN w0 (.slice sp sl sc) e.A) (h1 : OwnO w8 wc.heap.size v8 (D ++ [(e.k, e.t, e.v, e.c, (sp, sl, sc))])) (gr : W.grownBy w8 vg.ownBlock) (hat : v8.ownBlock = vg.ownBlock ∨ v8.ownBlock = some W.heap.size) : CanS w0 wc w8 vo v8 PO (PG ++ [e]) := by
  obtain ⟨DO, a1, a2⟩ := h.out
  obtain ⟨G, b1, b2⟩ := h.gap
  have hlt : ∀ k, vo.ownBlock = some k → k < W.heap.size := fun k hk => by
    obtain ⟨_, cur, hc⟩ := owns_block a1 k hk
    exact (Array.getElem?_eq_some_iff.1 hc).1
  refine ⟨⟨DO, owns_same a1 fun k hk => gr.block k (hlt k hk) (fun e => h.apart k hk e.symm), a2⟩, ⟨_, h1, forall2_append hD (.cons ⟨rfl, rfl, rfl, rfl, hr⟩ .nil)⟩, fun k hk hg => ?_, ?_, h.base⟩
  · rcases hat with e | e
    · exact h.apart k hk (e ▸ hg)
    · rw [e] at hg
      obtain rfl : W.heap.size = k := Option.some.inj hg
      have := hlt _ hk
      omega
  · exact h.below.grown gr h.below.size (fun k hk => (owns_block b1 k hk).1)
theorem CanS.cleared {w0 wc W : World} {vo vg : Value} {PO PG : List Op5} (h : CanS w0 wc W vo vg PO PG) : CanS w0 wc W vo (.slice none 0 0) PO [] :=
  ⟨h.out, ⟨[], ⟨rfl, Or.inl ⟨rfl, rfl⟩⟩, .nil⟩, fun k _ h => (by cases h), h.below, h.base⟩
theorem CanS.len {w0 wc W : World} {vo vg : Value} {PO PG : List Op5} (h : CanS w0 wc W vo vg PO PG) : ∃ p c, vg = .slice p PG.length c := by
  obtain ⟨G, b1, b2⟩ := h.gap
  obtain ⟨p, c, e⟩ := own_slice b1
  exact ⟨p, c, by rw [e, forall2_len b2]⟩
theorem CanS.read {w0 wc W : World} {vo : Value} {PO PG : List Op5} {p : Option Addr} {l c : Nat} (h : CanS w0 wc W vo (.slice p l c) PO PG) (j : Nat) (hj : j < PG.length) : ∃ (e : Op5) (b : Nat) (sp : Option Addr) (sl sc : Nat), PG[j]? = some e ∧ p = some ⟨b, 0, none⟩ ∧ OpAt W b (0 + j * 7) (e.k, e.t, e.v, e.c, (sp, sl, sc)) ∧ RN w0 (.slice sp sl sc) e.A := by
  obtain ⟨G, b1, b2⟩ := h.gap
  have hl := forall2_len b2
  obtain ⟨d, hd⟩ : ∃ d, G[j]? = some d := ⟨_, List.getElem?_eq_getElem (by omega)⟩
  obtain ⟨e, he, h1, h2, h3, h4, h5⟩ := forall2_get b2 j d hd
  obtain ⟨dk, dt, dv, dc, sp, sl, sc⟩ := d
  simp only at h1 h2 h3 h4
  subst h1; subst h2; subst h3; subst h4
  obtain ⟨q, cc, hv⟩ := own_slice b1
  rcases b1.2 with ⟨_, h0⟩ | ⟨g, cap, cur, e1, _⟩
  · omega
  · cases e1
    exact ⟨e, g, sp, sl, sc, he, rfl, own_opAt b1 j _ hd, h5⟩
/-- push on the rows. -/
theorem push_can {w0 wc W : World} {vo vg : Value} {PO PG : List Op5} {T L : Nat} {S : Int} (o : Op5) (sp : Option Addr) (sl sc : Nat) (h : CanS w0 wc W vo vg PO PG) (ho : RN w0 (.slice sp sl sc) o.A) (q : PQ PO T S L) (hT : T ≤ 8388608) (hS : S ≤ 2199023255552) (hL : L ≤ 4194304) (how : Wel o) (hn2 : o.A.length ≤ 1048576) (hot : o.t.size ≤ 8388608) (hoc : o.c ≤ 2199023255552) :
    Calls Tryz.prog 45 #[vo, opV o (.slice sp sl sc)] W fun e w' => ∃ v', e = .returned v' ∧ CanS w0 wc w' v' vg (pushL PO o) PG := by
  obtain ⟨D, a1, a2⟩ := h.out
  have hl := q.len
  exact (push6_any vo D PO o sp sl sc W h.below.size (h.base.trans (h.below.mono h.base.size)) a1 a2 ho (by omega) (q.ask hT hS) how (by omega) hot hoc).mono fun e w' r => h.pushed r
/-- The sizes while a gap is put behind. -/
theorem RunQ.fold {F : List Op5} {s : List Op5 × List Op5 × Int} (h : RunQ F s) (j : Nat) : PQ ((s.2.1.take j).foldl pushL s.1) (txtS F) (sumB F) F.length := by
  obtain ⟨⟨T, S, L, h1, h2, h3, h4⟩, h5, h6⟩ := h
  have hf := PQ.fold (s.2.1.take j) h1 (fun o ho => h5 o (List.mem_of_mem_take ho))
  have e1 := txtS_take s.2.1 j
  have e2 : (s.2.1.take j).length ≤ s.2.1.length := by rw [List.length_take]; omega
  exact hf.up (by omega) (by omega) (by split at h4 <;> omega)
/-- The state ahead of the m-th round. -/
def stA (E : List Op5) (m : Nat) : List Op5 × List Op5 × Int := if m ≤ E.length then runC (E.take m) else (flushL (runC E).1 (runC E).2.1 (runC E).2.2, [], 0)
theorem stA_end (E : List Op5) : stA E (E.length + 1) = (flushL (runC E).1 (runC E).2.1 (runC E).2.2, [], 0) := by unfold stA; rw [if_neg (by omega)]
theorem stA_at {E : List Op5} {m : Nat} (h : m ≤ E.length) : stA E m = runC (E.take m) := by unfold stA; rw [if_pos h]
theorem stA_succ {E : List Op5} {m : Nat} {e : Op5} (h : E[m]? = some e) : stA E (m + 1) = stepC (stA E m) e := by
  have hm : m < E.length := (List.getElem?_eq_some_iff.1 h).1
  rw [stA_at (by omega), stA_at (by omega), List.take_add_one, h, Option.toList_some, runC_snoc]
theorem stA_ins {E : List Op5} {m : Nat} {e : Op5} (h : E[m]? = some e) (hk : e.k = 1 ∨ e.k = 2) : stA E (m + 1) = ((stA E m).1, (stA E m).2.1 ++ [e], (stA E m).2.2) := by rw [stA_succ h]; unfold stepC; rw [if_pos hk]
theorem stA_del {E : List Op5} {m : Nat} {e : Op5} (h : E[m]? = some e) (hk : e.k = 4) : stA E (m + 1) = ((stA E m).1, (stA E m).2.1, (stA E m).2.2 + e.c) := by rw [stA_succ h]; unfold stepC; rw [if_neg (by omega), if_pos hk]
theorem stA_ret {E : List Op5} {m : Nat} {e : Op5} (h : E[m]? = some e) (hk : e.k = 3) : stA E (m + 1) = (pushL (flushL (stA E m).1 (stA E m).2.1 (stA E m).2.2) e, [], 0) := by rw [stA_succ h]; unfold stepC; rw [if_neg (by omega), if_neg (by omega)]
theorem trim_nil : trimL [] = [] := rfl
theorem trim_yes {F : List Op5} {x : Op5} (h : plainR x = true) : trimL (F ++ [x]) = F := by unfold trimL; rw [List.getLast?_concat]; simp only; rw [if_pos h, List.dropLast_concat]
theorem trim_no {F : List Op5} {x : Op5} (h : plainR x = false) : trimL (F ++ [x]) = F ++ [x] := by unfold trimL; rw [List.getLast?_concat]; simp only; rw [if_neg (by simp [h])]
/-- The sizes of the state ahead of the m-th round. -/
theorem stA_q {E : List Op5} (h : OkE E) {m : Nat} (hm : m ≤ E.length) : (∀ j, PQ (((stA E m).2.1.take j).foldl pushL (stA E m).1) 8388608 1099511627776 4194304) ∧ PQ (flushL (stA E m).1 (stA E m).2.1 (stA E m).2.2) 8388608 1099511627776 4194304 ∧ (∀ o ∈ (stA E m).2.1, Wel o ∧ o.A.length ≤ 1048576 ∧ o.t.size ≤ 8388608 ∧ o.c ≤ 2199023255552) ∧ 0 ≤ (stA E m).2.2 ∧ (stA E m).2.2 ≤ 1099511627776 ∧ (stA E m).2.1.length ≤ 4194304 := by
  rw [stA_at hm]
  have q := runQ_take h m hm
  have t1 := txtS_take E m
  have t2 := h.txt
  have t3 := h.len
  have t4 : (E.take m).length ≤ E.length := by rw [List.length_take]; omega
  have t5 : sumB (E.take m) ≤ sumB E := by
    have := sumB_append (E.take m) (E.drop m)
    rw [List.take_append_drop] at this
    have := (sums_nn (E := E.drop m) (fun o ho => h.wel o (List.mem_of_mem_drop ho))).1
    omega
  have t6 := h.base
  obtain ⟨⟨T, S, L, h1, h2, h3, h4⟩, h5, h6⟩ := q
  have hS : 0 ≤ S := by
    have := (sums_nn (E := (runC (E.take m)).1) (fun o ho => (h1.wel o ho).1)).1
    have := h1.sum
    omega
  have q := runQ_take h m hm
  refine ⟨fun j => (q.fold j).up (by omega) (by omega) (by omega), (flush_q q).up (by omega) (by omega) (by omega), fun o ho => ?_, h6, by omega, by split at h4 <;> omega⟩
  obtain ⟨⟨a1, a2⟩, a3⟩ := h5 o ho
  have := txtS_mem ho
  refine ⟨a1, a2, by omega, ?_⟩
  rcases a1 with ⟨hi, _⟩ | ⟨b, _⟩ | ⟨b, _⟩
  · rw [hi.count]; omega
  · omega
  · omega
/-- A row of operations in a block from a mark on. -/
def FarO (w : World) (B : Nat) (v : Value) (D : List OV) : Prop :=
  ∃ p cap, v = .slice p D.length cap ∧ D.length ≤ cap ∧ (p = none → cap = 0) ∧ ∀ (j : Nat) (d : OV), D[j]? = some d → ∃ b off, p = some ⟨b, off, none⟩ ∧ B ≤ b ∧ OpAt w b (off + j * 7) d
theorem FarO.row {w : World} {B : Nat} {v : Value} {D : List OV} (h : FarO w B v D) : RowO w v D := by
  obtain ⟨p, cap, h1, h2, h3, h4⟩ := h
  exact ⟨p, cap, h1, h2, h3, fun j d hd => by obtain ⟨b, off, a1, _, a2⟩ := h4 j d hd; exact ⟨b, off, a1, a2⟩⟩
theorem FarO.below {w w' : World} {B : Nat} {v : Value} {D : List OV} (h : FarO w B v D) (hb : Below w.heap.size w w') : FarO w' B v D := by
  obtain ⟨p, cap, h1, h2, h3, h4⟩ := h
  exact ⟨p, cap, h1, h2, h3, fun j d hd => by obtain ⟨b, off, a1, a0, a2⟩ := h4 j d hd; exact ⟨b, off, a1, a0, a2.below hb⟩⟩
theorem FarO.weaken {w : World} {B C : Nat} {v : Value} {D : List OV} (h : FarO w B v D) (hc : C ≤ B) : FarO w C v D := by
  obtain ⟨p, cap, h1, h2, h3, h4⟩ := h
  exact ⟨p, cap, h1, h2, h3, fun j d hd => by obtain ⟨b, off, a1, a0, a2⟩ := h4 j d hd; exact ⟨b, off, a1, Nat.le_trans hc a0, a2⟩⟩
theorem far_own {w : World} {B : Nat} {v : Value} {D F : List OV} {n cap : Nat} {p : Option Addr} (h : OwnO w B v D) (hv : v = .slice p n cap) (hF : ∀ (j : Nat) (d : OV), F[j]? = some d → D[j]? = some d) (hl : F.length ≤ D.length) : FarO w B (.slice p F.length cap) F := by
  rcases h.2 with ⟨e1, h0⟩ | ⟨g, c, cur, e1, h2, h3, h4, h5⟩
  · rw [hv] at e1
    simp only [Value.slice.injEq] at e1
    obtain ⟨rfl, _, rfl⟩ := e1
    obtain rfl : F = [] := List.eq_nil_of_length_eq_zero (by omega)
    exact ⟨none, 0, rfl, Nat.le_refl _, fun _ => rfl, fun j d hd => (by simp at hd)⟩
  · rw [hv] at e1
    simp only [Value.slice.injEq] at e1
    obtain ⟨rfl, rfl, rfl⟩ := e1
    rw [hv] at h
    exact ⟨_, cap, rfl, by omega, fun h => (by cases h), fun j d hd => ⟨g, 0, rfl, h2, own_opAt h j d (hF j d hd)⟩⟩
set_option maxHeartbeats 40000000 in
set_option maxRecDepth 100000 in
theorem canon6_any {w0 : World} (va : Value) (D0 : List OV) (E : List Op5) (w : World) (hb0 : Below w0.heap.size w0 w) (hrow : RowO w va D0) (hre : ReD w0 D0 E) (ok : OkE E) :
    Calls Tryz.prog 11 #[va] w fun r w' => ∃ v', r = .returned v' ∧ (∃ D', FarO w' w.heap.size v' D' ∧ ReD w0 D' (canonL E)) ∧ Below w.heap.size w w' := by
  have hDE := forall2_len hre
  obtain ⟨n, hn⟩ : ∃ n, E.length = n := ⟨_, rfl⟩
  obtain ⟨p, cap, rfl, hcap, hnz, hc⟩ := hrow
  have HR : Hid (∀ k, k < n → ∃ (e : Op5) (b off : Nat) (sp : Option Addr) (sl sc : Nat), E[k]? = some e ∧ p = some ⟨b, off, none⟩ ∧ OpAt w b (off + k * 7) (e.k, e.t, e.v, e.c, (sp, sl, sc)) ∧ RN w0 (.slice sp sl sc) e.A) := fun k hk => by
    obtain ⟨d, hd⟩ : ∃ d, D0[k]? = some d := ⟨_, List.getElem?_eq_getElem (by omega)⟩
    obtain ⟨e, he, h1, h2, h3, h4, h5⟩ := forall2_get hre k d hd
    obtain ⟨b, off, hp, hat⟩ := hc k d hd
    obtain ⟨dk, dt, dv, dc, sp, sl, sc⟩ := d
    simp only at h1 h2 h3 h4
    subst h1; subst h2; subst h3; subst h4
    exact ⟨e, b, off, sp, sl, sc, he, hp, hat, h5⟩
  have HN : Hid (E.length = n ∧ OkE E) := ⟨hn, ok⟩
  have hnl : n ≤ 4194304 := by have := ok.len; omega
  rw [hDE, hn] at hcap ⊢
  clear hc hDE hre hnz ok hn
  have hcs : CanS w0 w ((w.alloc (.cells #[] 33)).alloc (.cells #[] 33)) (.slice (some ⟨w.heap.size, 0, none⟩) 0 0) (.slice (some ⟨w.heap.size + 1, 0, none⟩) 0 0) [] [] := by
    have o1 := own_emptyO w w.heap.size (Nat.le_refl _)
    have b1 := (Below.refl w.heap.size w).alloc (Nat.le_refl _) (.cells #[] 33)
    have s1 : (w.alloc (.cells #[] 33)).heap.size = w.heap.size + 1 := by simp
    have o2 := own_emptyO (w.alloc (.cells #[] 33)) w.heap.size (by omega)
    rw [s1] at o2
    refine ⟨⟨[], owns_below o1 ((Below.refl _ _).alloc (Nat.le_refl _) _), .nil⟩, ⟨[], o2, .nil⟩, fun k h1 h2 => ?_, b1.alloc b1.size _, hb0⟩
    have e1 : w.heap.size = k := Option.some.inj h1
    have e2 : w.heap.size + 1 = k := Option.some.inj h2
    omega
  have HS0 : Hid (CanS w0 w ((w.alloc (.cells #[] 33)).alloc (.cells #[] 33)) (.slice (some ⟨w.heap.size, 0, none⟩) 0 0) (.slice (some ⟨w.heap.size + 1, 0, none⟩) 0 0) (stA E 0).1 (stA E 0).2.1) := by
    rw [stA_at (Nat.zero_le _), List.take_zero]; exact hcs
  have hz0 : (0 : Int) = (stA E 0).2.2 := by rw [stA_at (Nat.zero_le _), List.take_zero]; rfl
  clear hcs
  go_enter Tryz.func11, Tryz.ntmps11
  go_wp2
  obtain ⟨W0, hW0⟩ : ∃ W, W = (w.alloc (.cells #[] 33)).alloc (.cells #[] 33) := ⟨_, rfl⟩
  obtain ⟨vo0, hvo0⟩ : ∃ v : Value, v = .slice (some ⟨w.heap.size, 0, none⟩) 0 0 := ⟨_, rfl⟩
  obtain ⟨vg0, hvg0⟩ : ∃ v : Value, v = .slice (some ⟨w.heap.size + 1, 0, none⟩) 0 0 := ⟨_, rfl⟩
  rw [← hW0, ← hvo0, ← hvg0] at HS0
  try rw [← hW0]
  try rw [← hvo0]
  try rw [← hvg0]
  clear hW0 hvo0 hvg0
  go_loopw [3, 4, 5, 6] (fun vo vg g i wr => ∃ (m : Nat), m ≤ n + 1 ∧ i = .int .i64 m ∧ g = .int .i64 (stA E m).2.2 ∧ Hid (CanS w0 w wr vo vg (stA E m).1 (stA E m).2.1)) (fun _ _ _ i _ => n + 1 - (RowKit.intOf i).toNat)
  case atStart => exact ⟨0, Nat.zero_le _, rfl, by rw [← hz0], HS0⟩
  case round =>
    clear HS0 hz0
    obtain ⟨m, hm, rfl, rfl, HS⟩ := hrel
    by_cases hlt : m < n
    · have hltI : (m : Int) < n := by omega
      have hleI : (m : Int) ≤ n := by omega
      have hge0 : (0 : Int) ≤ (m : Int) := by omega
      obtain ⟨e, b, off, sp, sl, sc, he, rfl, hat, hrn⟩ := HR.out m hlt
      obtain ⟨c0, c1, c2, c3, c4, c5, c6⟩ := hat.below HS.out.below
      have how := HN.out.2.wel e (List.mem_of_getElem? he)
      have hA := (HN.out.2.fit e (List.mem_of_getElem? he)).n
      have ht : e.t.size ≤ 8388608 := by have := txtS_mem (List.mem_of_getElem? he); have := HN.out.2.txt; omega
      have hq := stA_q HN.out.2 (m := m) (by have := HN.out.1; omega)
      have hec : e.c ≤ 2199023255552 := by
        have := HN.out.2.base
        rcases cnt_le HN.out.2.wel (List.mem_of_getElem? he) with h1 | h1 <;> omega
      have HF : Hid (RN w0 (.slice sp sl sc) e.A ∧ Wel e ∧ e.A.length ≤ 1048576 ∧ e.t.size ≤ 8388608 ∧ e.c ≤ 2199023255552) := ⟨hrn, how, hA, ht, hec⟩
      have HQ := Hid.mk' hq
      have cI := ins6_any e sp sl sc wr
      rcases (show (e.k = 1 ∨ e.k = 2) ∨ e.k = 3 ∨ e.k = 4 by rcases how.kinds with h | h | h | h <;> omega) with hk | hk | hk
      · have HNX := Hid.mk' (stA_ins he hk)
        have cI0 : decide (e.k = 1 ∨ e.k = 2) = true := decide_eq_true (by omega)
        rw [cI0] at cI
        have HG : Hid (∀ W, Below wr.heap.size wr W → ∃ D, D.length ≤ 33554432 ∧ OpAt (W.alloc (.cells (opC e (.slice sp sl sc)) 33)) W.heap.size 0 (e.k, e.t, e.v, e.c, (sp, sl, sc)) ∧ OwnO (W.alloc (.cells (opC e (.slice sp sl sc)) 33)) w.heap.size u4 D ∧ w.heap.size ≤ (W.alloc (.cells (opC e (.slice sp sl sc)) 33)).heap.size ∧ ∀ v8 w8, OwnO w8 w.heap.size v8 (D ++ [(e.k, e.t, e.v, e.c, (sp, sl, sc))]) → (W.alloc (.cells (opC e (.slice sp sl sc)) 33)).grownBy w8 u4.ownBlock → (v8.ownBlock = u4.ownBlock ∨ v8.ownBlock = some (W.alloc (.cells (opC e (.slice sp sl sc)) 33)).heap.size) → CanS w0 w w8 u3 v8 (stA E (m + 1)).1 (stA E (m + 1)).2.1) := fun W hW => by
          have h := HS.out.keep hW
          have hk := h.keep ((Below.refl W.heap.size W).alloc (Nat.le_refl _) (.cells (opC e (.slice sp sl sc)) 33))
          obtain ⟨D, d1, d2⟩ := hk.gap
          have hl := forall2_len d2
          have := hq.2.2.2.2.2
          refine ⟨D, by omega, ⟨by simp [opC], by simp [opC], by simp [opC], by simp [opC], by simp [opC], by simp [opC], by simp [opC]⟩, d1, hk.below.size, fun v8 w8 a1 a2 a3 => ?_⟩
          rw [HNX.out]; exact hk.gapped d2 hrn a1 a2 a3
        have H2 : Hid ((stA E (m + 1)).2.2 = (stA E m).2.2) := by show _ = _; rw [HNX.out]
        obtain ⟨g, hg⟩ : ∃ x, (stA E m).2.2 = x := ⟨_, rfl⟩
        rw [hg] at H2 ⊢
        clear cI0 HQ hq hrn how hA ht hec hat he HF HNX HS hg
        obtain ⟨k, t, ⟨xx, nn, u⟩, cc, A⟩ := e
        simp only [slV] at c0 c1 c2 c3 c4 c5 c6 cI
        go_wp2_with fail
        refine cI.mono ?_; rintro r w1 ⟨rfl, hb1⟩
        have d0 := (hb1.cell (lt_of_cell c0)).trans c0
        have d1 := (hb1.cell (lt_of_cell c1)).trans c1
        have d2 := (hb1.cell (lt_of_cell c2)).trans c2
        have d3 := (hb1.cell (lt_of_cell c3)).trans c3
        have d4 := (hb1.cell (lt_of_cell c4)).trans c4
        have d5 := (hb1.cell (lt_of_cell c5)).trans c5
        have d6 := (hb1.cell (lt_of_cell c6)).trans c6
        obtain ⟨D, hD1, hD2, hD3, hD4, hD5⟩ := HG.out w1 hb1
        have HD5 := Hid.mk' hD5
        clear cI HG hD5 c0 c1 c2 c3 c4 c5 c6 hb1
        go_wp2_with (at_builtin; refine wpList_append_ops rfl (.tmp 28) (.tmp 33) rfl w.heap.size u4 D rfl hD3 _ 1 _ rfl hD2 hD1 hD4 ?_; intro v8 w8 own8 gr8 hat8; have HS2 := Hid.mk' (HD5.out v8 w8 own8 gr8 hat8); clear own8 gr8 hat8 HD5 hD1 hD2 hD3 hD4 d0 d1 d2 d3 d4 d5 d6)
        go_roundw
        case rel => exact ⟨m + 1, by omega, by go_num, by rw [H2.out], HS2⟩
        case measure => simp [RowKit.intOf]; omega
      · have HNX := Hid.mk' (stA_ret he hk)
        have cI0 : decide (e.k = 1 ∨ e.k = 2) = false := decide_eq_false (by omega)
        rw [cI0] at cI
        have HBE : Hid (∀ W, Below w.heap.size w W → OpAt W b (off + m * 7) (e.k, e.t, e.v, e.c, (sp, sl, sc))) := fun W hW => hat.below hW
        clear cI0 hq hrn how hA ht hec hat he
        obtain ⟨PO, hPO⟩ : ∃ x, (stA E m).1 = x := ⟨_, rfl⟩
        obtain ⟨PG, hPG⟩ : ∃ x, (stA E m).2.1 = x := ⟨_, rfl⟩
        obtain ⟨g, hg⟩ : ∃ x, (stA E m).2.2 = x := ⟨_, rfl⟩
        rw [hPO, hPG, hg] at HNX HQ
        rw [hPO, hPG] at HS
        rw [hg]
        clear hPO hPG hg
        have hg2 := HQ.out.2.2.2.2.1
        have hg1 := HQ.out.2.2.2.1
        obtain ⟨k, t, ⟨xx, nn, u⟩, cc, A⟩ := e
        simp only [slV] at hk c0 c1 c2 c3 c4 c5 c6 cI HBE
        subst hk
        go_wp2_with fail
        refine cI.mono ?_; rintro r w1 ⟨rfl, hb1⟩
        have c0' := (hb1.cell (lt_of_cell c0)).trans c0
        obtain ⟨pg, cg, rfl⟩ := HS.out.len
        have H1 : Hid (CanS w0 w w1 u3 (.slice pg PG.length cg) PO PG) := HS.out.keep hb1
        obtain ⟨lg, hlg⟩ : ∃ x, PG.length = x := ⟨_, rfl⟩
        have HLG : Hid (PG.length = lg) := hlg
        have hlg4 : lg ≤ 4194304 := by have := HQ.out.2.2.2.2.2; omega
        rw [hlg] at H1 ⊢
        clear hlg cI HS c0 c1 c2 c3 c4 c5 c6 hb1
        go_wp2
        go_loopw [3, 56] (fun vo i wr2 => ∃ (j : Nat), j ≤ lg ∧ i = .int .i64 j ∧ Hid (CanS w0 w wr2 vo (.slice pg lg cg) ((PG.take j).foldl pushL PO) PG)) (fun _ i _ => lg - (RowKit.intOf i).toNat)
        case atStart => exact ⟨0, Nat.zero_le _, rfl, by rw [List.take_zero]; exact H1⟩
        case round =>
          clear H1
          obtain ⟨j, hj, rfl, H1⟩ := hrel
          by_cases hjl : j < lg
          · have hjI : (j : Int) < lg := by omega
            have hj0 : (0 : Int) ≤ (j : Int) := by omega
            obtain ⟨e', gg, sp', sl', sc', he', rfl, hat', hrn'⟩ := H1.out.read j (by rw [HLG.out]; exact hjl)
            obtain ⟨d0, d1, d2, d3, d4, d5, d6⟩ := hat'
            rw [Nat.zero_add] at d0 d1 d2 d3 d4 d5 d6
            have HB := H1.out.keep ((Below.refl wr.heap.size wr).alloc (Nat.le_refl _) (.cells (opC e' (.slice sp' sl' sc')) 33))
            obtain ⟨a1, a2, a3, a4⟩ := HQ.out.2.2.1 e' (List.mem_of_getElem? he')
            have cP := push_can e' sp' sl' sc' HB hrn' (HQ.out.1 j) (Nat.le_refl _) (by decide) (Nat.le_refl _) a1 a2 a3 a4
            have hP2 : pushL ((PG.take j).foldl pushL PO) e' = (PG.take (j + 1)).foldl pushL PO := by rw [List.take_add_one, he', List.foldl_append]; rfl
            rw [hP2] at cP
            clear HB a1 a2 a3 a4 H1 hrn' he' hP2
            obtain ⟨k', t', ⟨x', n', u'⟩, c', A'⟩ := e'
            simp only [opC, slV] at d0 d1 d2 d3 d4 d5 d6 cP
            go_wp2_with fail
            refine cP.mono ?_; rintro r w5 ⟨v5, rfl, h5⟩
            have H5 := Hid.mk' h5
            clear cP d0 d1 d2 d3 d4 d5 d6 h5
            go_wp2
            go_roundw
            case rel => exact ⟨j + 1, by omega, by go_num, H5⟩
            case measure => simp [RowKit.intOf]; omega
          · obtain rfl : j = lg := by omega
            have hjI : ¬ (j : Int) < j := by omega
            have hq1 := HQ.out.1 j
            rw [show PG.take j = PG by have := HLG.out; rw [← this, List.take_length]] at H1 hq1
            by_cases hgp : 0 < g
            · have cP := push_can (delO g) none 0 0 H1.out (RN.nil w0) hq1 (Nat.le_refl _) (by decide) (Nat.le_refl _) (delO_wel (by omega)) (by show (0 : Nat) ≤ _; omega) (by show (0 : Nat) ≤ _; omega) (by show g ≤ _; omega)
              have hfl : pushL (PG.foldl pushL PO) (delO g) = flushL PO PG g := by unfold flushL; rw [if_pos hgp]
              rw [hfl] at cP
              simp only [delO] at cP
              clear hq1 H1 hfl
              go_wp2_with fail
              refine cP.mono ?_; rintro r w5 ⟨v5, rfl, h5⟩
              have H5 := Hid.mk' h5.cleared
              clear cP h5
              obtain ⟨d0, d1, d2, d3, d4, d5, d6⟩ := HBE.out w5 H5.out.below
              have cP := push_can ⟨3, t, (xx, nn, u), cc, A⟩ sp sl sc H5.out HF.out.1 HQ.out.2.1 (Nat.le_refl _) (by decide) (Nat.le_refl _) HF.out.2.1 HF.out.2.2.1 HF.out.2.2.2.1 HF.out.2.2.2.2
              have H2 : Hid ((stA E (m + 1)).2.2 = 0) := by show _ = _; rw [HNX.out]
              have h1 : pushL (flushL PO PG g) ⟨3, t, (xx, nn, u), cc, A⟩ = (stA E (m + 1)).1 := by rw [HNX.out]
              have h2 : ([] : List Op5) = (stA E (m + 1)).2.1 := by rw [HNX.out]
              rw [h1, h2] at cP
              clear H5 h1 h2 HNX HQ HF
              simp only [slV] at d0 d1 d2 d3 d4 d5 d6 cP
              go_wp2_with fail
              refine cP.mono ?_; rintro r w6 ⟨v6, rfl, h6⟩
              have H6 := Hid.mk' h6
              clear cP d0 d1 d2 d3 d4 d5 d6 h6
              go_wp2
              go_roundw
              case rel => exact ⟨m + 1, by omega, by go_num, by rw [H2.out], H6⟩
              case measure => simp [RowKit.intOf]; omega
            · have hfl : PG.foldl pushL PO = flushL PO PG g := by unfold flushL; rw [if_neg hgp]
              rw [hfl] at H1
              have H5 := Hid.mk' H1.out.cleared
              clear hq1 H1 hfl
              obtain ⟨d0, d1, d2, d3, d4, d5, d6⟩ := HBE.out wr H5.out.below
              have cP := push_can ⟨3, t, (xx, nn, u), cc, A⟩ sp sl sc H5.out HF.out.1 HQ.out.2.1 (Nat.le_refl _) (by decide) (Nat.le_refl _) HF.out.2.1 HF.out.2.2.1 HF.out.2.2.2.1 HF.out.2.2.2.2
              have H2 : Hid ((stA E (m + 1)).2.2 = 0) := by show _ = _; rw [HNX.out]
              have h1 : pushL (flushL PO PG g) ⟨3, t, (xx, nn, u), cc, A⟩ = (stA E (m + 1)).1 := by rw [HNX.out]
              have h2 : ([] : List Op5) = (stA E (m + 1)).2.1 := by rw [HNX.out]
              rw [h1, h2] at cP
              clear H5 h1 h2 HNX HQ HF
              simp only [slV] at d0 d1 d2 d3 d4 d5 d6 cP
              go_wp2_with fail
              refine cP.mono ?_; rintro r w6 ⟨v6, rfl, h6⟩
              have H6 := Hid.mk' h6
              clear cP d0 d1 d2 d3 d4 d5 d6 h6
              go_wp2
              go_roundw
              case rel => exact ⟨m + 1, by omega, by go_num, by rw [H2.out], H6⟩
              case measure => simp [RowKit.intOf]; omega
      · have HNX := Hid.mk' (stA_del he hk)
        have cI0 : decide (e.k = 1 ∨ e.k = 2) = false := decide_eq_false (by omega)
        rw [cI0] at cI
        have hcnt := how.count (Or.inr hk)
        have hg2 := hq.2.2.2.2.1
        have hg1 := hq.2.2.2.1
        clear cI0 HF HQ hq hrn how hA ht hat he
        obtain ⟨g, hg⟩ : ∃ x, (stA E m).2.2 = x := ⟨_, rfl⟩
        rw [hg] at HNX hg1 hg2 ⊢
        obtain ⟨k, t, ⟨xx, nn, u⟩, cc, A⟩ := e
        simp only [slV] at hk c0 c1 c2 c3 c4 c5 c6 hec hcnt cI
        subst hk
        go_wp2_with fail
        refine cI.mono ?_; rintro r w1 ⟨rfl, hb1⟩
        have c0' := (hb1.cell (lt_of_cell c0)).trans c0
        have c5' := (hb1.cell (lt_of_cell c5)).trans c5
        have H1 : Hid (CanS w0 w w1 u3 u4 (stA E (m + 1)).1 (stA E (m + 1)).2.1) := by rw [HNX.out]; exact HS.out.keep hb1
        have H2 : Hid ((stA E (m + 1)).2.2 = g + cc) := by show _ = _; rw [HNX.out]
        clear cI HS HNX c0 c1 c2 c3 c4 c5 c6 hg hb1
        go_wp2
        go_roundw
        case rel => exact ⟨m + 1, by omega, by go_num, by rw [H2.out], H1⟩
        case measure => simp [RowKit.intOf]; omega
    · by_cases hmn : m = n
      · subst hmn
        have hge0 : (0 : Int) ≤ (m : Int) := by omega
        have hq := stA_q HN.out.2 (m := m) (by have := HN.out.1; omega)
        have HQ := Hid.mk' hq
        have hst : stA E (m + 1) = (flushL (stA E m).1 (stA E m).2.1 (stA E m).2.2, [], 0) := by
          have e1 := HN.out.1
          rw [← e1, stA_end, stA_at (Nat.le_refl _), List.take_length]
        have HNX := Hid.mk' hst
        clear hq hst hlt
        obtain ⟨PO, hPO⟩ : ∃ x, (stA E m).1 = x := ⟨_, rfl⟩
        obtain ⟨PG, hPG⟩ : ∃ x, (stA E m).2.1 = x := ⟨_, rfl⟩
        obtain ⟨g, hg⟩ : ∃ x, (stA E m).2.2 = x := ⟨_, rfl⟩
        rw [hPO, hPG, hg] at HNX HQ
        rw [hPO, hPG] at HS
        rw [hg]
        clear hPO hPG hg
        have hg2 := HQ.out.2.2.2.2.1
        have hg1 := HQ.out.2.2.2.1
        obtain ⟨pg, cg, rfl⟩ := HS.out.len
        obtain ⟨lg, hlg⟩ : ∃ x, PG.length = x := ⟨_, rfl⟩
        have HLG : Hid (PG.length = lg) := hlg
        have hlg4 : lg ≤ 4194304 := by have := HQ.out.2.2.2.2.2; omega
        have H1 : Hid (CanS w0 w wr u3 (.slice pg PG.length cg) PO PG) := HS
        rw [hlg] at H1 ⊢
        clear hlg HS
        go_wp2
        go_loopw [3, 56] (fun vo i wr2 => ∃ (j : Nat), j ≤ lg ∧ i = .int .i64 j ∧ Hid (CanS w0 w wr2 vo (.slice pg lg cg) ((PG.take j).foldl pushL PO) PG)) (fun _ i _ => lg - (RowKit.intOf i).toNat)
        case atStart => exact ⟨0, Nat.zero_le _, rfl, by rw [List.take_zero]; exact H1⟩
        case round =>
          clear H1
          obtain ⟨j, hj, rfl, H1⟩ := hrel
          by_cases hjl : j < lg
          · have hjI : (j : Int) < lg := by omega
            have hj0 : (0 : Int) ≤ (j : Int) := by omega
            obtain ⟨e', gg, sp', sl', sc', he', rfl, hat', hrn'⟩ := H1.out.read j (by rw [HLG.out]; exact hjl)
            obtain ⟨d0, d1, d2, d3, d4, d5, d6⟩ := hat'
            rw [Nat.zero_add] at d0 d1 d2 d3 d4 d5 d6
            have HB := H1.out.keep ((Below.refl wr.heap.size wr).alloc (Nat.le_refl _) (.cells (opC e' (.slice sp' sl' sc')) 33))
            obtain ⟨a1, a2, a3, a4⟩ := HQ.out.2.2.1 e' (List.mem_of_getElem? he')
            have cP := push_can e' sp' sl' sc' HB hrn' (HQ.out.1 j) (Nat.le_refl _) (by decide) (Nat.le_refl _) a1 a2 a3 a4
            have hP2 : pushL ((PG.take j).foldl pushL PO) e' = (PG.take (j + 1)).foldl pushL PO := by rw [List.take_add_one, he', List.foldl_append]; rfl
            rw [hP2] at cP
            clear HB a1 a2 a3 a4 H1 hrn' he' hP2
            obtain ⟨k', t', ⟨x', n', u'⟩, c', A'⟩ := e'
            simp only [opC, slV] at d0 d1 d2 d3 d4 d5 d6 cP
            go_wp2_with fail
            refine cP.mono ?_; rintro r w5 ⟨v5, rfl, h5⟩
            have H5 := Hid.mk' h5
            clear cP d0 d1 d2 d3 d4 d5 d6 h5
            go_wp2
            go_roundw
            case rel => exact ⟨j + 1, by omega, by go_num, H5⟩
            case measure => simp [RowKit.intOf]; omega
          · obtain rfl : j = lg := by omega
            have hjI : ¬ (j : Int) < j := by omega
            have hq1 := HQ.out.1 j
            rw [show PG.take j = PG by have := HLG.out; rw [← this, List.take_length]] at H1 hq1
            by_cases hgp : 0 < g
            · have cP := push_can (delO g) none 0 0 H1.out (RN.nil w0) hq1 (Nat.le_refl _) (by decide) (Nat.le_refl _) (delO_wel (by omega)) (by show (0 : Nat) ≤ _; omega) (by show (0 : Nat) ≤ _; omega) (by show g ≤ _; omega)
              have hfl : pushL (PG.foldl pushL PO) (delO g) = flushL PO PG g := by unfold flushL; rw [if_pos hgp]
              rw [hfl] at cP
              simp only [delO] at cP
              clear hq1 H1 hfl
              go_wp2_with fail
              refine cP.mono ?_; rintro r w5 ⟨v5, rfl, h5⟩
              have H5 := Hid.mk' h5.cleared
              clear cP h5
              have H2 : Hid ((stA E (m + 1)).2.2 = 0) := by show _ = _; rw [HNX.out]
              have H6 : Hid (CanS w0 w w5 v5 (.slice none 0 0) (stA E (m + 1)).1 (stA E (m + 1)).2.1) := by rw [HNX.out]; exact H5
              clear H5 HNX HQ
              go_wp2
              go_roundw
              case rel => exact ⟨m + 1, by omega, by go_num, by rw [H2.out], H6⟩
              case measure => (simp [RowKit.intOf]) <;> omega
            · have hfl : PG.foldl pushL PO = flushL PO PG g := by unfold flushL; rw [if_neg hgp]
              rw [hfl] at H1
              have H5 := Hid.mk' H1.out.cleared
              clear hq1 H1 hfl
              have H2 : Hid ((stA E (m + 1)).2.2 = 0) := by show _ = _; rw [HNX.out]
              have H6 : Hid (CanS w0 w wr u3 (.slice none 0 0) (stA E (m + 1)).1 (stA E (m + 1)).2.1) := by rw [HNX.out]; exact H5
              clear H5 HNX HQ
              go_wp2
              go_roundw
              case rel => exact ⟨m + 1, by omega, by go_num, by rw [H2.out], H6⟩
              case measure => (simp [RowKit.intOf]) <;> omega
      · obtain rfl : m = n + 1 := by omega
        have hnl1 : ¬ ((n : Int) + 1 ≤ n) := by omega
        have hst : (stA E (n + 1)).1 = flushL (runC E).1 (runC E).2.1 (runC E).2.2 := by
          have e1 := HN.out.1
          rw [← e1, stA_end]
        rw [hst] at HS
        have hq := (stA_q HN.out.2 (m := n) (by have := HN.out.1; omega)).2.1.len
        rw [stA_at (by have := HN.out.1; omega), show E.take n = E by have := HN.out.1; rw [← this, List.take_length]] at hq
        have hcan : canonL E = trimL (flushL (runC E).1 (runC E).2.1 (runC E).2.2) := rfl
        generalize flushL (runC E).1 (runC E).2.1 (runC E).2.2 = P at HS hq hcan
        have hb := HS.out.below
        obtain ⟨D, hown, hD⟩ := HS.out.out
        have hD' := hD
        have hlen := forall2_len hD
        generalize (stA E (n + 1)).2.2 = g at *
        clear HS hst HN HR hD
        rcases List.eq_nil_or_concat P with rfl | ⟨F, x, rfl⟩
        · obtain rfl : D = [] := List.eq_nil_of_length_eq_zero (by simpa using hlen)
          obtain ⟨po, co, hvo⟩ := own_slice hown
          obtain rfl : u3 = .slice po 0 co := hvo
          have HO : Hid (FarO wr w.heap.size (.slice po 0 co) [] ∧ Below w.heap.size w wr) := ⟨far_own hown rfl (fun _ _ h => h) (Nat.le_refl _), hb⟩
          have HC : Hid (canonL E = []) := hcan
          clear hown hb hD' hlen hq hmn hlt hm hcan
          go_wp2
          go_ret
          exact ⟨_, rfl, ⟨[], HO.out.1, by rw [HC.out]; exact .nil⟩, HO.out.2⟩
        · rw [List.concat_eq_append] at hD' hlen hq hcan
          obtain ⟨FD, d, rfl⟩ : ∃ FD d, D = FD ++ [d] := by
            rcases List.eq_nil_or_concat D with rfl | ⟨FD, d, rfl⟩
            · simp at hlen
            · exact ⟨FD, d, List.concat_eq_append⟩
          have hl' : FD.length = F.length := by simpa using hlen
          obtain ⟨hF, hx⟩ := forall2_unappend hl' hD'
          obtain ⟨hx1, hx2, hx3, hx4, hx5⟩ : d.1 = x.k ∧ d.2.1 = x.t ∧ d.2.2.1 = x.v ∧ d.2.2.2.1 = x.c ∧ RN w0 (slV d.2.2.2.2) x.A := by cases hx with | cons a _ => exact a
          obtain ⟨dk, dt, dv, dc, sp, sl, sc⟩ := d
          simp only at hx1 hx2 hx3 hx4
          subst hx1; subst hx2; subst hx3; subst hx4
          have hro := own_rowO hown
          obtain ⟨po, co, hvo, hco1, hco2, hco3⟩ := hro
          obtain ⟨bo, oo, rfl, hat⟩ := hco3 FD.length (x.k, x.t, x.v, x.c, sp, sl, sc) (by simp)
          obtain ⟨c0, c1, c2, c3, c4, c5, c6⟩ := hat
          rw [show (FD ++ [(x.k, x.t, x.v, x.c, sp, sl, sc)]).length = FD.length + 1 by simp] at hvo hco1
          subst hvo
          have hlA : sl = x.A.length := by
            obtain ⟨q, cc, e1, _⟩ := hx5.row
            simp only [slV, Value.slice.injEq] at e1
            exact e1.2.1
          have cP := plain6_any x sp sl sc wr hlA
          have HB := Hid.mk' hb
          have HO := Hid.mk' hown
          have HRF : Hid (FarO wr w.heap.size (.slice (some ⟨bo, oo, none⟩) FD.length co) FD ∧ ReD w0 FD F) := ⟨far_own hown rfl (fun j d hd => by rw [List.getElem?_append_left (List.getElem?_eq_some_iff.1 hd).1]; exact hd) (by simp), hF⟩
          have HRX : Hid (FarO wr w.heap.size (.slice (some ⟨bo, oo, none⟩) (FD.length + 1) co) (FD ++ [(x.k, x.t, x.v, x.c, sp, sl, sc)]) ∧ ReD w0 (FD ++ [(x.k, x.t, x.v, x.c, sp, sl, sc)]) (F ++ [x])) := ⟨by have h := far_own hown rfl (F := FD ++ [(x.k, x.t, x.v, x.c, sp, sl, sc)]) (fun _ _ h => h) (Nat.le_refl _); rw [show (FD ++ [(x.k, x.t, x.v, x.c, sp, sl, sc)]).length = FD.length + 1 by simp] at h; exact h, forall2_append hF hx⟩
          have hFl : FD.length ≤ 4194304 := by simp at hq; omega
          obtain ⟨fl, hfl⟩ : ∃ y, FD.length = y := ⟨_, rfl⟩
          rw [hfl] at HRF HRX hFl hco1 c0 c1 c2 c3 c4 c5 c6 ⊢
          clear hco3 hco2 hx5 hx hF hl' hlen hD' hown hb hq hfl HO hmn hlt hm hlA
          have hf0 : (0 : Int) < (fl : Int) + 1 := by omega
          have hf1 : (fl : Int) + 1 - 1 = (fl : Int) := by omega
          have hf2 : (0 : Int) ≤ (fl : Int) := by omega
          cases hp : plainR x with
          | true =>
            rw [trim_yes hp] at hcan
            have HC := Hid.mk' hcan
            rw [hp] at cP
            clear HRX hp hcan
            obtain ⟨k, t, ⟨xx, nn, u⟩, cc, A⟩ := x
            simp only [slV] at c0 c1 c2 c3 c4 c5 c6 cP
            go_wp2_with fail
            refine cP.mono ?_; rintro r w1 ⟨rfl, hb1⟩
            have HB1 : Hid (Below w.heap.size w w1) := HB.out.trans (hb1.mono HB.out.size)
            have HR1 := Hid.mk' (And.intro (HRF.out.1.below hb1) HRF.out.2)
            clear cP c0 c1 c2 c3 c4 c5 c6 HRF HB hb1
            go_wp2
            go_ret
            exact ⟨_, rfl, ⟨_, HR1.out.1, by rw [HC.out]; exact HR1.out.2⟩, HB1.out⟩
          | false =>
            rw [trim_no hp] at hcan
            have HC := Hid.mk' hcan
            rw [hp] at cP
            clear HRF hp hcan
            obtain ⟨k, t, ⟨xx, nn, u⟩, cc, A⟩ := x
            simp only [slV] at c0 c1 c2 c3 c4 c5 c6 cP
            go_wp2_with fail
            refine cP.mono ?_; rintro r w1 ⟨rfl, hb1⟩
            have HB1 : Hid (Below w.heap.size w w1) := HB.out.trans (hb1.mono HB.out.size)
            have HR1 := Hid.mk' (And.intro (HRX.out.1.below hb1) HRX.out.2)
            clear cP c0 c1 c2 c3 c4 c5 c6 HRX HB hb1
            go_wp2
            go_ret
            exact ⟨_, rfl, ⟨_, HR1.out.1, by rw [HC.out]; exact HR1.out.2⟩, HB1.out⟩
end Go.Proofs.YtpmnmlhmeidmeaaGreatDoor

/- The document's answers for ops: empty, Check, Length, apart. -/
namespace Go.Proofs.YtpmnmlhmeidmeaaGreatDoor
open Go Go.RowKit Go.Lib
set_option linter.unusedVariables false

/-- Are the fields empty that a kind doesn't have? -/
def emptyB (o : Op5) : Bool :=
  if o.k = 1 then o.c == 0 && decide (o.v = z0)
  else if o.k = 2 then o.c == 0
  else if o.k = 3 then o.t.toList.isEmpty && decide (o.v = z0)
  else if o.k = 4 then o.t.toList.isEmpty && decide (o.v = z0) && o.A.isEmpty
  else false
theorem opE_ref (o : Op5) : opE o = if emptyB o = false then 9 else if o.k = 1 ∨ o.k = 2 then insE o else if o.c < 1 then 9 else if 1099511627776 < o.c then 11 else if o.k = 3 then listE true none o.A else 0 := by
  unfold opE emptyB cntE
  by_cases k1 : o.k = 1
  · rw [if_pos (Or.inl k1), if_pos k1, if_pos (Or.inl k1)]
    by_cases hb : (o.c == 0 && decide (o.v = z0)) = false
    · rw [if_pos hb]
      have : fldE o = 9 := by
        unfold fldE
        rw [if_neg (fun h => h.1 k1), if_pos]
        by_cases hc : o.c = 0
        · by_cases hv : o.v = z0
          · simp [hc, hv] at hb
          · exact Or.inr ⟨k1, Or.inr hv⟩
        · exact Or.inl hc
      unfold insE
      rw [if_pos (by omega), this]
    · rw [if_neg hb]
  · by_cases k2 : o.k = 2
    · rw [if_pos (Or.inr k2), if_neg k1, if_pos k2, if_pos (Or.inr k2)]
      by_cases hb : (o.c == 0) = false
      · rw [if_pos hb]
        have : fldE o = 9 := by
          unfold fldE
          rw [if_neg (fun h => h.2 k2), if_pos]
          exact Or.inl (by simpa using hb)
        unfold insE
        rw [if_pos (by omega), this]
      · rw [if_neg hb]
    · have h12 : ¬ (o.k = 1 ∨ o.k = 2) := by omega
      rw [if_neg h12, if_neg k1, if_neg k2, if_neg h12]
      by_cases k3 : o.k = 3
      · rw [if_pos k3, if_pos k3, if_pos k3]
        cases ht : o.t.toList.isEmpty <;> by_cases hv : o.v = z0 <;> by_cases h1 : o.c < 1 <;> by_cases h2 : 1099511627776 < o.c <;> simp [hv, h1, h2]
      · rw [if_neg k3, if_neg k3, if_neg k3]
        by_cases k4 : o.k = 4
        · rw [if_pos k4, if_pos k4]
          cases ht : o.t.toList.isEmpty <;> by_cases hv : o.v = z0 <;> cases hA : o.A <;> by_cases h1 : o.c < 1 <;> by_cases h2 : 1099511627776 < o.c <;> simp [hv, h1, h2]
        · rw [if_neg k4, if_neg k4, if_pos rfl]

set_option maxHeartbeats 2000000 in
theorem refEmpty_any (o : Op5) (s : Value) (w : World) (hR : RowA w s o.A) :
    Calls Tryz.prog 76 #[opV o s] w fun r w' => r = .returned (.bool (emptyB o)) ∧ Below w.heap.size w w' := by
  have b0 := (Below.refl w.heap.size w).alloc (Nat.le_refl _) (.cells (opC o s) 33)
  obtain ⟨p, cc, rfl, _⟩ := hR.val
  clear hR
  obtain ⟨n9, hn9⟩ : ∃ m, o.A.length = m := ⟨_, rfl⟩
  have hAe : o.A.isEmpty = decide (n9 = 0) := by
    cases h : o.A with
    | nil => rw [h] at hn9; simp only [List.length_nil] at hn9; subst hn9; rfl
    | cons x r => rw [h] at hn9; simp only [List.length_cons] at hn9; rw [decide_eq_false (by omega)]; rfl
  have hnz : ((n9 : Int) == 0) = decide (n9 = 0) := by rw [Bool.eq_iff_iff]; simp
  rw [hn9] at b0 ⊢
  unfold emptyB
  rw [hAe]
  clear hAe hn9
  obtain ⟨k, t, ⟨x, n, u⟩, c, A⟩ := o
  simp only [opC] at b0 ⊢
  have gd := fun op x' y' w => guard_pl op x' y' (x, n, u) (0, 0, ⟨#[]⟩) w
  obtain ⟨bv, hbv⟩ : ∃ b, decide (((x, n, u) : P3) = z0) = b := ⟨_, rfl⟩
  have hne := eql_pl (x, n, u) (0, 0, ⟨#[]⟩) bv (by
    rw [← hbv]
    by_cases h : ((x, n, u) : P3) = z0
    · rw [decide_eq_true h, h]; exact samP_self _
    · rw [decide_eq_false h]; exact samP_ne h)
  rw [hbv]
  clear hbv
  by_cases k1 : k = 1
  · subst k1
    rw [if_pos rfl]
    clear hnz
    cases hc : (c == 0) with
    | false =>
      go_enter Tryz.func76, Tryz.ntmps76
      go_wp2
      go_ret
      exact ⟨rfl, b0⟩
    | true =>
      go_enter Tryz.func76, Tryz.ntmps76
      go_wp2
      go_ret
      exact ⟨rfl, b0⟩
  · have e1 : (k == 1) = false := by simpa using k1
    rw [if_neg k1]
    by_cases k2 : k = 2
    · subst k2
      rw [if_pos rfl]
      clear hnz hne gd
      go_enter Tryz.func76, Tryz.ntmps76
      go_wp2
      go_ret
      exact ⟨rfl, b0⟩
    · have e2 : (k == 2) = false := by simpa using k2
      rw [if_neg k2]
      by_cases k3 : k = 3
      · subst k3
        rw [if_pos rfl]
        clear hnz e1 e2
        cases ht : t.toList.isEmpty with
        | false =>
          go_enter Tryz.func76, Tryz.ntmps76
          go_wp2
          go_ret
          exact ⟨rfl, b0⟩
        | true =>
          go_enter Tryz.func76, Tryz.ntmps76
          go_wp2
          go_ret
          exact ⟨rfl, b0⟩
      · have e3 : (k == 3) = false := by simpa using k3
        rw [if_neg k3]
        by_cases k4 : k = 4
        · subst k4
          rw [if_pos rfl]
          clear e1 e2 e3
          cases ht : t.toList.isEmpty with
          | false =>
            go_enter Tryz.func76, Tryz.ntmps76
            go_wp2
            go_ret
            exact ⟨rfl, b0⟩
          | true =>
            cases bv with
            | false =>
              go_enter Tryz.func76, Tryz.ntmps76
              go_wp2
              go_ret
              exact ⟨rfl, b0⟩
            | true =>
              go_enter Tryz.func76, Tryz.ntmps76
              go_wp2
              go_ret
              exact ⟨rfl, b0⟩
        · have e4 : (k == 4) = false := by simpa using k4
          rw [if_neg k4]
          clear hnz hne gd
          go_enter Tryz.func76, Tryz.ntmps76
          go_wp2
          go_ret
          exact ⟨rfl, b0⟩

set_option maxHeartbeats 2000000 in
theorem refCheckO_any {I : List Nat} {a : Nat → Addr} (o : Op5) (s : Value) (w : World) (hS : Std I a w) (hR : RN w s o.A) (hF : Fit o) :
    Calls Tryz.prog 54 #[opV o s] w fun r w' => r = .returned (.int .i64 (opE o)) ∧ Below w.heap.size w w' := by
  have b0 := (Below.refl w.heap.size w).alloc (Nat.le_refl _) (.cells (opC o s) 33)
  have D0 := BoxO.new w o s
  have c1 := refEmpty_any o s _ (hR.row.below b0)
  have cI : Hid (∀ W, Below (w.alloc (.cells (opC o s) 33)).heap.size (w.alloc (.cells (opC o s) 33)) W → Calls Tryz.prog 77 #[opV o s] W fun r w' => r = .returned (.int .i64 (insE o)) ∧ Below W.heap.size W w') := fun W hW => ref_ins o s W ((hS.below b0).below hW) ((hR.below b0).below hW) hF
  have cA : Hid (∀ W, Below (w.alloc (.cells (opC o s) 33)).heap.size (w.alloc (.cells (opC o s) 33)) W → Calls Tryz.prog 78 #[s, .bool true] W fun r w' => r = .returned (.int .i64 (listE true none o.A)) ∧ Below W.heap.size W w') := fun W hW => ref_check s o.A true W ((hS.below b0).below hW) ((hR.row.below b0).below hW) hF.tiny (by have := hF.n; omega)
  have hE := opE_ref o
  obtain ⟨E, hEE⟩ : ∃ E, opE o = E := ⟨_, rfl⟩
  obtain ⟨i9, hi9⟩ : ∃ i, insE o = i := ⟨_, rfl⟩
  obtain ⟨l9, hl9⟩ : ∃ l, listE true none o.A = l := ⟨_, rfl⟩
  obtain ⟨eb, heb⟩ : ∃ l, emptyB o = l := ⟨_, rfl⟩
  rw [hEE, hi9, hl9, heb] at hE
  rw [hEE]
  rw [hi9] at cI
  rw [hl9] at cA
  rw [heb] at c1
  clear hS hR hF hEE hi9 hl9 heb
  have HD : Hid (BoxO (w.alloc (.cells (opC o s) 33)) w.heap.size o s) := D0
  obtain ⟨k, t, ⟨x, n, u⟩, c, A⟩ := o
  simp only [opC] at b0 c1 cI cA HD hE
  clear D0
  cases eb with
  | false =>
    rw [if_pos rfl] at hE
    subst hE
    clear cI cA HD
    go_enter Tryz.func54, Tryz.ntmps54
    go_wp2_with fail
    refine c1.mono ?_; rintro r w2 ⟨rfl, hb2⟩
    have b2 := b0.trans (hb2.mono b0.size)
    clear c1 b0 hb2
    go_wp2
    go_ret
    exact ⟨rfl, b2⟩
  | true =>
    rw [if_neg (by simp)] at hE
    by_cases k1 : k = 1
    · rw [if_pos (Or.inl k1)] at hE
      subst hE k1
      go_enter Tryz.func54, Tryz.ntmps54
      go_wp2_with fail
      refine c1.mono ?_; rintro r w2 ⟨rfl, hb2⟩
      have b2 := b0.trans (hb2.mono b0.size)
      obtain ⟨d0, d1, d2, d3, d4, d5, d6⟩ := HD.out.below hb2
      simp only at d0 d1 d2 d3 d4 d5 d6
      have c2 := cI.out _ hb2
      clear c1 b0 hb2
      go_wp2_with fail
      refine c2.mono ?_; rintro r w3 ⟨rfl, hb3⟩
      have b3 := b2.trans (hb3.mono b2.size)
      clear c2 b2 hb3
      go_wp2
      go_ret
      exact ⟨rfl, b3⟩
    · have e1 : (k == 1) = false := by simpa using k1
      by_cases k2 : k = 2
      · rw [if_pos (Or.inr k2)] at hE
        subst hE k2
        clear k1 e1
        go_enter Tryz.func54, Tryz.ntmps54
        go_wp2_with fail
        refine c1.mono ?_; rintro r w2 ⟨rfl, hb2⟩
        have b2 := b0.trans (hb2.mono b0.size)
        obtain ⟨d0, d1, d2, d3, d4, d5, d6⟩ := HD.out.below hb2
        simp only at d0 d1 d2 d3 d4 d5 d6
        have c2 := cI.out _ hb2
        clear c1 b0 hb2
        go_wp2_with fail
        refine c2.mono ?_; rintro r w3 ⟨rfl, hb3⟩
        have b3 := b2.trans (hb3.mono b2.size)
        clear c2 b2 hb3
        go_wp2
        go_ret
        exact ⟨rfl, b3⟩
      · have e2 : (k == 2) = false := by simpa using k2
        rw [if_neg (by omega)] at hE
        by_cases h1 : c < 1
        · rw [if_pos h1] at hE
          subst hE
          clear cI cA
          go_enter Tryz.func54, Tryz.ntmps54
          go_wp2_with fail
          refine c1.mono ?_; rintro r w2 ⟨rfl, hb2⟩
          have b2 := b0.trans (hb2.mono b0.size)
          obtain ⟨d0, d1, d2, d3, d4, d5, d6⟩ := HD.out.below hb2
          simp only at d0 d1 d2 d3 d4 d5 d6
          clear c1 b0 hb2
          go_wp2
          go_ret
          exact ⟨rfl, b2⟩
        · rw [if_neg h1] at hE
          by_cases h2 : 1099511627776 < c
          · rw [if_pos h2] at hE
            subst hE
            clear cI cA
            go_enter Tryz.func54, Tryz.ntmps54
            go_wp2_with fail
            refine c1.mono ?_; rintro r w2 ⟨rfl, hb2⟩
            have b2 := b0.trans (hb2.mono b0.size)
            obtain ⟨d0, d1, d2, d3, d4, d5, d6⟩ := HD.out.below hb2
            simp only at d0 d1 d2 d3 d4 d5 d6
            clear c1 b0 hb2
            go_wp2
            go_ret
            exact ⟨rfl, b2⟩
          · rw [if_neg h2] at hE
            by_cases k3 : k = 3
            · rw [if_pos k3] at hE
              subst hE k3
              clear cI k1 k2 e1 e2
              go_enter Tryz.func54, Tryz.ntmps54
              go_wp2_with fail
              refine c1.mono ?_; rintro r w2 ⟨rfl, hb2⟩
              have b2 := b0.trans (hb2.mono b0.size)
              obtain ⟨d0, d1, d2, d3, d4, d5, d6⟩ := HD.out.below hb2
              simp only at d0 d1 d2 d3 d4 d5 d6
              have c2 := cA.out _ hb2
              clear c1 b0 hb2
              go_wp2_with fail
              refine c2.mono ?_; rintro r w3 ⟨rfl, hb3⟩
              have b3 := b2.trans (hb3.mono b2.size)
              clear c2 b2 hb3
              go_wp2
              go_ret
              exact ⟨rfl, b3⟩
            · have e3 : (k == 3) = false := by simpa using k3
              rw [if_neg k3] at hE
              subst hE
              clear cI cA
              go_enter Tryz.func54, Tryz.ntmps54
              go_wp2_with fail
              refine c1.mono ?_; rintro r w2 ⟨rfl, hb2⟩
              have b2 := b0.trans (hb2.mono b0.size)
              obtain ⟨d0, d1, d2, d3, d4, d5, d6⟩ := HD.out.below hb2
              simp only at d0 d1 d2 d3 d4 d5 d6
              clear c1 b0 hb2
              go_wp2
              go_ret
              exact ⟨rfl, b2⟩
end Go.Proofs.YtpmnmlhmeidmeaaGreatDoor

/- The document's deltas: Of. -/
namespace Go.Proofs.YtpmnmlhmeidmeaaGreatDoor
open Go Go.RowKit Go.Lib
set_option linter.unusedVariables false

set_option maxHeartbeats 40000000 in
set_option maxRecDepth 100000 in
theorem ref6Of_any {I : List Nat} {a : Nat → Addr} {w0 : World} (va : Value) (D0 : List OV) (E : List Op5) (w : World) (hS : Std I a w) (hb0 : Below w0.heap.size w0 w) (hrow : RowO w va D0) (hre : ReD w0 D0 E) (hF : FitL E) (hl : E.length ≤ 1048576) (ht : txtS E ≤ 8388608) :
    Calls Tryz.prog 60 #[va] w fun r w' => ∃ dv, r = .returned (.tuple #[dv, .int .i64 (ofE 0 0 E).1, .int .i64 (ofE 0 0 E).2]) ∧ ((ofE 0 0 E).2 = 0 → ∃ D', FarO w' w.heap.size dv D' ∧ ReD w0 D' (canonL E)) ∧ ((ofE 0 0 E).2 ≠ 0 → dv = .slice none 0 0) ∧ Below w.heap.size w w' := by
  have CK : Hid (OkE E → ∀ W, Below w.heap.size w W → Calls Tryz.prog 11 #[va] W fun r w' => ∃ v', r = .returned v' ∧ (∃ D', FarO w' W.heap.size v' D' ∧ ReD w0 D' (canonL E)) ∧ Below W.heap.size W w') := fun ok W hW => canon6_any va D0 E W (hb0.trans (hW.mono hb0.size)) (hrow.below hW) hre ok
  have CC : Hid (∀ (o : Op5) (s : Value) (W W2 : World), Below w.heap.size w W → Below W.heap.size W W2 → RN w s o.A → Fit o → Calls Tryz.prog 54 #[opV o s] W2 fun r w' => r = .returned (.int .i64 (opE o)) ∧ Below W2.heap.size W2 w') := fun o s W W2 hW hW2 hR hf => refCheckO_any o s W2 ((hS.below hW).below hW2) ((hR.below hW).below hW2) hf
  have hDE := forall2_len hre
  obtain ⟨n, hn⟩ : ∃ n, E.length = n := ⟨_, rfl⟩
  obtain ⟨p, cap, rfl, hcap, hnz, hc⟩ := hrow
  have HR : Hid (∀ k, k < n → ∃ (e : Op5) (b off : Nat) (sp : Option Addr) (sl sc : Nat), E[k]? = some e ∧ p = some ⟨b, off, none⟩ ∧ OpAt w b (off + k * 7) (e.k, e.t, e.v, e.c, (sp, sl, sc)) ∧ RN w0 (.slice sp sl sc) e.A) := fun k hk => by
    obtain ⟨d, hd⟩ : ∃ d, D0[k]? = some d := ⟨_, List.getElem?_eq_getElem (by omega)⟩
    obtain ⟨e, he, h1, h2, h3, h4, h5⟩ := forall2_get hre k d hd
    obtain ⟨b, off, hp, hat⟩ := hc k d hd
    obtain ⟨dk, dt, dv, dc, sp, sl, sc⟩ := d
    simp only at h1 h2 h3 h4
    subst h1; subst h2; subst h3; subst h4
    exact ⟨e, b, off, sp, sl, sc, he, hp, hat, h5⟩
  have HN : Hid (E.length = n ∧ FitL E ∧ txtS E ≤ 8388608) := ⟨hn, hF, ht⟩
  have hnl : n ≤ 1048576 := by omega
  rw [hDE, hn] at hcap CK ⊢
  clear hc hDE hre hnz hn hF ht hS hl
  go_enter Tryz.func60, Tryz.ntmps60
  go_wp2
  go_loopw [5, 6, 13] (fun bb rr i wr => ∃ (k : Nat), k ≤ n ∧ i = .int .i64 k ∧ bb = .int .i64 (sumB (E.take k)) ∧ rr = .int .i64 (sumR (E.take k)) ∧ Hid (OkE (E.take k)) ∧ Below w.heap.size w wr) (fun _ _ i _ => n - (RowKit.intOf i).toNat)
  case atStart => exact ⟨0, Nat.zero_le _, rfl, by rw [List.take_zero]; rfl, by rw [List.take_zero]; rfl, by rw [List.take_zero]; exact OkE.nil, Below.refl _ _⟩
  case round =>
    obtain ⟨k, hk, rfl, rfl, rfl, HO, hbw⟩ := hrel
    obtain ⟨bs, hbs⟩ : ∃ x, sumB (E.take k) = x := ⟨_, rfl⟩
    obtain ⟨rs, hrs⟩ : ∃ x, sumR (E.take k) = x := ⟨_, rfl⟩
    have hb1 : 0 ≤ bs := by rw [← hbs]; exact (sums_nn HO.out.wel).1
    have hr1 : 0 ≤ rs := by rw [← hrs]; exact (sums_nn HO.out.wel).2
    have hb2 : bs ≤ 1099511627776 := by rw [← hbs]; exact HO.out.base
    have hr2 : rs ≤ 1099511627776 := by rw [← hrs]; exact HO.out.res
    rw [hbs, hrs]
    by_cases hlt : k < n
    · have hltI : (k : Int) < n := by omega
      have hk0 : (0 : Int) ≤ (k : Int) := by omega
      obtain ⟨e, b, off, sp, sl, sc, he, rfl, hat, hrn⟩ := HR.out k hlt
      have hem := List.mem_of_getElem? he
      have hfe := HN.out.2.1 e hem
      obtain ⟨c0, c1, c2, c3, c4, c5, c6⟩ := hat.below hbw
      have bw : Below wr.heap.size wr (wr.alloc (.cells (opC e (.slice sp sl sc)) 33)) := (Below.refl _ _).alloc (Nat.le_refl _) _
      have cC := CC.out e (.slice sp sl sc) wr _ hbw bw (hrn.below hb0) hfe
      have HX : Hid (∀ W, Below (wr.alloc (.cells (opC e (.slice sp sl sc)) 33)).heap.size (wr.alloc (.cells (opC e (.slice sp sl sc)) 33)) W → OpAt W wr.heap.size 0 (e.k, e.t, e.v, e.c, (sp, sl, sc)) ∧ Below w.heap.size w W) := fun W hW => ⟨OpAt.below (w := wr.alloc (.cells (opC e (.slice sp sl sc)) 33)) ⟨by simp [opC], by simp [opC], by simp [opC], by simp [opC], by simp [opC], by simp [opC], by simp [opC, slV]⟩ hW, hbw.trans ((bw.trans (hW.mono bw.size)).mono hbw.size)⟩
      have hT : E.take (k + 1) = E.take k ++ [e] := by rw [List.take_add_one, he]; rfl
      have HT : Hid (E.take (k + 1) = E.take k ++ [e] ∧ E[k]? = some e ∧ sumB (E.take k) = bs ∧ sumR (E.take k) = rs) := ⟨hT, he, hbs, hrs⟩
      by_cases hz : opE e = 0
      · have hln := len5_range hz hfe
        have hkk := kinds_of hz
        have cL := fun W => len6_any e sp sl sc W hz hfe.t
        have cI := fun W => ins6_any e sp sl sc W
        have hbO : baseO e = if e.k = 3 ∨ e.k = 4 then len5 e else 0 := rfl
        have hrO : resO e = if e.k = 4 then 0 else len5 e := rfl
        have HNX : Hid (bs + baseO e ≤ 1099511627776 ∧ rs + resO e ≤ 1099511627776 → OkE (E.take (k + 1)) ∧ sumB (E.take (k + 1)) = bs + baseO e ∧ sumR (E.take (k + 1)) = rs + resO e) := fun h => by
          have htk := txtS_take E (k + 1)
          have hg : refE (sumB (E.take k)) (sumR (E.take k)) e = 0 := refE_zero.2 ⟨hz, by rw [hbs]; exact h.1, by rw [hrs]; exact h.2⟩
          refine ⟨?_, by rw [hT, sumB_append, sumB_one, hbs], by rw [hT, sumR_append, sumR_one, hrs]⟩
          rw [hT] at htk ⊢
          exact okE_snoc HO.out hg hfe.fitA (Nat.le_trans htk HN.out.2.2) (by simp; omega)
        have HBD : Hid (1099511627776 < bs + baseO e ∨ 1099511627776 < rs + resO e → ofE 0 0 E = (k, 11)) := fun h => ofE_no he HO.out (e := 10) (by unfold refE; rw [if_neg (by simpa using hz), hbs, hrs, if_pos h])
        rw [hz] at cC
        obtain ⟨ln, hll⟩ : ∃ x, len5 e = x := ⟨_, rfl⟩
        rw [hll] at hln cL hbO hrO
        have hmn : min ln 1099511627777 = ln := by omega
        have hmn2 : ln ≤ 1099511627777 := by omega
        clear hz hll HT hT hem hat hrn bw HR CC hfe he hbs hrs HO
        obtain ⟨kk, t, ⟨xx, nn, u⟩, cc, A⟩ := e
        simp only [opC, slV] at c0 c1 c2 c3 c4 c5 c6 cC cL cI hkk hbO hrO HX
        rcases (show (kk = 1 ∨ kk = 2) ∨ kk = 3 ∨ kk = 4 by omega) with hi | hi | hi
        · have hk4 : (kk != 4) = true := by simp; omega
          rw [if_neg (by omega)] at hbO
          rw [if_neg (by omega)] at hrO
          replace hbO := congrArg (fun z => bs + z) hbO
          replace hrO := congrArg (fun z => rs + z) hrO
          try simp only [Int.add_zero] at hbO
          try simp only [Int.add_zero] at hrO
          go_wp2_with fail
          refine cC.mono ?_; rintro r w1 ⟨rfl, hw1⟩
          obtain ⟨⟨d0, d1, d2, d3, d4, d5, d6⟩, b1⟩ := HX.out w1 hw1
          simp only [Nat.zero_add, slV] at d0 d1 d2 d3 d4 d5 d6
          have cl := cL w1
          clear cC c0 c1 c2 c3 c4 c5 c6 hw1 cL
          go_wp2_with fail
          refine cl.mono ?_; rintro r w2 ⟨rfl, hw2⟩
          replace d0 := (hw2.cell (lt_of_cell d0)).trans d0
          replace d1 := (hw2.cell (lt_of_cell d1)).trans d1
          replace d2 := (hw2.cell (lt_of_cell d2)).trans d2
          replace d3 := (hw2.cell (lt_of_cell d3)).trans d3
          replace d4 := (hw2.cell (lt_of_cell d4)).trans d4
          replace d5 := (hw2.cell (lt_of_cell d5)).trans d5
          replace d6 := (hw2.cell (lt_of_cell d6)).trans d6
          have b2 := b1.trans (hw2.mono b1.size)
          have ci := cI w2
          rw [decide_eq_true hi] at ci
          clear cl b1 hw2 cI
          go_wp2_with fail
          refine ci.mono ?_; rintro r w3 ⟨rfl, hw3⟩
          replace d0 := (hw3.cell (lt_of_cell d0)).trans d0
          have b3 := b2.trans (hw3.mono b2.size)
          have HB3 := Hid.mk' b3
          clear ci b2 hw3 d1 d2 d3 d4 d5 d6 b3
          by_cases hov : 1099511627776 < bs ∨ 1099511627776 < rs + ln
          · have HB : Hid (ofE 0 0 E = (k, 11)) := HBD.out (by rw [hbO, hrO]; exact hov)
            clear HBD HNX hbO hrO
            rcases (show 1099511627776 < bs ∨ (¬ 1099511627776 < bs ∧ 1099511627776 < rs + ln) by omega) with hov | ⟨hov1, hov⟩
            · first | (exfalso; omega) | (go_wp2; go_ret3; exact ⟨_, by rw [HB.out]; rfl, fun h => (by rw [HB.out] at h; cases h), fun _ => rfl, HB3.out⟩)
            · first | (exfalso; omega) | (go_wp2; go_ret3; exact ⟨_, by rw [HB.out]; rfl, fun h => (by rw [HB.out] at h; cases h), fun _ => rfl, HB3.out⟩)
          · have hn1 : ¬ 1099511627776 < bs := fun h => hov (Or.inl h)
            have hn2 : ¬ 1099511627776 < rs + ln := fun h => hov (Or.inr h)
            have hnx := HNX.out (by rw [hbO, hrO]; omega)
            rw [hbO, hrO] at hnx
            have HY := Hid.mk' hnx
            clear HBD HNX hbO hrO hov hnx
            go_wp2
            go_roundw
            case rel => exact ⟨k + 1, by omega, by go_num, by rw [HY.out.2.1], by rw [HY.out.2.2], HY.out.1, HB3.out⟩
            case measure => simp [RowKit.intOf]; omega
        · subst hi
          rw [if_pos (by omega)] at hbO
          rw [if_neg (by omega)] at hrO
          replace hbO := congrArg (fun z => bs + z) hbO
          replace hrO := congrArg (fun z => rs + z) hrO
          try simp only [Int.add_zero] at hbO
          try simp only [Int.add_zero] at hrO
          go_wp2_with fail
          refine cC.mono ?_; rintro r w1 ⟨rfl, hw1⟩
          obtain ⟨⟨d0, d1, d2, d3, d4, d5, d6⟩, b1⟩ := HX.out w1 hw1
          simp only [Nat.zero_add, slV] at d0 d1 d2 d3 d4 d5 d6
          have cl := cL w1
          clear cC c0 c1 c2 c3 c4 c5 c6 hw1 cL
          go_wp2_with fail
          refine cl.mono ?_; rintro r w2 ⟨rfl, hw2⟩
          replace d0 := (hw2.cell (lt_of_cell d0)).trans d0
          replace d1 := (hw2.cell (lt_of_cell d1)).trans d1
          replace d2 := (hw2.cell (lt_of_cell d2)).trans d2
          replace d3 := (hw2.cell (lt_of_cell d3)).trans d3
          replace d4 := (hw2.cell (lt_of_cell d4)).trans d4
          replace d5 := (hw2.cell (lt_of_cell d5)).trans d5
          replace d6 := (hw2.cell (lt_of_cell d6)).trans d6
          have b2 := b1.trans (hw2.mono b1.size)
          have ci := cI w2
          rw [decide_eq_false (by omega)] at ci
          clear cl b1 hw2 cI
          go_wp2_with fail
          refine ci.mono ?_; rintro r w3 ⟨rfl, hw3⟩
          replace d0 := (hw3.cell (lt_of_cell d0)).trans d0
          have b3 := b2.trans (hw3.mono b2.size)
          have HB3 := Hid.mk' b3
          clear ci b2 hw3 d1 d2 d3 d4 d5 d6 b3
          by_cases hov : 1099511627776 < bs + ln ∨ 1099511627776 < rs + ln
          · have HB : Hid (ofE 0 0 E = (k, 11)) := HBD.out (by rw [hbO, hrO]; exact hov)
            clear HBD HNX hbO hrO
            rcases (show 1099511627776 < bs + ln ∨ (¬ 1099511627776 < bs + ln ∧ 1099511627776 < rs + ln) by omega) with hov | ⟨hov1, hov⟩
            · first | (exfalso; omega) | (go_wp2; go_ret3; exact ⟨_, by rw [HB.out]; rfl, fun h => (by rw [HB.out] at h; cases h), fun _ => rfl, HB3.out⟩)
            · first | (exfalso; omega) | (go_wp2; go_ret3; exact ⟨_, by rw [HB.out]; rfl, fun h => (by rw [HB.out] at h; cases h), fun _ => rfl, HB3.out⟩)
          · have hn1 : ¬ 1099511627776 < bs + ln := fun h => hov (Or.inl h)
            have hn2 : ¬ 1099511627776 < rs + ln := fun h => hov (Or.inr h)
            have hnx := HNX.out (by rw [hbO, hrO]; omega)
            rw [hbO, hrO] at hnx
            have HY := Hid.mk' hnx
            clear HBD HNX hbO hrO hov hnx
            go_wp2
            go_roundw
            case rel => exact ⟨k + 1, by omega, by go_num, by rw [HY.out.2.1], by rw [HY.out.2.2], HY.out.1, HB3.out⟩
            case measure => simp [RowKit.intOf]; omega
        · subst hi
          rw [if_pos (by omega)] at hbO
          rw [if_pos (by omega)] at hrO
          replace hbO := congrArg (fun z => bs + z) hbO
          replace hrO := congrArg (fun z => rs + z) hrO
          try simp only [Int.add_zero] at hbO
          try simp only [Int.add_zero] at hrO
          go_wp2_with fail
          refine cC.mono ?_; rintro r w1 ⟨rfl, hw1⟩
          obtain ⟨⟨d0, d1, d2, d3, d4, d5, d6⟩, b1⟩ := HX.out w1 hw1
          simp only [Nat.zero_add, slV] at d0 d1 d2 d3 d4 d5 d6
          have cl := cL w1
          clear cC c0 c1 c2 c3 c4 c5 c6 hw1 cL
          go_wp2_with fail
          refine cl.mono ?_; rintro r w2 ⟨rfl, hw2⟩
          replace d0 := (hw2.cell (lt_of_cell d0)).trans d0
          replace d1 := (hw2.cell (lt_of_cell d1)).trans d1
          replace d2 := (hw2.cell (lt_of_cell d2)).trans d2
          replace d3 := (hw2.cell (lt_of_cell d3)).trans d3
          replace d4 := (hw2.cell (lt_of_cell d4)).trans d4
          replace d5 := (hw2.cell (lt_of_cell d5)).trans d5
          replace d6 := (hw2.cell (lt_of_cell d6)).trans d6
          have b2 := b1.trans (hw2.mono b1.size)
          have ci := cI w2
          rw [decide_eq_false (by omega)] at ci
          clear cl b1 hw2 cI
          go_wp2_with fail
          refine ci.mono ?_; rintro r w3 ⟨rfl, hw3⟩
          replace d0 := (hw3.cell (lt_of_cell d0)).trans d0
          have b3 := b2.trans (hw3.mono b2.size)
          have HB3 := Hid.mk' b3
          clear ci b2 hw3 d1 d2 d3 d4 d5 d6 b3
          by_cases hov : 1099511627776 < bs + ln ∨ 1099511627776 < rs
          · have HB : Hid (ofE 0 0 E = (k, 11)) := HBD.out (by rw [hbO, hrO]; exact hov)
            clear HBD HNX hbO hrO
            rcases (show 1099511627776 < bs + ln ∨ (¬ 1099511627776 < bs + ln ∧ 1099511627776 < rs) by omega) with hov | ⟨hov1, hov⟩
            · first | (exfalso; omega) | (go_wp2; go_ret3; exact ⟨_, by rw [HB.out]; rfl, fun h => (by rw [HB.out] at h; cases h), fun _ => rfl, HB3.out⟩)
            · first | (exfalso; omega) | (go_wp2; go_ret3; exact ⟨_, by rw [HB.out]; rfl, fun h => (by rw [HB.out] at h; cases h), fun _ => rfl, HB3.out⟩)
          · have hn1 : ¬ 1099511627776 < bs + ln := fun h => hov (Or.inl h)
            have hn2 : ¬ 1099511627776 < rs := fun h => hov (Or.inr h)
            have hnx := HNX.out (by rw [hbO, hrO]; omega)
            rw [hbO, hrO] at hnx
            have HY := Hid.mk' hnx
            clear HBD HNX hbO hrO hov hnx
            go_wp2
            go_roundw
            case rel => exact ⟨k + 1, by omega, by go_num, by rw [HY.out.2.1], by rw [HY.out.2.2], HY.out.1, HB3.out⟩
            case measure => simp [RowKit.intOf]; omega
      · obtain ⟨x, hx⟩ : ∃ x, opE e = x + 1 := ⟨opE e - 1, by omega⟩
        have HBD : Hid (ofE 0 0 E = (k, x + 1)) := ofE_no he HO.out (by unfold refE; rw [if_pos hz, hx])
        rw [hx] at cC
        have hx0 : ((x : Int) + 1 != 0) = true := by simp; omega
        clear hz hx HT hT hem hat hrn bw HR CC hfe he hbs hrs HO
        obtain ⟨kk, t, ⟨xx, nn, u⟩, cc, A⟩ := e
        simp only [opC, slV] at c0 c1 c2 c3 c4 c5 c6 cC HX
        go_wp2_with fail
        refine cC.mono ?_; rintro r w1 ⟨rfl, hw1⟩
        obtain ⟨_, b1⟩ := HX.out w1 hw1
        have HB1 := Hid.mk' b1
        clear cC c0 c1 c2 c3 c4 c5 c6 hw1 b1
        go_wp2
        go_ret3
        exact ⟨_, by rw [HBD.out]; rfl, fun h => (by rw [HBD.out] at h; cases h), fun _ => rfl, HB1.out⟩
    · have hltI : ¬ (k : Int) < n := by omega
      have hE : E.take k = E := List.take_of_length_le (by have := HN.out.1; omega)
      rw [hE] at HO
      have HBD : Hid (ofE 0 0 E = (0, 0)) := ofE_ok E 0 0 HO.out.good (by have := HO.out.base; omega) (by have := HO.out.res; omega)
      have cK := CK.out HO.out wr hbw
      clear hE HO hbs hrs CK CC
      go_wp2_with fail
      refine cK.mono ?_; rintro r w5 ⟨dv, rfl, ⟨D5, h5, h6⟩, hb5⟩
      have H5 : Hid (FarO w5 w.heap.size dv D5 ∧ ReD w0 D5 (canonL E)) := ⟨h5.weaken hbw.size, h6⟩
      have B5 : Hid (Below w.heap.size w w5) := hbw.trans (hb5.mono hbw.size)
      clear cK h5 h6 hb5
      go_wp2
      go_ret3
      exact ⟨_, by rw [HBD.out]; rfl, fun _ => ⟨_, H5.out⟩, fun h => (by rw [HBD.out] at h; exact absurd rfl h), B5.out⟩
end Go.Proofs.YtpmnmlhmeidmeaaGreatDoor

/- vellummade's Delta and Is, vellumspare's Heavy. -/
namespace Go.Proofs.YtpmnmlhmeidmeaaGreatDoor
open Go Go.RowKit Go.Lib
set_option linter.unusedVariables false

def heavN (E : List Op5) : Int := (E.map fun o => 1 + (o.t.size : Int) + o.A.length).sum
theorem heavN_append (E F : List Op5) : heavN (E ++ F) = heavN E + heavN F := by unfold heavN; rw [List.map_append, List.sum_append]
theorem heavN_one (o : Op5) : heavN [o] = 1 + (o.t.size : Int) + o.A.length := by simp [heavN]
theorem heavN_le {E : List Op5} (h : FitL E) : 0 ≤ heavN E ∧ heavN E ≤ 20000000 * E.length := by
  induction E with
  | nil => simp [heavN]
  | cons o r ih =>
    obtain ⟨h1, h2⟩ := ih (fun x hx => h x (List.mem_cons_of_mem _ hx))
    have ho := h o (List.mem_cons_self ..)
    have e : heavN (o :: r) = 1 + (o.t.size : Int) + o.A.length + heavN r := by simp [heavN]
    have a1 := ho.t
    have a2 := ho.n
    rw [e, List.length_cons]
    omega
theorem heavN_txt (E : List Op5) : (txtS E : Int) + E.length ≤ heavN E := by
  induction E with
  | nil => simp [heavN, txtS]
  | cons o r ih =>
    have e : heavN (o :: r) = 1 + (o.t.size : Int) + o.A.length + heavN r := by simp [heavN]
    have e2 : txtS (o :: r) = o.t.size + txtS r := by simp [txtS]
    rw [e, e2, List.length_cons]
    omega
theorem heavN_mem {E : List Op5} {o : Op5} (h : o ∈ E) : 1 + (o.t.size : Int) + o.A.length ≤ heavN E := by
  induction E with
  | nil => cases h
  | cons x r ih =>
    have e : heavN (x :: r) = 1 + (x.t.size : Int) + x.A.length + heavN r := by simp [heavN]
    have := heavN_txt r
    rcases List.mem_cons.1 h with rfl | h
    · omega
    · have := ih h; omega
set_option maxHeartbeats 2000000 in
set_option maxRecDepth 100000 in
theorem heavy_any (v : Value) (E : List Op5) (w : World) (hv : ReO w v E) (hF : FitL E) (hl : E.length ≤ 1048576) :
    Calls Tryz.prog 17 #[v] w fun r w' => r = .returned (.bool (decide (6000 < heavN E))) ∧ Below w.heap.size w w' := by
  obtain ⟨D0, hrow, hre⟩ := hv
  have hDE := forall2_len hre
  obtain ⟨n, hn⟩ : ∃ n, D0.length = n := ⟨_, rfl⟩
  obtain ⟨p, cap, rfl, hcap, hnz, hc⟩ := hrow
  have HC : Hid (∀ (j : Nat) (d : OV), D0[j]? = some d → ∃ b off, p = some ⟨b, off, none⟩ ∧ OpAt w b (off + j * 7) d) := hc
  have HN : Hid (D0.length = n ∧ E.length = n) := ⟨hn, by rw [← hDE, hn]⟩
  have hl : n ≤ 1048576 := by rw [← hn, hDE]; exact hl
  have HF : Hid (FitL E) := hF
  have HE : Hid (∀ (k : Nat) (d : OV), D0[k]? = some d → ∃ e : Op5, E[k]? = some e ∧ d.2.1 = e.t ∧ d.2.2.2.2.2.1 = e.A.length) := fun k d h => by
    obtain ⟨y, hy, r⟩ := forall2_get hre k d h
    obtain ⟨q, c, e1, _⟩ := r.2.2.2.2.row.val
    refine ⟨y, hy, r.2.1, ?_⟩
    simp only [slV, Value.slice.injEq] at e1
    exact e1.2.1
  rw [hn] at hcap ⊢
  clear hc hn hDE hre hnz hF
  go_enter Tryz.func17, Tryz.ntmps17
  go_wp2
  go_loopw [3, 8] (fun s i wr => ∃ (k : Nat) (z : Int), k ≤ n ∧ i = .int .i64 k ∧ s = .int .i64 z ∧ 0 ≤ z ∧ z ≤ 20000000 * k ∧ Hid (heavN (E.take k) = z) ∧ Below w.heap.size w wr) (fun _ i _ => n - (RowKit.intOf i).toNat)
  case atStart => exact ⟨0, 0, Nat.zero_le _, rfl, rfl, by omega, by omega, by show heavN (E.take 0) = 0; simp [heavN], Below.refl _ _⟩
  case round =>
    obtain ⟨k, z, hk, rfl, rfl, hz0, hz1, HZ, hbw⟩ := hrel
    by_cases hlt : k < n
    · have hltI : (k : Int) < n := by omega
      obtain ⟨d, hd⟩ : ∃ d, D0[k]? = some d := ⟨_, List.getElem?_eq_getElem (by rw [HN.out.1]; exact hlt)⟩
      obtain ⟨e, he, het, hel⟩ := HE.out k d hd
      obtain ⟨b, off, rfl, hp⟩ := HC.out k d hd
      obtain ⟨c0, c1, c2, c3, c4, c5, c6⟩ := hp.below hbw
      have hfe := HF.out e (List.mem_of_getElem? he)
      have hT1 := hfe.t
      have hT2 := hfe.n
      have HS : Hid (heavN (E.take (k + 1)) = z + (1 + (e.t.size : Int) + e.A.length)) := by
        show _ = _
        rw [List.take_add_one, he, Option.toList_some, heavN_append, heavN_one, HZ.out]
      clear hd he hp HZ hfe
      obtain ⟨dk, dt, ⟨dx, dn, du⟩, dc, ds⟩ := d
      obtain ⟨dp, dl, dcap⟩ := ds
      simp only at het hel
      rw [← het, ← hel] at HS
      rw [← het] at hT1
      rw [← hel] at hT2
      clear het hel
      simp only [slV] at c0 c1 c2 c3 c4 c5 c6
      obtain ⟨s, hs⟩ : ∃ s : Int, (dt.size : Int) = s := ⟨_, rfl⟩
      obtain ⟨L, hL⟩ : ∃ s : Int, (dl : Int) = s := ⟨_, rfl⟩
      have hs1 : 0 ≤ s ∧ s ≤ 8388608 := by omega
      have hL1 : 0 ≤ L ∧ L ≤ 1048576 := by omega
      obtain ⟨hs1, hs2⟩ := hs1
      obtain ⟨hL1, hL2⟩ := hL1
      rw [hs, hL] at HS
      have hk2 : (k : Int) ≤ 1048576 := by omega
      go_wp2
      go_roundw
      case rel => exact ⟨k + 1, z + (1 + s + L), by omega, by go_num, rfl, by omega, by omega, HS.out, hbw.alloc hbw.size _⟩
      case measure => simp [RowKit.intOf]; omega
    · have hltI : ¬ (k : Int) < n := by omega
      have hE : E.take k = E := List.take_of_length_le (by rw [HN.out.2]; omega)
      rw [hE] at HZ
      go_wp2
      go_ret
      exact ⟨by rw [HZ.out]; rfl, hbw⟩

theorem light_of {E : List Op5} (h : decide (6000 < heavN E) = false) : txtS E ≤ 6000 ∧ E.length ≤ 6000 ∧ ∀ o ∈ E, o.A.length ≤ 6000 := by
  have h1 := of_decide_eq_false h
  have h2 := heavN_txt E
  exact ⟨by omega, by omega, fun o ho => by have := heavN_mem ho; omega⟩
set_option maxHeartbeats 2000000 in
set_option maxRecDepth 100000 in
theorem is7_any {B1 B2 : Nat} (d v : Value) (E : List Op5) (w : World) (h : DelV w B1 B2 d E) (hg : ∀ o ∈ E, opE o = 0) (hA : ∀ e ∈ E, e.A.length ≤ 1048576) (hl : E.length ≤ 1048576) (hv : ReO w v E) :
    Calls Tryz.prog 24 #[d, v] w fun r w' => r = .returned (.bool true) ∧ Below w.heap.size w w' := by
  have c1 := ops_any d E w h hg (fun o ho => by have := hA o ho; omega) (by omega)
  have c2 : Hid (∀ W v', Below w.heap.size w W → ReO W v' E → Calls Tryz.prog 35 #[v', v] W fun r w' => r = .returned (.bool true) ∧ Below W.heap.size W w') := fun W v' hW h' => sameOps_any v' v E W h' (hv.below hW) hl hA
  obtain ⟨q, pv, PL, rfl, _⟩ := h
  clear hg hA hl hv
  go_enter Tryz.func24, Tryz.ntmps24
  go_wp2_with fail
  refine c1.mono ?_; rintro r w2 ⟨v', rfl, hco, hb2⟩
  have c4 := c2.out w2 v' hb2 hco.re
  clear c1 c2 hco
  go_wp2_with fail
  refine c4.mono ?_; rintro r w3 ⟨rfl, hb3⟩
  have b3 := hb2.trans (hb3.mono hb2.size)
  clear c4 hb2 hb3
  go_wp2
  go_ret
  exact ⟨rfl, b3⟩
set_option maxHeartbeats 2000000 in
set_option maxRecDepth 100000 in
theorem made_no {I : List Nat} {a : Nat → Addr} (v : Value) (E : List Op5) (w : World) (hI : ∀ i ∈ IxO, i ∈ I) (hS : Std I a w) (hv : ReO w v E) (hF : FitL E) (hl : E.length ≤ 1048576) (ht : txtS E ≤ 8388608) (h0 : (ofE 0 0 E).2 ≠ 0) :
    Calls Tryz.prog 18 #[v] w fun r w' => r = .returned (.tuple #[.pointer none, .slice none 0 0, .bool false]) ∧ Below w.heap.size w w' := by
  obtain ⟨D, hrow, hre⟩ := hv
  have c1 := ref6Of_any v D E w hS (Below.refl _ _) hrow hre hF hl ht
  have hb : ((((ofE 0 0 E).2 : Nat) : Int) != 0) = true := by simp only [bne_iff_ne, ne_eq]; omega
  obtain ⟨x, hx⟩ : ∃ x, (ofE 0 0 E).2 = x := ⟨_, rfl⟩
  rw [hx] at c1 hb h0
  have h0' : ¬ ((x : Int) = 0) := by omega
  obtain ⟨y, hy⟩ : ∃ x, (ofE 0 0 E).1 = x := ⟨_, rfl⟩
  rw [hy] at c1
  obtain ⟨p, cap, rfl, _⟩ := hrow
  clear hI hS hre hF hl ht hx hy
  go_enter Tryz.func18, Tryz.ntmps18
  go_wp2_with fail
  refine c1.mono ?_; rintro r w2 ⟨dv, rfl, -, hz, hb2⟩
  have hz' := hz h0
  subst hz'
  clear c1 hz
  go_wp2
  go_ret3
  exact ⟨rfl, hb2⟩
set_option maxHeartbeats 2000000 in
set_option maxRecDepth 100000 in
theorem made_yes {I : List Nat} {a : Nat → Addr} (v : Value) (E : List Op5) (w : World) (hI : ∀ i ∈ IxO, i ∈ I) (hS : Std I a w) (hv : ReO w v E) (hF : FitL E) (hl : E.length ≤ 1048576) (ht : txtS E ≤ 8388608) (h0 : (ofE 0 0 E).2 = 0) :
    Calls Tryz.prog 18 #[v] w fun r w' => ∃ dv ov, r = .returned (.tuple #[dv, ov, .bool true]) ∧ DelV w' w.heap.size w.heap.size dv (canonL E) ∧ (∃ q, dv = .pointer (some ⟨q, 0, none⟩)) ∧ ReO w' ov (canonL E) ∧ (∃ p n c, ov = .slice p n c) ∧ Below w.heap.size w w' := by
  have hv0 := hv
  obtain ⟨D, hrow, hre⟩ := hv
  have c1 := ref6Of_any v D E w hS (Below.refl _ _) hrow hre hF hl ht
  have c2 : Hid (∀ W, Below w.heap.size w W → Calls Tryz.prog 61 #[v] W fun r w' => ∃ v', r = .returned v' ∧ SpO w' W.heap.size w'.heap.size v' E ∧ Below W.heap.size W w') := fun W hW => copy_any v E W (hv0.below hW) hl (fun e he => (hF e he).n)
  have c3 : Hid (∀ v' W, Below w.heap.size w W → ReO W v' E → Calls Tryz.prog 37 #[v'] W fun r w' => ∃ dv, r = .returned (.tuple #[dv, .int .i64 (ofE 0 0 E).1, .nilIface]) ∧ DelV w' w.heap.size w.heap.size dv (canonL E) ∧ (∃ q, dv = .pointer (some ⟨q, 0, none⟩)) ∧ Below W.heap.size W w') := fun v' W hW h => by
    refine (buildOf_any v' E W hI (hS.below hW) h hF hl ht).mono ?_
    rintro r w' ⟨dv, rfl, h1, -, h3⟩
    rw [h0]
    obtain ⟨q', pv, PL, x1, x2, x3, x4, x5⟩ := h1 h0
    exact ⟨dv, rfl, ⟨q', pv, PL, x1, Nat.le_trans hW.size x2, x3, own_weaken x4 hW.size, x5.weaken hW.size⟩, ⟨q', x1⟩, h3⟩
  rw [h0] at c1
  have HR : Hid (∀ W, Below w.heap.size w W → ReD w D E → True) := fun _ _ _ => trivial
  obtain ⟨y, hy⟩ : ∃ x, (ofE 0 0 E).1 = x := ⟨_, rfl⟩
  rw [hy] at c1 c3
  obtain ⟨p, cap, rfl, _⟩ := hrow
  clear hI hS hre hF hl ht hy hv0 HR h0
  go_enter Tryz.func18, Tryz.ntmps18
  go_wp2_with fail
  refine c1.mono ?_; rintro r w2 ⟨ov, rfl, hz, -, hb2⟩
  obtain ⟨D', hfar, hre'⟩ := hz (by first | rfl | trivial)
  have HO : Hid (∀ W, Below w2.heap.size w2 W → ReO W ov (canonL E)) := fun W hW => ⟨D', hfar.row.below hW, by
    have h2 := hb2.trans (hW.mono hb2.size)
    exact hre'.below h2⟩
  obtain ⟨po, co, ho, _⟩ := hfar
  obtain ⟨no, hno⟩ : ∃ n, D'.length = n := ⟨_, rfl⟩
  rw [hno] at ho
  subst ho
  have cC := c2.out w2 hb2
  clear c1 c2 hz hno hre'
  go_wp2_with fail
  refine cC.mono ?_; rintro r w3 ⟨v', rfl, hsp, hb3⟩
  have b3 := hb2.trans (hb3.mono hb2.size)
  have cB := c3.out v' w3 b3 hsp.re
  clear cC c3 hsp
  go_wp2_with fail
  refine cB.mono ?_; rintro r w4 ⟨dv, rfl, hd, ⟨q, rfl⟩, hb4⟩
  have b4 := b3.trans (hb4.mono b3.size)
  have HE : Hid (DelV w4 w.heap.size w.heap.size (.pointer (some ⟨q, 0, none⟩)) (canonL E) ∧ ReO w4 (.slice po no co) (canonL E)) := ⟨hd, HO.out _ (hb3.trans (hb4.mono hb3.size))⟩
  clear cB hd hb2 hb3 hb4 b3 HO
  go_wp2
  go_ret3
  exact ⟨_, _, rfl, HE.out.1, ⟨q, rfl⟩, HE.out.2, ⟨_, _, _, rfl⟩, b4⟩
end Go.Proofs.YtpmnmlhmeidmeaaGreatDoor

/- What vellumref01.Text answers: the encodings, one behind the other. -/
namespace Go.Proofs.YtpmnmlhmeidmeaaGreatDoor
open Go Go.RowKit Go.Lib
set_option linter.unusedVariables false

theorem info8 : ∃ i, Tryz.prog.info? 5 = some i ∧ i.zero = some (.int .u8 0) ∧ i.size = 1 ∧ i.bytes = 1 := by
  obtain ⟨i, hi, h⟩ := Option.map_eq_some_iff.1 (show (Tryz.prog.info? 5).map (fun i => (i.zero, i.size, i.bytes)) = some (some (.int .u8 0), 1, 1) by kernel_rfl)
  simp only [Prod.mk.injEq] at h
  exact ⟨i, hi, h.1, h.2.1, h.2.2⟩

theorem strCells_byteR (s : ByteArray) : strCells s = byteCells s.data.toList := by
  first | rfl | (unfold strCells byteCells; simp)

theorem owns_bytes {w : World} {B : Nat} {v : Value} {l : List UInt8} (h : w.ownsRow B 5 1 v l.length (byteCells l)) :
    (convert 91 9 v).run Tryz.prog w = .ok (.string ⟨l.toArray⟩) w := by
  rcases h.2 with ⟨rfl, h0⟩ | ⟨g, cap, cur, rfl, h2, h3, h4, h5, h6, h7⟩
  · have : l = [] := List.eq_nil_of_length_eq_zero h0
    subst this
    exact run_convert_bytes_nil w 91 5 Tryz.underlying91 Tryz.underlying5 0 0 9 Tryz.underlying9
  · refine run_convert_bytes_back w 91 9 5 ⟨g, 0, none⟩ cap l Tryz.underlying91 Tryz.underlying5 Tryz.underlying9 fun j hj => ?_
    have := congrArg (·[j]?) h7
    simp only [Nat.mul_one, List.getElem?_take, hj, if_true] at this
    have e : (byteCells l)[j]? = some (.int .u8 ((l[j]).toNat : Int)) := by simp [byteCells, List.getElem?_eq_getElem hj]
    rw [e] at this
    have ea : (⟨g, 0, none⟩ : Addr).add j = ⟨g, j, none⟩ := by cases j <;> simp [Addr.add]
    rw [ea]
    simp only [World.cell?, h3]
    simpa using this
theorem encs_le4 : ∀ (rs : List Nat), (∀ r ∈ rs, scal r) → (encs rs).length ≤ 4 * rs.length
  | [], _ => Nat.zero_le _
  | r :: rs, h => by
    have h1 := (enc_pos (h r (by simp))).2
    have h2 := encs_le4 rs fun x hx => h x (by simp [hx])
    simp only [encs, List.length_append, List.length_cons]
    omega
theorem pos_lt4 (rs : List Nat) (h : ∀ r ∈ rs, scal r) (k : Nat) : pos rs k ≤ 4 * rs.length := Nat.le_trans (pos_le rs k) (encs_le4 rs h)

set_option maxHeartbeats 1000000 in
theorem ref_text4 (p : Option Addr) (cap : Nat) (rs : List Nat) (w : World) (hcell0 : ∀ k, (hk : k < rs.length) → ∃ b off, p = some ⟨b, off, none⟩ ∧ w.cell? ⟨b, off + k, none⟩ = some (.int .i32 ((rs[k] : Nat) : Int))) (h : ∀ r ∈ rs, scal r) (hl : rs.length ≤ 8388608) :
    Calls Tryz.prog 87 #[.slice p rs.length cap] w fun e w' => e = .returned (.string ⟨(encs rs).toArray⟩) ∧ Below w.heap.size w w' := by
  obtain ⟨n, hn⟩ : ∃ n, rs.length = n := ⟨_, rfl⟩
  have hcell : ∀ k, (hk : k < n) → ∃ b off, p = some ⟨b, off, none⟩ ∧ w.cell? ⟨b, off + k, none⟩ = some (.int .i32 ((rs[k]'(by omega) : Nat) : Int)) := fun k hk => hcell0 k (by omega)
  have hle : ∀ k, pos rs k ≤ 140737488351232 := fun k => by
    have h1 := pos_lt4 rs h k
    omega
  have hnl : n ≤ 35184372087808 := by omega
  rw [hn]
  obtain ⟨i0, hi, hz, hz1, hz2⟩ := info8
  have hZ : Hid (i0.zero = some (.int .u8 0) ∧ i0.size = 1 ∧ i0.bytes = 1) := ⟨hz, hz1, hz2⟩
  clear hcell0 hl hz hz1 hz2
  go_enter Tryz.func87, Tryz.ntmps87
  go_wp2
  have hst : (w.alloc (.cells #[] 5)).ownsRow w.heap.size 5 1 (.slice (some ⟨w.heap.size, 0, none⟩) 0 0) 0 [] := World.ownsRow_made w #[] 0 (Nat.le_refl _) (Nat.zero_le _) rfl
  have hbi : Below w.heap.size w (w.alloc (.cells #[] 5)) := (Below.refl _ _).alloc (Nat.le_refl _) _
  obtain ⟨v0, hv0⟩ : ∃ v0 : Value, v0 = Value.slice (some ⟨w.heap.size, 0, none⟩) 0 0 := ⟨_, rfl⟩
  rw [← hv0] at hst ⊢
  obtain ⟨wi, hwi⟩ : ∃ wi, wi = w.alloc (.cells #[] 5) := ⟨_, rfl⟩
  rw [← hwi] at hst hbi ⊢
  clear hv0 hwi
  go_loopw [3, 9] (fun v i wr => ∃ k : Nat, k ≤ n ∧ i = .int .i64 k ∧ wr.ownsRow w.heap.size 5 1 v (pos rs k) (byteCells (encs (rs.take k))) ∧ Below w.heap.size w wr) (fun _ i _ => n - (RowKit.intOf i).toNat)
  case atStart => exact ⟨0, Nat.zero_le _, rfl, hst, hbi⟩
  case round =>
    clear hst hbi
    obtain ⟨k, hk, rfl, hown, hbw⟩ := hrel
    by_cases hlt : k < n
    · obtain ⟨b, off, rfl, hcl⟩ := hcell k hlt
      have hr := h _ (List.getElem_mem (show k < rs.length by omega))
      have hp1 := pos_succ rs k (by omega)
      have hpl := hle (k + 1)
      have hT : Hid (encs (rs.take (k + 1)) = encs (rs.take k) ++ enc (rs[k]'(by omega))) := by
        show _ = _
        rw [List.take_succ_eq_append_getElem (by omega), encs_snoc]
      obtain ⟨R, hR⟩ : ∃ R, rs[k]'(by omega) = R := ⟨_, rfl⟩
      rw [hR] at hcl hr hp1 hT
      have hcl' : wr.cell? ⟨b, off + k, none⟩ = _ := (hbw.cell (lt_of_cell hcl)).trans hcl
      have henc := fun W => ref_encode R hr W
      have hes : (⟨(enc R).toArray⟩ : ByteArray).size = (enc R).length := by show (enc R).toArray.size = _; simp
      have hel : Hid ((⟨(enc R).toArray⟩ : ByteArray).data.toList = enc R) := by show _ = _; simp
      obtain ⟨E, hE⟩ : ∃ E : ByteArray, ⟨(enc R).toArray⟩ = E := ⟨_, rfl⟩
      rw [hE] at henc hes hel
      obtain ⟨P, hP⟩ : ∃ P, pos rs k = P := ⟨_, rfl⟩
      obtain ⟨P2, hP2⟩ : ∃ P, pos rs (k + 1) = P := ⟨_, rfl⟩
      rw [hP, hP2, ← hes] at hp1
      rw [hP2] at hpl
      rw [hP] at hown
      have HP : Hid (pos rs (k + 1) = P2) := hP2
      have HP1 : Hid (P2 = P + E.size) := hp1
      have hpE : P + E.size ≤ 140737488351232 := by omega
      clear hcell hcl hle hP hP2 hp1 hpl hr hR h hn hE hes
      go_wp2_with (first
        | (go_at_call 99; refine (henc _).mono ?_; rintro e w2 ⟨rfl, hb2⟩; have hown2 := owns_below hown hb2; have hbw2 := hbw.trans (hb2.mono hbw.size))
        | (at_builtin; refine wpList_append_own_string _ rfl _ _ 91 9 rfl w.heap.size 5 i0 Tryz.underlying91 Tryz.underlying9 hi hZ.out.1 hZ.out.2.1 hZ.out.2.2 _ P _ rfl hown2 E rfl (by unfold maxLen; omega) (by omega) hbw2.size ?_; intro v' w3 hown4 hgr4 _))
      have hb3 : Below w.heap.size w w3 := hbw2.grown hgr4 hbw2.size (fun k hk => (owns_block hown2 k hk).1)
      go_roundw
      case rel =>
        refine ⟨k + 1, by omega, by go_num, ?_, hb3⟩
        rw [HP.out, HP1.out, hT.out, byteCells_append, ← hel.out, ← strCells_byteR]
        exact hown4
      case measure => simp [RowKit.intOf]; omega
    · obtain rfl : k = n := by omega
      have hall : rs.take k = rs := List.take_of_length_le (by omega)
      have hpa : pos rs k = (encs rs).length := by rw [← hn, pos_all]
      rw [hall, hpa] at hown
      have hcv := owns_bytes hown
      obtain ⟨T, hTT⟩ : ∃ T : ByteArray, ⟨(encs rs).toArray⟩ = T := ⟨_, rfl⟩
      have HT : Hid (T = (⟨(encs rs).toArray⟩ : ByteArray)) := hTT.symm
      rw [hTT] at hcv
      clear hcell hle h hall hpa hn hTT hown
      go_wp2
      go_ret
      rw [← HT.out]
      exact ⟨rfl, hbw⟩
end Go.Proofs.YtpmnmlhmeidmeaaGreatDoor

/- An operation in memory behind stores. -/
namespace Go.Proofs.YtpmnmlhmeidmeaaGreatDoor
open Go Go.RowKit Go.Lib
set_option linter.unusedVariables false

theorem BoxO.out {w w' : World} {lo hi B : Nat} {o : Op5} {s : Value} (h : BoxO w B o s) (u : Out lo hi w w') (hB : hi ≤ B) : BoxO w' B o s := by
  have e : ∀ i, w'.cell? ⟨B, i, none⟩ = w.cell? ⟨B, i, none⟩ := fun i => World.cell?_of_block (a := ⟨B, i, none⟩) (u.block B (lt_of_cell h.d0) (Or.inr hB))
  exact ⟨(e _).trans h.d0, (e _).trans h.d1, (e _).trans h.d2, (e _).trans h.d3, (e _).trans h.d4, (e _).trans h.d5, (e _).trans h.d6⟩
theorem BoxO.stored {w : World} {B : Nat} {o : Op5} {s : Value} (h : BoxO w B o s) (o' : Op5) (s' : Value) :
    BoxO (((((((w.setCell ⟨B, 0, none⟩ (.int .i64 o'.k)).setCell ⟨B, 1, none⟩ (.string o'.t)).setCell ⟨B, 2, none⟩ (.int .i64 o'.v.1)).setCell ⟨B, 3, none⟩ (.int .i64 o'.v.2.1)).setCell ⟨B, 4, none⟩ (.string o'.v.2.2)).setCell ⟨B, 5, none⟩ (.int .i64 o'.c)).setCell ⟨B, 6, none⟩ s') B o' s' := by
  have hs : ∀ (W : World) (i : Nat) (v : Value), (W.cell? ⟨B, i, none⟩).isSome = true → (W.setCell ⟨B, i, none⟩ v).cell? ⟨B, i, none⟩ = some v := fun W i v hi => World.cell?_setCell_same' _ _ _ hi
  have ho : ∀ (W : World) (i j : Nat) (v : Value), i ≠ j → (W.setCell ⟨B, j, none⟩ v).cell? ⟨B, i, none⟩ = W.cell? ⟨B, i, none⟩ := fun W i j v hij => World.cell?_setCell_other _ _ _ _ (fun e => by cases e; exact hij rfl)
  obtain ⟨d0, d1, d2, d3, d4, d5, d6⟩ := h
  refine ⟨?_, ?_, ?_, ?_, ?_, ?_, ?_⟩
  · rw [ho _ 0 6 _ (by decide), ho _ 0 5 _ (by decide), ho _ 0 4 _ (by decide), ho _ 0 3 _ (by decide), ho _ 0 2 _ (by decide), ho _ 0 1 _ (by decide)]; exact hs _ _ _ (by rw [d0]; rfl)
  · rw [ho _ 1 6 _ (by decide), ho _ 1 5 _ (by decide), ho _ 1 4 _ (by decide), ho _ 1 3 _ (by decide), ho _ 1 2 _ (by decide)]; exact hs _ _ _ (by rw [ho _ 1 0 _ (by decide), d1]; rfl)
  · rw [ho _ 2 6 _ (by decide), ho _ 2 5 _ (by decide), ho _ 2 4 _ (by decide), ho _ 2 3 _ (by decide)]; exact hs _ _ _ (by rw [ho _ 2 1 _ (by decide), ho _ 2 0 _ (by decide), d2]; rfl)
  · rw [ho _ 3 6 _ (by decide), ho _ 3 5 _ (by decide), ho _ 3 4 _ (by decide)]; exact hs _ _ _ (by rw [ho _ 3 2 _ (by decide), ho _ 3 1 _ (by decide), ho _ 3 0 _ (by decide), d3]; rfl)
  · rw [ho _ 4 6 _ (by decide), ho _ 4 5 _ (by decide)]; exact hs _ _ _ (by rw [ho _ 4 3 _ (by decide), ho _ 4 2 _ (by decide), ho _ 4 1 _ (by decide), ho _ 4 0 _ (by decide), d4]; rfl)
  · rw [ho _ 5 6 _ (by decide)]; exact hs _ _ _ (by rw [ho _ 5 4 _ (by decide), ho _ 5 3 _ (by decide), ho _ 5 2 _ (by decide), ho _ 5 1 _ (by decide), ho _ 5 0 _ (by decide), d5]; rfl)
  · exact hs _ _ _ (by rw [ho _ 6 5 _ (by decide), ho _ 6 4 _ (by decide), ho _ 6 3 _ (by decide), ho _ 6 2 _ (by decide), ho _ 6 1 _ (by decide), ho _ 6 0 _ (by decide), d6]; rfl)
end Go.Proofs.YtpmnmlhmeidmeaaGreatDoor

/- What vellumref04.Cut answers. -/
namespace Go.Proofs.YtpmnmlhmeidmeaaGreatDoor
open Go Go.RowKit Go.Lib
set_option linter.unusedVariables false

theorem cell_drew' (W : World) (a : Addr) : W.drew.cell? a = W.cell? a := rfl
theorem heap_drew' (W : World) (k : Nat) : W.drew.heap[k]? = W.heap[k]? := rfl
end Go.Proofs.YtpmnmlhmeidmeaaGreatDoor

/- vellumref07's length and Cut. -/
namespace Go.Proofs.YtpmnmlhmeidmeaaGreatDoor
open Go Go.RowKit Go.Lib
set_option linter.unusedVariables false

set_option maxHeartbeats 2000000 in
set_option maxRecDepth 100000 in
theorem len7_any (o : Op5) (p : Option Addr) (l c : Nat) (w : World) (hg : opE o = 0) (ht : o.t.size ≤ 8388608) :
    Calls Tryz.prog 69 #[opV o (.slice p l c)] w fun r w' => r = .returned (.int .i64 (len5 o)) ∧ Below w.heap.size w w' := by
  have b0 : Below w.heap.size w (w.alloc (.cells (opC o (.slice p l c)) 33)) := (Below.refl _ _).alloc (Nat.le_refl _) _
  rcases op_good hg with ⟨hi, hk⟩ | ⟨hc, hA, hk⟩ | ⟨hc, hA, hk⟩
  · have cL := refLen4_any o (.slice p l c) (w.alloc (.cells (opC o (.slice p l c)) 33)) hi ht
    have e : len5 o = (lenO o : Int) := by unfold len5; rw [if_pos hk]
    rw [e]
    obtain ⟨L, hL⟩ : ∃ L, lenO o = L := ⟨_, rfl⟩
    rw [hL] at cL ⊢
    clear hi hg ht hL e
    obtain ⟨k, t, ⟨x, z, u⟩, c', A⟩ := o
    simp only at hk cL b0 ⊢
    have h3 : (k == 3) = false := beq_eq_false_iff_ne.2 (by omega)
    have h4 : (k == 4) = false := beq_eq_false_iff_ne.2 (by omega)
    go_enter Tryz.func69, Tryz.ntmps69
    go_wp2_with fail
    refine cL.mono ?_; rintro r w2 ⟨rfl, hb2⟩
    have b2 := b0.trans (hb2.mono b0.size)
    go_wp2
    go_ret
    exact ⟨rfl, b2⟩
  · rw [len5_3 (.inl hk)]
    clear hc hA hg ht
    obtain ⟨k, t, ⟨x, z, u⟩, c', A⟩ := o
    simp only at hk b0 ⊢
    subst hk
    go_enter Tryz.func69, Tryz.ntmps69
    go_wp2
    go_ret
    exact ⟨rfl, b0⟩
  · rw [len5_3 (.inr hk)]
    clear hc hA hg ht
    obtain ⟨k, t, ⟨x, z, u⟩, c', A⟩ := o
    simp only at hk b0 ⊢
    subst hk
    go_enter Tryz.func69, Tryz.ntmps69
    go_wp2
    go_ret
    exact ⟨rfl, b0⟩
set_option maxHeartbeats 4000000 in
set_option maxRecDepth 100000 in
theorem cutAll7_any (o : Op5) (p : Option Addr) (l c : Nat) (n : Int) (w : World) (hg : opE o = 0) (ht : o.t.size ≤ 8388608) (hn : n = len5 o) :
    Calls Tryz.prog 64 #[opV o (.slice p l c), .int .i64 n] w fun r w' => r = .returned (.tuple #[opV o (.slice p l c), opV opZ nilS, .bool false]) ∧ Below w.heap.size w w' := by
  have b0 := bx3_below w o (.slice p l c)
  have cL := len7_any o p l c (bx3 w o (.slice p l c)) hg ht
  rw [← hn] at cL
  have Z0 := bx3_0 w o (.slice p l c)
  have Z1 := bx3_1 w o (.slice p l c)
  have Z2 := bx3_2 w o (.slice p l c)
  have en : (n == n) = true := by simp
  clear hg ht hn
  obtain ⟨k, t, ⟨x, z, u⟩, c', A⟩ := o
  obtain ⟨W0, hW0⟩ : ∃ W, W = bx3 w ⟨k, t, (x, z, u), c', A⟩ (.slice p l c) := ⟨_, rfl⟩
  go_enter Tryz.func64, Tryz.ntmps64
  go_wp2_with fail
  rw [← hW0] at b0 Z0 Z1 Z2
  refine (hW0 ▸ cL : Calls Tryz.prog 69 #[opV ⟨k, t, (x, z, u), c', A⟩ (.slice p l c)] (bx3 w ⟨k, t, (x, z, u), c', A⟩ (.slice p l c)) fun r w' => r = .returned (.int .i64 n) ∧ Below W0.heap.size W0 w').mono ?_; rintro r w2 ⟨rfl, h2⟩
  clear hW0 cL
  have Y0 := Z0.below h2
  have Y1 := Z1.1.below h2
  have Y1f := Z1.2.below Z1.1 h2
  have Y2 := Z2.1.below h2
  have Y2f := Z2.2.below Z2.1 h2
  have b2 := b0.trans (h2.mono b0.size)
  obtain ⟨p0, p1, p2, p3, p4, p5, p6⟩ := Y0
  obtain ⟨q0, q1, q2, q3, q4, q5, q6⟩ := Y1
  obtain ⟨r0, r1, r2, r3, r4, r5, r6⟩ := Y2
  obtain ⟨f0, f1, f2, f3, f4, f5, f6⟩ := Y1f
  obtain ⟨g0, g1, g2, g3, g4, g5, g6⟩ := Y2f
  simp only at p0 p1 p2 p3 p4 p5 p6 q0 q1 q2 q3 q4 q5 q6 r0 r1 r2 r3 r4 r5 r6
  have n5 : ¬ w.heap.size + 1 + 1 = w.heap.size + 1 := by omega
  have n6 : ¬ w.heap.size + 1 = w.heap.size + 1 + 1 := by omega
  clear Z0 Z1 Z2 b0 h2
  go_wp2
  exact bodyPost_ret (v := .tuple #[opV ⟨k, t, (x, z, u), c', A⟩ (.slice p l c), opV opZ nilS, .bool false]) (by simp [results, Tryz.results64, go_sem, z0, q0, q1, q2, q3, q4, q5, q6, r0, r1, r2, r3, r4, r5, r6]) rfl
    ⟨rfl, below_set7 (below_set7 b2 (by omega) _ _ _ _ _ _ _) (by omega) _ _ _ _ _ _ _⟩
end Go.Proofs.YtpmnmlhmeidmeaaGreatDoor

/- vellumref07.Cut of a text. -/
namespace Go.Proofs.YtpmnmlhmeidmeaaGreatDoor
open Go Go.RowKit Go.Lib
set_option linter.unusedVariables false

theorem box2_op (w : World) (o : Array Value) (W : World) (hW : ((w.alloc (.cells o 33)).alloc (.cells o 33)).drew = W) : W.heap[w.heap.size]? = some (.cells o 33 (0, 0)) ∧ W.heap[w.heap.size + 1]? = some (.cells o 33 (0, 0)) ∧ Below w.heap.size w W := by
  subst hW
  have e1 := heap_alloc_new w (.cells o 33)
  have e2 := heap_alloc_new (w.alloc (.cells o 33)) (.cells o 33)
  simp only [World.size_alloc] at e2
  refine ⟨?_, e2, ?_⟩
  · exact ((Below.refl (w.alloc (.cells o 33)).heap.size _).alloc (Nat.le_refl _) _).block w.heap.size (by simp) |>.trans e1
  · exact (((Below.refl w.heap.size _).alloc (Nat.le_refl _) _).alloc (by simp) _).drew
theorem box_of {w : World} {B : Nat} {o : Op5} {s : Value} (h : w.heap[B]? = some (.cells (opC o s) 33 (0, 0))) : BoxO w B o s ∧ FrO w B := by
  refine ⟨⟨?_, ?_, ?_, ?_, ?_, ?_, ?_⟩, ⟨frozen_of_heap h 0, frozen_of_heap h 1, frozen_of_heap h 2, frozen_of_heap h 3, frozen_of_heap h 4, frozen_of_heap h 5, frozen_of_heap h 6⟩⟩ <;> (rw [cell_of_heap h]; rfl)
/-- A list that was grown is put into a new operation. -/
theorem appX {w2 wc w9 : World} {B M X Y : Nat} {a b : Op5} {sX sY v9 s0 : Value} {A A0 : List A2} (kX : wc.heap[X]? = some (.cells (opC a sX) 33 (0, 0))) (kY : wc.heap[Y]? = some (.cells (opC b sY) 33 (0, 0))) (hn : ¬ X = Y)
    (hb : Below M w2 wc) (hM : M ≤ X) (hMc : M ≤ wc.heap.size) (o0 : OwnA wc B s0 A0) (n0 : ∀ k, s0.ownBlock = some k → k ≠ X ∧ k ≠ Y) (o9 : OwnA w9 B v9 A) (g9 : (wc.alloc (.cells #[] 141)).grownBy w9 (some wc.heap.size)) :
    ∃ q1 r1, v9 = .slice q1 A.length r1 ∧ w9.cell? ⟨X, 6, none⟩ = some sX ∧ w9.frozen? ⟨X, 6, none⟩ = false ∧ (w9.setCell ⟨X, 6, none⟩ v9).heap[X]? = some (.cells (opC a (.slice q1 A.length r1)) 33 (0, 0)) ∧ (w9.setCell ⟨X, 6, none⟩ v9).heap[Y]? = some (.cells (opC b sY) 33 (0, 0)) ∧ OwnA (w9.setCell ⟨X, 6, none⟩ v9) B (.slice q1 A.length r1) A ∧ OwnA (w9.setCell ⟨X, 6, none⟩ v9) B s0 A0 ∧ Below M w2 (w9.setCell ⟨X, 6, none⟩ v9) ∧ (∀ k, (Value.slice q1 A.length r1).ownBlock = some k → k ≠ X ∧ k ≠ Y) := by
  obtain ⟨q1, r1, rfl⟩ := own_slice o9
  have zX := (Array.getElem?_eq_some_iff.1 kX).1
  have zY := (Array.getElem?_eq_some_iff.1 kY).1
  have bE : Below M w2 (wc.alloc (.cells #[] 141)) := hb.alloc hMc _
  have b9 := bE.grown g9 (by rw [World.size_alloc]; omega) (fun j hj => by simp only [Option.some.injEq] at hj; omega)
  have old : ∀ k, k < wc.heap.size → w9.heap[k]? = wc.heap[k]? := fun k hk => (g9.block k (by rw [World.size_alloc]; omega) (by simp only [ne_eq, Option.some.injEq]; omega)).trans (((Below.refl _ wc).alloc (Nat.le_refl _) _).block k hk)
  have lX := (old X zX).trans kX
  have lY := (old Y zY).trans kY
  have hne : ∀ k, (Value.slice q1 A.length r1).ownBlock = some k → k ≠ X ∧ k ≠ Y := fun k hk => by
    obtain ⟨_, cur, hcur⟩ := owns_block o9 k hk
    constructor
    · rintro rfl; rw [lX] at hcur; cases hcur
    · rintro rfl; rw [lY] at hcur; cases hcur
  refine ⟨q1, r1, rfl, by rw [cell_of_heap lX]; rfl, frozen_of_heap lX 6, ?_, (Below.heap_setCell _ _ _ _ (Ne.symm hn)).trans lY, owns_same o9 (fun k hk => Below.heap_setCell _ _ _ _ (hne k hk).1), owns_same o0 (fun k hk => (Below.heap_setCell _ _ _ _ (n0 k hk).1).trans (old k (by obtain ⟨_, cur, hcur⟩ := owns_block o0 k hk; exact (Array.getElem?_eq_some_iff.1 hcur).1))), b9.setCell (p := ⟨X, 6, none⟩) hM _, hne⟩
  rw [heap_set_at w9 X 6 _ _ _ _ lX]; rfl
theorem set_txt {w : World} {X : Nat} {t t' : ByteArray} {A : List A2} {s : Value} (h : w.heap[X]? = some (.cells (opC ⟨1, t, z0, 0, A⟩ s) 33 (0, 0))) : (w.setCell ⟨X, 1, none⟩ (.string t')).heap[X]? = some (.cells (opC ⟨1, t', z0, 0, A⟩ s) 33 (0, 0)) := by
  rw [heap_set_at w X 1 _ _ _ _ h]; rfl
set_option maxHeartbeats 8000000 in
set_option maxRecDepth 100000 in
theorem cutTxt7_any (t : ByteArray) (A : List A2) (p : Option Addr) (l c : Nat) (m : Nat) (w : World) (hg : opE ⟨1, t, z0, 0, A⟩ = 0) (ht : t.size ≤ 8388608) (hR : RN w (.slice p l c) A) (hl : A.length ≤ 1048576) (h1 : 1 ≤ m) (hm : (m : Int) < len5 ⟨1, t, z0, 0, A⟩) :
    Calls Tryz.prog 64 #[opV ⟨1, t, z0, 0, A⟩ (.slice p l c), .int .i64 m] w fun r w' => ∃ s1 s2, r = .returned (.tuple #[opV (hd7 ⟨1, t, z0, 0, A⟩ m) s1, opV (tl7 ⟨1, t, z0, 0, A⟩ m) s2, .bool true]) ∧ OwnA w' w.heap.size s1 A ∧ OwnA w' w.heap.size s2 A ∧ Below w.heap.size w w' := by
  obtain ⟨o, ho⟩ : ∃ o : Op5, o = ⟨1, t, z0, 0, A⟩ := ⟨_, rfl⟩
  have hO : Ins o := by
    rw [← ho] at hg
    rcases op_good hg with ⟨hi, _⟩ | ⟨_, _, h⟩ | ⟨_, _, h⟩
    · exact hi
    · rw [ho] at h; exact absurd (show (1 : Int) = 3 from h) (by decide)
    · rw [ho] at h; exact absurd (show (1 : Int) = 4 from h) (by decide)
  have hko : o.k = 1 := by rw [ho]
  have b0 := bx3_below w ⟨1, t, z0, 0, A⟩ (.slice p l c)
  have cL := len7_any ⟨1, t, z0, 0, A⟩ p l c (bx3 w ⟨1, t, z0, 0, A⟩ (.slice p l c)) hg ht
  have Z0 := bx3_0 w ⟨1, t, z0, 0, A⟩ (.slice p l c)
  have Z1 := bx3_1 w ⟨1, t, z0, 0, A⟩ (.slice p l c)
  have Z2 := bx3_2 w ⟨1, t, z0, 0, A⟩ (.slice p l c)
  have eh : hd7 ⟨1, t, z0, 0, A⟩ m = headO o m := by unfold hd7; rw [if_pos rfl, ho]; rfl
  have et : tl7 ⟨1, t, z0, 0, A⟩ m = tailO o m := by unfold tl7; rw [if_pos rfl, ho]; rfl
  rw [eh, et]
  have e5 : len5 ⟨1, t, z0, 0, A⟩ = ((scs o.t.data.toList).length : Int) := by rw [len5_1 rfl, ho]
  rw [e5] at cL hm
  have hh := head_list hO.utf m
  have htt := tail_list hO.utf m
  obtain ⟨hv1, hv2, hv3⟩ := valid_text o.t hO.utf
  have c3 := fun W => ref_list t W (by omega)
  have hot : o.t = t := by rw [ho]
  obtain ⟨TH, hTH⟩ : ∃ T, (headO o m).t = T := ⟨_, rfl⟩
  obtain ⟨TT, hTT⟩ : ∃ T, (tailO o m).t = T := ⟨_, rfl⟩
  have eH : headO o m = ⟨1, TH, z0, 0, A⟩ := by rw [← hTH, show A = o.A by rw [ho]]; rfl
  have eT : tailO o m = ⟨1, TT, z0, 0, A⟩ := by rw [← hTT, show A = o.A by rw [ho]]; rfl
  rw [hTH] at hh
  rw [hTT] at htt
  rw [eH, eT]
  rw [hot] at hh htt hv1 hv2 hv3 cL hm
  obtain ⟨rs, hrs⟩ : ∃ rs, scs t.data.toList = rs := ⟨_, rfl⟩
  rw [hrs] at hh htt hv1 hv2 hv3 hm cL
  simp only [hrs] at c3
  have bh : (⟨(encs (rs.take m)).toArray⟩ : ByteArray) = TH := by rw [← hh]
  have bt : (⟨(encs (rs.drop m)).toArray⟩ : ByteArray) = TT := by rw [← htt]
  obtain ⟨n, hn⟩ : ∃ n, rs.length = n := ⟨_, rfl⟩
  have HN : Hid (rs.length = n ∧ (∀ r ∈ rs, scal r) ∧ (⟨(encs (rs.take m)).toArray⟩ : ByteArray) = TH ∧ (⟨(encs (rs.drop m)).toArray⟩ : ByteArray) = TT) := ⟨hn, hv1, bh, bt⟩
  rw [hn] at cL
  simp only [hn] at c3
  rw [hn] at hm hv3
  have hne : ((m : Int) == (n : Int)) = false := beq_eq_false_iff_ne.2 (by omega)
  have HA : Hid (∀ W, Below w.heap.size w W → RN W (.slice p l c) A) := fun W hW => hR.below hW
  clear hh htt hv1 hv2 hrs hTH hTT eH eT bh bt hn hg hO hko eh et e5 ho hot hR
  obtain ⟨W0, hW0⟩ : ∃ W, W = bx3 w ⟨1, t, z0, 0, A⟩ (.slice p l c) := ⟨_, rfl⟩
  go_enter Tryz.func64, Tryz.ntmps64
  go_wp2_with fail
  rw [← hW0] at b0 Z0 Z1 Z2
  refine (hW0 ▸ cL : Calls Tryz.prog 69 #[opV ⟨1, t, z0, 0, A⟩ (.slice p l c)] (bx3 w ⟨1, t, z0, 0, A⟩ (.slice p l c)) fun r w' => r = .returned (.int .i64 n) ∧ Below W0.heap.size W0 w').mono ?_; rintro r w2 ⟨rfl, h2⟩
  clear hW0 cL
  have hz2 : w.heap.size + 1 + 1 < w2.heap.size := Nat.lt_of_lt_of_le (lt_of_cell Z2.1.d0) h2.size
  have H2 : Hid (BoxO w2 w.heap.size ⟨1, t, z0, 0, A⟩ (.slice p l c) ∧ (BoxO w2 (w.heap.size + 1) opZ nilS ∧ FrO w2 (w.heap.size + 1)) ∧ (BoxO w2 (w.heap.size + 1 + 1) opZ nilS ∧ FrO w2 (w.heap.size + 1 + 1)) ∧ Below w.heap.size w w2) := ⟨Z0.below h2, ⟨Z1.1.below h2, Z1.2.below Z1.1 h2⟩, ⟨Z2.1.below h2, Z2.2.below Z2.1 h2⟩, b0.trans (h2.mono b0.size)⟩
  obtain ⟨p0, p1, p2, p3, p4, p5, p6⟩ := H2.out.1
  simp only at p0 p1 p2 p3 p4 p5 p6
  clear Z0 Z1 Z2 h2 b0
  go_upto_region 3 with fail
  go_cut [7, 8] (fun x7 x8 wx => ∃ X Y, x7 = .pointer (some ⟨X, 0, none⟩) ∧ x8 = .pointer (some ⟨Y, 0, none⟩) ∧ X ≠ Y ∧ w2.heap.size ≤ X ∧ w2.heap.size ≤ Y ∧ wx.heap[X]? = some (.cells (opC ⟨1, t, z0, 0, A⟩ (.slice p l c)) 33 (0, 0)) ∧ wx.heap[Y]? = some (.cells (opC ⟨1, t, z0, 0, A⟩ (.slice p l c)) 33 (0, 0)) ∧ Below w2.heap.size w2 wx)
  case first =>
    have HU : ∀ W, Below w2.heap.size w2 W → W.cell? ⟨w.heap.size, 0, none⟩ = some (.int .i64 1) ∧ W.cell? ⟨w.heap.size, 1, none⟩ = some (.string t) ∧ W.cell? ⟨w.heap.size, 2, none⟩ = some (.int .i64 0) ∧ W.cell? ⟨w.heap.size, 3, none⟩ = some (.int .i64 0) ∧ W.cell? ⟨w.heap.size, 4, none⟩ = some (.string ⟨#[]⟩) ∧ W.cell? ⟨w.heap.size, 5, none⟩ = some (.int .i64 0) ∧ W.cell? ⟨w.heap.size, 6, none⟩ = some (.slice p l c) := fun W hW => by
      obtain ⟨a0, a1, a2, a3, a4, a5, a6⟩ := H2.out.1.below hW
      exact ⟨a0, a1, a2, a3, a4, a5, a6⟩
    have M0 := HU w2.drew (Below.refl _ _).drew
    have M1 := fun x => HU (w2.alloc x) ((Below.refl _ _).alloc (Nat.le_refl _) x)
    have M2 := fun x => HU (w2.alloc x).drew ((Below.refl _ _).alloc (Nat.le_refl _) x).drew
    have M3 := fun x y => HU ((w2.alloc x).alloc y) (((Below.refl _ _).alloc (Nat.le_refl _) x).alloc (by simp) y)
    have M4 := fun x y => HU ((w2.alloc x).alloc y).drew (((Below.refl _ _).alloc (Nat.le_refl _) x).alloc (by simp) y).drew
    clear HU
    go_region
    all_goals (try go_wp2)
    all_goals go_meet
    all_goals obtain ⟨h1, h2, hB⟩ := box2_op w2 _ _ rfl
    · exact ⟨_, _, rfl, rfl, by omega, Nat.le_refl _, Nat.le_succ _, h1, h2, hB⟩
    · exact ⟨_, _, rfl, rfl, by omega, Nat.le_succ _, Nat.le_refl _, h2, h1, hB⟩
  case rest =>
    obtain ⟨X, Y, rfl, rfl, nXY, lX, lY, hX, hY, hB⟩ := hcut
    clear p0 p1 p2 p3 p4 p5 p6
    have HU : Hid (∀ W, Below w2.heap.size w2 W → BoxO W w.heap.size ⟨1, t, z0, 0, A⟩ (.slice p l c)) := fun W hW => H2.out.1.below hW
    have n5 : ¬ X = Y := nXY
    have n6 : ¬ Y = X := Ne.symm nXY
    have zX := (Array.getElem?_eq_some_iff.1 hX).1
    have zY := (Array.getElem?_eq_some_iff.1 hY).1
    have hz0 : w.heap.size ≤ w2.heap.size := by omega
    have hzc : w2.heap.size ≤ wc.heap.size := hB.size
    have bE : Below w2.heap.size w2 (wc.alloc (.cells #[] 141)) := hB.alloc hzc _
    obtain ⟨a0, a1, a2, a3, a4, a5, a6⟩ := HU.out _ bE
    simp only at a0 a1 a2 a3 a4 a5 a6
    have oE := own_empty' wc w2.heap.size hzc
    have hR1 := HA.out _ (H2.out.2.2.2.trans (bE.mono hz0))
    have HC4 : Hid (∀ v9 w9, OwnA w9 w2.heap.size v9 A → (wc.alloc (.cells #[] 141)).grownBy w9 (some wc.heap.size) → _) := fun v9 w9 o9 g9 => appX (s0 := .slice none 0 0) (A0 := []) hX hY nXY hB lX hzc (World.ownsRow_nil _ _ _ _) (fun k hk => by cases hk) o9 g9
    clear hX hY hB bE
    go_upto_region 4 with fail
    go_cut [] (fun wx => ∃ q1 r1, wx.heap[X]? = some (.cells (opC ⟨1, t, z0, 0, A⟩ (.slice q1 A.length r1)) 33 (0, 0)) ∧ wx.heap[Y]? = some (.cells (opC ⟨1, t, z0, 0, A⟩ (.slice p l c)) 33 (0, 0)) ∧ OwnA wx w2.heap.size (.slice q1 A.length r1) A ∧ Below w2.heap.size w2 wx ∧ (∀ k, (Value.slice q1 A.length r1).ownBlock = some k → k ≠ X ∧ k ≠ Y))
    case first =>
      go_wp2_with (at_builtin; refine wpList_append_row rfl (.tmp 18) (.tmp 20) rfl w2.heap.size (.slice (some ⟨wc.heap.size, 0, none⟩) 0 0) [] rfl oE (.slice p l c) A rfl hR1.row hR1.nz (by simp; omega) (by rw [World.size_alloc]; omega) ?_; intro v9 w9 own9 gr9; obtain ⟨q1, r1, rfl, e6, f6, k1, k2, k3, _, k4, k5⟩ := HC4.out v9 w9 own9 gr9; have H9 : Hid _ := And.intro k1 (And.intro k2 (And.intro k3 (And.intro k4 k5))); clear k1 k2 k3 k4 k5 own9 gr9)
      go_meet
      exact ⟨q1, r1, H9.out⟩
    case rest =>
      obtain ⟨q1, r1, hX, hY, oX, hB, nX⟩ := hcut
      clear HC4 a0 a1 a2 a3 a4 a5 a6 oE hR1
      have hzc2 : w2.heap.size ≤ wc.heap.size := hB.size
      have bE : Below w2.heap.size w2 (wc.alloc (.cells #[] 141)) := hB.alloc hzc2 _
      obtain ⟨a0, a1, a2, a3, a4, a5, a6⟩ := HU.out _ bE
      simp only at a0 a1 a2 a3 a4 a5 a6
      have oE := own_empty' wc w2.heap.size hzc2
      have hR1 := HA.out _ (H2.out.2.2.2.trans (bE.mono hz0))
      have HC5 : Hid (∀ v9 w9, OwnA w9 w2.heap.size v9 A → (wc.alloc (.cells #[] 141)).grownBy w9 (some wc.heap.size) → _) := fun v9 w9 o9 g9 => appX (X := Y) (Y := X) hY hX n6 hB lY hzc2 oX (fun k hk => ⟨(nX k hk).2, (nX k hk).1⟩) o9 g9
      have HnX : Hid (∀ k, (Value.slice q1 A.length r1).ownBlock = some k → k ≠ X ∧ k ≠ Y) := nX
      clear hX hY hB bE oX nX
      go_upto_region 5 with fail
      go_cut [] (fun wx => ∃ q2 r2, wx.heap[X]? = some (.cells (opC ⟨1, t, z0, 0, A⟩ (.slice q1 A.length r1)) 33 (0, 0)) ∧ wx.heap[Y]? = some (.cells (opC ⟨1, t, z0, 0, A⟩ (.slice q2 A.length r2)) 33 (0, 0)) ∧ OwnA wx w2.heap.size (.slice q1 A.length r1) A ∧ OwnA wx w2.heap.size (.slice q2 A.length r2) A ∧ Below w2.heap.size w2 wx ∧ (∀ k, (Value.slice q2 A.length r2).ownBlock = some k → k ≠ X ∧ k ≠ Y))
      case first =>
        go_wp2_with (at_builtin; refine wpList_append_row rfl (.tmp 23) (.tmp 25) rfl w2.heap.size (.slice (some ⟨wc.heap.size, 0, none⟩) 0 0) [] rfl oE (.slice p l c) A rfl hR1.row hR1.nz (by simp; omega) (by rw [World.size_alloc]; omega) ?_; intro v9 w9 own9 gr9; obtain ⟨q2, r2, rfl, e6, f6, k1, k2, k3, k3', k4, k5⟩ := HC5.out v9 w9 own9 gr9; have H9 : Hid _ := And.intro k1 (And.intro k2 (And.intro k3 (And.intro k3' (And.intro k4 k5)))); clear k1 k2 k3 k3' k4 k5 own9 gr9)
        go_meet
        obtain ⟨k1, k2, k3, k3', k4, k5⟩ := H9.out
        exact ⟨q2, r2, k2, k1, k3', k3, k4, fun k hk => ⟨(k5 k hk).2, (k5 k hk).1⟩⟩
      case rest =>
        obtain ⟨q2, r2, hX, hY, oX, oY, hB, nY⟩ := hcut
        clear HC5 a0 a1 a2 a3 a4 a5 a6 oE hR1
        obtain ⟨a0, a1, a2, a3, a4, a5, a6⟩ := HU.out _ hB
        simp only at a0 a1
        have HV : Hid (wc.heap[X]? = some (.cells (opC ⟨1, t, z0, 0, A⟩ (.slice q1 A.length r1)) 33 (0, 0)) ∧ wc.heap[Y]? = some (.cells (opC ⟨1, t, z0, 0, A⟩ (.slice q2 A.length r2)) 33 (0, 0)) ∧ OwnA wc w2.heap.size (.slice q1 A.length r1) A ∧ OwnA wc w2.heap.size (.slice q2 A.length r2) A ∧ Below w2.heap.size w2 wc ∧ (∀ k, (Value.slice q2 A.length r2).ownBlock = some k → k ≠ X ∧ k ≠ Y)) := ⟨hX, hY, oX, oY, hB, nY⟩
        clear hX hY oX oY hB nY a2 a3 a4 a5 a6 HA
        go_wp2_with fail
        refine (c3 _).mono ?_; rintro r w4 ⟨v, rfl, ol, ⟨gl, cl, rfl⟩, h4⟩
        have hcl : n ≤ cl := by
          rcases ol.2 with ⟨h, _⟩ | ⟨g', cap, cur, h, _, _, h5, _⟩
          · simp at h
          · simp only [Value.slice.injEq] at h
            obtain ⟨-, -, rfl⟩ := h
            rw [ints_length, HN.out.1] at h5
            exact h5
        have hr : ∀ k (hk : k < rs.length), w4.cell? ⟨gl, k, none⟩ = some (.int .i32 ((rs[k] : Nat) : Int)) := fun k hk => by
          have ol' : w4.ownsRow wc.heap.size 21 1 (.slice (some ⟨gl, 0, none⟩) n cl) n (cells32 (ints rs)) := by have := ol; rwa [Own32, ints_length, HN.out.1] at this
          have := ol'.cells (g := gl) rfl k (.int .i32 ((rs[k] : Nat) : Int)) (by
            unfold cells32 ints
            rw [List.getElem?_map, List.getElem?_map, List.getElem?_eq_getElem hk]
            rfl)
          rwa [Addr.add_lit, Nat.zero_add] at this
        have hgl : wc.heap.size ≤ gl := (owns_block ol gl rfl).1
        have zX2 := (Array.getElem?_eq_some_iff.1 HV.out.1).1
        have zY2 := (Array.getElem?_eq_some_iff.1 HV.out.2.1).1
        have hX := heap_below h4 HV.out.1
        have hY := heap_below h4 HV.out.2.1
        have hB4 : Below w2.heap.size w2 w4 := HV.out.2.2.2.2.1.trans (h4.mono HV.out.2.2.2.2.1.size)
        have HW : Hid (OwnA w4 w2.heap.size (.slice q1 A.length r1) A ∧ OwnA w4 w2.heap.size (.slice q2 A.length r2) A ∧ (∀ k, (Value.slice q2 A.length r2).ownBlock = some k → k ≠ X ∧ k ≠ Y)) := ⟨owns_below HV.out.2.2.1 h4, owns_below HV.out.2.2.2.1 h4, HV.out.2.2.2.2.2⟩
        obtain ⟨K, hK⟩ : ∃ K : World → Prop, K = fun W => Below w2.heap.size w2 W ∧ ∀ k (hk : k < rs.length), W.cell? ⟨gl, k, none⟩ = some (.int .i32 ((rs[k] : Nat) : Int)) := ⟨_, rfl⟩
        have HK : K w4 := by rw [hK]; exact ⟨hB4, hr⟩
        have Kb : ∀ W W', Below W.heap.size W W' → K W → K W' := fun W W' hb h => by rw [hK] at h ⊢; exact ⟨h.1.trans (hb.mono h.1.size), fun k hk => (hb.cell (lt_of_cell (h.2 k hk))).trans (h.2 k hk)⟩
        have Kd : ∀ W, K W → K W.drew := fun W h => Kb _ _ (Below.refl _ _).drew h
        have Kl : Hid (∀ W, K W → Below w2.heap.size w2 W) := fun W h => by rw [hK] at h; exact h.1
        have KX : ∀ W u, K W → K (W.setCell ⟨X, 1, none⟩ u) := fun W u h => by
          rw [hK] at h ⊢
          exact ⟨h.1.setCell (p := ⟨X, 1, none⟩) lX u, fun k hk => by rw [World.cell?_setCell_other _ _ _ _ (by intro e; cases e; omega)]; exact h.2 k hk⟩
        have KY : ∀ W u, K W → K (W.setCell ⟨Y, 1, none⟩ u) := fun W u h => by
          rw [hK] at h ⊢
          exact ⟨h.1.setCell (p := ⟨Y, 1, none⟩) lY u, fun k hk => by rw [World.cell?_setCell_other _ _ _ _ (by intro e; cases e; omega)]; exact h.2 k hk⟩
        have cT1 : ∀ W, K W → Calls Tryz.prog 87 #[.slice (some ⟨gl, 0, none⟩) m cl] W fun e w' => e = .returned (.string TH) ∧ Below W.heap.size W w' ∧ K w' := fun W h => by
          have h0 := h
          rw [hK] at h
          have := ref_text4 (some ⟨gl, 0, none⟩) cl (rs.take m) W (fun k hk => ⟨gl, 0, rfl, ?_⟩) (fun r hrr => HN.out.2.1 r (List.mem_of_mem_take hrr)) (by have := HN.out.1; simp; omega)
          · rw [show (rs.take m).length = m by have := HN.out.1; simp; omega, HN.out.2.2.1] at this
            exact this.mono fun e w' ⟨e1, e2⟩ => ⟨e1, e2, Kb _ _ e2 h0⟩
          · have hk2 : k < rs.length := by simp at hk; omega
            have := h.2 _ hk2
            simpa using this
        have cT2 : ∀ W, K W → Calls Tryz.prog 87 #[.slice (some ⟨gl, m, none⟩) (n - m) (cl - m)] W fun e w' => e = .returned (.string TT) ∧ Below W.heap.size W w' ∧ K w' := fun W h => by
          have h0 := h
          rw [hK] at h
          have := ref_text4 (some ⟨gl, m, none⟩) (cl - m) (rs.drop m) W (fun k hk => ⟨gl, m, rfl, ?_⟩) (fun r hrr => HN.out.2.1 r (List.mem_of_mem_drop hrr)) (by have := HN.out.1; simp; omega)
          · rw [show (rs.drop m).length = n - m by have := HN.out.1; simp; omega, HN.out.2.2.2] at this
            exact this.mono fun e w' ⟨e1, e2⟩ => ⟨e1, e2, Kb _ _ e2 h0⟩
          · have hk2 : m + k < rs.length := by simp at hk; omega
            have := h.2 _ hk2
            simpa using this
        have HX4 : Hid (w4.heap[X]? = some (.cells (opC ⟨1, t, z0, 0, A⟩ (.slice q1 A.length r1)) 33 (0, 0)) ∧ w4.heap[Y]? = some (.cells (opC ⟨1, t, z0, 0, A⟩ (.slice q2 A.length r2)) 33 (0, 0))) := ⟨hX, hY⟩
        have hcn : ¬ cl = m := by omega
        have hmn1 : (m : Int) ≤ (n : Int) := by omega
        have hncI : (n : Int) ≤ (cl : Int) := by omega
        have hmc : m ≤ cl := by omega
        clear hX hY hr ol h4 hB4 hK a0 a1 zX2 zY2 hgl c3 HU
        go_upto_region 8 with fail
        go_cut [] (fun wx => wx.heap[X]? = some (.cells (opC ⟨1, TH, z0, 0, A⟩ (.slice q1 A.length r1)) 33 (0, 0)) ∧ wx.heap[Y]? = some (.cells (opC ⟨1, TT, z0, 0, A⟩ (.slice q2 A.length r2)) 33 (0, 0)) ∧ OwnA wx w2.heap.size (.slice q1 A.length r1) A ∧ OwnA wx w2.heap.size (.slice q2 A.length r2) A ∧ Below w2.heap.size w2 wx)
        case first =>
          have sX : ∀ (u : Value), True := fun _ => trivial
          have sY : ∀ (u : Value), True := fun _ => trivial
          have sXY : ∀ (u v : Value), True := fun _ _ => trivial
          have sYX : ∀ (u v : Value), True := fun _ _ => trivial
          have xT : True := trivial
          have yT : True := trivial
          go_region_held3 (fun w' => K w')
            (first | (with_reducible assumption) | (with_reducible exact Kd _ HK) | (with_reducible exact sX _) | (with_reducible exact sY _) | (with_reducible exact sXY _ _) | (with_reducible exact sYX _ _))
            (first
              | (go_at_call_of 87 (some (⟨gl, 0, none⟩ : Addr)); refine (cT1 _ ?_).mono ?_; (· first | (with_reducible assumption) | exact Kd _ HK); rintro r wT ⟨rfl, hT, KT⟩; have xT := heap_below hT HX4.out.1; have yT := heap_below hT HX4.out.2)
              | (go_at_call 87; refine (cT2 _ ?_).mono ?_; (· first | (with_reducible assumption) | exact Kd _ HK); rintro r wU ⟨rfl, hU, KU⟩; have HU2 : Hid (wU.heap[X]? = _ ∧ wU.heap[Y]? = _ ∧ Below w4.heap.size w4 wU) := ⟨heap_below hU xT, heap_below hU yT, ((Below.refl w4.heap.size w4).drew.trans hT).trans (hU.mono hT.size)⟩; have u1 : wU.cell? ⟨X, 1, none⟩ = some (.string t) := (by rw [cell_of_heap HU2.out.1]; rfl); have u2 : wU.cell? ⟨Y, 1, none⟩ = some (.string t) := (by rw [cell_of_heap HU2.out.2.1]; rfl); have v1 : wU.frozen? ⟨X, 1, none⟩ = false := frozen_of_heap HU2.out.1 1; have v2 : wU.frozen? ⟨Y, 1, none⟩ = false := frozen_of_heap HU2.out.2.1 1; have sX := fun u => KX wU u KU; have sY := fun u => KY wU u KU; have sXY := fun u v => KY _ v (KX wU u KU); have sYX := fun u v => KX _ v (KY wU u KU); clear xT yT))
          all_goals (go_wp2_with fail)
          all_goals go_meet
          have HF : ∀ W, W = (wU.setCell ⟨X, 1, none⟩ (.string TH)).setCell ⟨Y, 1, none⟩ (.string TT) → W.heap[X]? = some (.cells (opC ⟨1, TH, z0, 0, A⟩ (.slice q1 A.length r1)) 33 (0, 0)) ∧ W.heap[Y]? = some (.cells (opC ⟨1, TT, z0, 0, A⟩ (.slice q2 A.length r2)) 33 (0, 0)) ∧ OwnA W w2.heap.size (.slice q1 A.length r1) A ∧ OwnA W w2.heap.size (.slice q2 A.length r2) A ∧ Below w2.heap.size w2 W := fun W e => by
            subst e
            obtain ⟨j1, j2, j3⟩ := HU2.out
            refine ⟨(Below.heap_setCell _ _ _ _ n5).trans (set_txt j1), set_txt ((Below.heap_setCell _ _ _ _ n6).trans j2), ?_, ?_, Kl.out _ (sXY _ _)⟩
            · exact owns_same (owns_below HW.out.1 j3) fun k hk => (Below.heap_setCell _ _ _ _ (HnX.out k hk).2).trans (Below.heap_setCell _ _ _ _ (HnX.out k hk).1)
            · exact owns_same (owns_below HW.out.2.1 j3) fun k hk => (Below.heap_setCell _ _ _ _ (HW.out.2.2 k hk).2).trans (Below.heap_setCell _ _ _ _ (HW.out.2.2 k hk).1)
          exact HF _ rfl
        case rest =>
          obtain ⟨hX, hY, oX, oY, hB⟩ := hcut
          obtain ⟨⟨x0, x1, x2, x3, x4, x5, x6⟩, -⟩ := box_of hX
          obtain ⟨⟨y0, y1, y2, y3, y4, y5, y6⟩, -⟩ := box_of hY
          obtain ⟨q0, q1', q2', q3, q4, q5, q6⟩ := H2.out.2.1.1.below hB
          obtain ⟨r0, r1', r2', r3, r4, r5, r6⟩ := H2.out.2.2.1.1.below hB
          obtain ⟨g0, g1, g2, g3, g4, g5, g6⟩ := H2.out.2.1.2.below H2.out.2.1.1 hB
          obtain ⟨h0, h1', h2, h3, h4, h5, h6⟩ := H2.out.2.2.1.2.below H2.out.2.2.1.1 hB
          have HO : Hid (OwnA wc w2.heap.size (.slice q1 A.length r1) A ∧ OwnA wc w2.heap.size (.slice q2 A.length r2) A ∧ Below w.heap.size w wc) := ⟨oX, oY, H2.out.2.2.2.trans (hB.mono hz0)⟩
          have k1 : X ≠ w.heap.size + 1 := by omega
          have k2 : X ≠ w.heap.size + 1 + 1 := by omega
          have k3 : Y ≠ w.heap.size + 1 := by omega
          have k4 : Y ≠ w.heap.size + 1 + 1 := by omega
          have k5 : w.heap.size + 1 + 1 ≠ w.heap.size + 1 := by omega
          have HNX : Hid ((∀ k, (Value.slice q1 A.length r1).ownBlock = some k → k ≠ w.heap.size + 1 ∧ k ≠ w.heap.size + 1 + 1) ∧ (∀ k, (Value.slice q2 A.length r2).ownBlock = some k → k ≠ w.heap.size + 1 ∧ k ≠ w.heap.size + 1 + 1)) :=
            ⟨fun k hk => by have := (owns_block oX k hk).1; omega, fun k hk => by have := (owns_block oY k hk).1; omega⟩
          simp only [z0] at x0 x1 x2 x3 x4 x5 x6 y0 y1 y2 y3 y4 y5 y6 q0 q1' q2' q3 q4 q5 q6 r0 r1' r2' r3 r4 r5 r6
          have HUc : Hid (∀ W : World, (∀ i, W.cell? ⟨X, i, none⟩ = wc.cell? ⟨X, i, none⟩) → (∀ i, W.cell? ⟨Y, i, none⟩ = wc.cell? ⟨Y, i, none⟩) → (W.cell? ⟨X, 0, none⟩ = some (.int .i64 1) ∧ W.cell? ⟨X, 1, none⟩ = some (.string TH) ∧ W.cell? ⟨X, 2, none⟩ = some (.int .i64 0) ∧ W.cell? ⟨X, 3, none⟩ = some (.int .i64 0) ∧ W.cell? ⟨X, 4, none⟩ = some (.string ⟨#[]⟩) ∧ W.cell? ⟨X, 5, none⟩ = some (.int .i64 0) ∧ W.cell? ⟨X, 6, none⟩ = some (.slice q1 A.length r1) ∧ W.cell? ⟨Y, 0, none⟩ = some (.int .i64 1) ∧ W.cell? ⟨Y, 1, none⟩ = some (.string TT) ∧ W.cell? ⟨Y, 2, none⟩ = some (.int .i64 0) ∧ W.cell? ⟨Y, 3, none⟩ = some (.int .i64 0) ∧ W.cell? ⟨Y, 4, none⟩ = some (.string ⟨#[]⟩) ∧ W.cell? ⟨Y, 5, none⟩ = some (.int .i64 0) ∧ W.cell? ⟨Y, 6, none⟩ = some (.slice q2 A.length r2))) := fun W a b => ⟨(a _).trans x0, (a _).trans x1, (a _).trans x2, (a _).trans x3, (a _).trans x4, (a _).trans x5, (a _).trans x6, (b _).trans y0, (b _).trans y1, (b _).trans y2, (b _).trans y3, (b _).trans y4, (b _).trans y5, (b _).trans y6⟩
          have M0 := HUc.out wc.drew (fun _ => rfl) (fun _ => rfl)
          have M1 := fun u0 u1 u2 u3 u4 u5 u6 => HUc.out (((((((wc.setCell ⟨w.heap.size + 1, 0, none⟩ u0).setCell ⟨w.heap.size + 1, 1, none⟩ u1).setCell ⟨w.heap.size + 1, 2, none⟩ u2).setCell ⟨w.heap.size + 1, 3, none⟩ u3).setCell ⟨w.heap.size + 1, 4, none⟩ u4).setCell ⟨w.heap.size + 1, 5, none⟩ u5).setCell ⟨w.heap.size + 1, 6, none⟩ u6).drew (fun i => (cell_drew' _ _).trans (cell_set7 (B := w.heap.size + 1) (j := i) wc k1 u0 u1 u2 u3 u4 u5 u6)) (fun i => (cell_drew' _ _).trans (cell_set7 (B := w.heap.size + 1) (j := i) wc k3 u0 u1 u2 u3 u4 u5 u6))
          have M2 := fun v0 v1 v2 v3 v4 v5 v6 u0 u1 u2 u3 u4 u5 u6 => HUc.out ((((((((((((((wc.setCell ⟨w.heap.size + 1, 0, none⟩ v0).setCell ⟨w.heap.size + 1, 1, none⟩ v1).setCell ⟨w.heap.size + 1, 2, none⟩ v2).setCell ⟨w.heap.size + 1, 3, none⟩ v3).setCell ⟨w.heap.size + 1, 4, none⟩ v4).setCell ⟨w.heap.size + 1, 5, none⟩ v5).setCell ⟨w.heap.size + 1, 6, none⟩ v6).setCell ⟨w.heap.size + 1 + 1, 0, none⟩ u0).setCell ⟨w.heap.size + 1 + 1, 1, none⟩ u1).setCell ⟨w.heap.size + 1 + 1, 2, none⟩ u2).setCell ⟨w.heap.size + 1 + 1, 3, none⟩ u3).setCell ⟨w.heap.size + 1 + 1, 4, none⟩ u4).setCell ⟨w.heap.size + 1 + 1, 5, none⟩ u5).setCell ⟨w.heap.size + 1 + 1, 6, none⟩ u6).drew (fun i => (cell_drew' _ _).trans <| (cell_set7 (B := w.heap.size + 1 + 1) (j := i) _ k2 u0 u1 u2 u3 u4 u5 u6).trans (cell_set7 (B := w.heap.size + 1) (j := i) wc k1 v0 v1 v2 v3 v4 v5 v6)) (fun i => (cell_drew' _ _).trans <| (cell_set7 (B := w.heap.size + 1 + 1) (j := i) _ k4 u0 u1 u2 u3 u4 u5 u6).trans (cell_set7 (B := w.heap.size + 1) (j := i) wc k3 v0 v1 v2 v3 v4 v5 v6))
          have HB : Hid (Below w.heap.size w wc) := HO.out.2.2
          clear HUc hX hY oX oY hB
          go_wp2
          go_region
          go_wp2
          exact bodyPost_ret (v := .tuple #[opV ⟨1, TH, z0, 0, A⟩ (.slice q1 A.length r1), opV ⟨1, TT, z0, 0, A⟩ (.slice q2 A.length r2), .bool true]) (by simp [results, Tryz.results64, go_sem, z0, q0, q1', q2', q3, q4, q5, q6, r0, r1', r2', r3, r4, r5, r6]) rfl
            ⟨_, _, rfl, own_weaken (owns_same HO.out.1 (fun k hk => by
              obtain ⟨e1, e2⟩ := HNX.out.1 k hk
              repeat (with_reducible first | (refine (heap_drw7 _ _).trans ?_) | (refine (Below.heap_setCell _ _ _ _ e1).trans ?_) | (refine (Below.heap_setCell _ _ _ _ e2).trans ?_) | rfl))) hz0,
             own_weaken (owns_same HO.out.2.1 (fun k hk => by
              obtain ⟨e1, e2⟩ := HNX.out.2 k hk
              repeat (with_reducible first | (refine (heap_drw7 _ _).trans ?_) | (refine (Below.heap_setCell _ _ _ _ e1).trans ?_) | (refine (Below.heap_setCell _ _ _ _ e2).trans ?_) | rfl))) hz0, by
              repeat (with_reducible first | exact HB.out | (refine Below.drew ?_) | (refine Below.setCell ?_ (p := ⟨w.heap.size + 1, _, none⟩) (Nat.le_succ _) _) | (refine Below.setCell ?_ (p := ⟨w.heap.size + 1 + 1, _, none⟩) (Nat.le_add_right _ 2) _))⟩
end Go.Proofs.YtpmnmlhmeidmeaaGreatDoor

/- vellumref07.Cut of a count. -/
namespace Go.Proofs.YtpmnmlhmeidmeaaGreatDoor
open Go Go.RowKit Go.Lib
set_option linter.unusedVariables false

theorem set_cnt {w : World} {X : Nat} {k : Int} {t : ByteArray} {v : P3} {c c' : Int} {A : List A2} {s : Value} (h : w.heap[X]? = some (.cells (opC ⟨k, t, v, c, A⟩ s) 33 (0, 0))) : (w.setCell ⟨X, 5, none⟩ (.int .i64 c')).heap[X]? = some (.cells (opC ⟨k, t, v, c', A⟩ s) 33 (0, 0)) := by
  rw [heap_set_at w X 5 _ _ _ _ h]; rfl
set_option maxHeartbeats 8000000 in
set_option maxRecDepth 100000 in
theorem cutCnt7_any (k : Int) (t : ByteArray) (x z : Int) (u : ByteArray) (cc : Int) (A : List A2) (p : Option Addr) (l c : Nat) (m : Int) (w : World) (hg : opE ⟨k, t, (x, z, u), cc, A⟩ = 0) (hk : k = 3 ∨ k = 4) (ht : t.size ≤ 8388608) (hR : RN w (.slice p l c) A) (hl : A.length ≤ 1048576) (h1 : 1 ≤ m) (hm : m < cc) :
    Calls Tryz.prog 64 #[opV ⟨k, t, (x, z, u), cc, A⟩ (.slice p l c), .int .i64 m] w fun r w' => ∃ s1 s2, r = .returned (.tuple #[opV (hd7 ⟨k, t, (x, z, u), cc, A⟩ m) s1, opV (tl7 ⟨k, t, (x, z, u), cc, A⟩ m) s2, .bool true]) ∧ OwnA w' w.heap.size s1 A ∧ OwnA w' w.heap.size s2 A ∧ Below w.heap.size w w' := by
  have hcc : cc ≤ 1099511627776 := by
    rcases op_good hg with ⟨_, h⟩ | ⟨hc, _, h⟩ | ⟨hc, _, h⟩
    · exact absurd (show k = 1 ∨ k = 2 from h) (by omega)
    · exact hc.hi
    · exact hc.hi
  have b0 := bx3_below w ⟨k, t, (x, z, u), cc, A⟩ (.slice p l c)
  have cL := len7_any ⟨k, t, (x, z, u), cc, A⟩ p l c (bx3 w ⟨k, t, (x, z, u), cc, A⟩ (.slice p l c)) hg ht
  have Z0 := bx3_0 w ⟨k, t, (x, z, u), cc, A⟩ (.slice p l c)
  have Z1 := bx3_1 w ⟨k, t, (x, z, u), cc, A⟩ (.slice p l c)
  have Z2 := bx3_2 w ⟨k, t, (x, z, u), cc, A⟩ (.slice p l c)
  have eh : hd7 ⟨k, t, (x, z, u), cc, A⟩ m = ⟨k, t, (x, z, u), m, A⟩ := if_neg (by show ¬ k = 1; omega)
  have et : tl7 ⟨k, t, (x, z, u), cc, A⟩ m = ⟨k, t, (x, z, u), cc - m, A⟩ := if_neg (by show ¬ k = 1; omega)
  rw [eh, et]
  have e5 : len5 ⟨k, t, (x, z, u), cc, A⟩ = cc := len5_3 hk
  rw [e5] at cL
  have hne : (m == cc) = false := beq_eq_false_iff_ne.2 (by omega)
  have hk1 : (k == 1) = false := beq_eq_false_iff_ne.2 (by omega)
  have HA : Hid (∀ W, Below w.heap.size w W → RN W (.slice p l c) A) := fun W hW => hR.below hW
  clear hg eh et e5 hR hk
  obtain ⟨W0, hW0⟩ : ∃ W, W = bx3 w ⟨k, t, (x, z, u), cc, A⟩ (.slice p l c) := ⟨_, rfl⟩
  go_enter Tryz.func64, Tryz.ntmps64
  go_wp2_with fail
  rw [← hW0] at b0 Z0 Z1 Z2
  refine (hW0 ▸ cL : Calls Tryz.prog 69 #[opV ⟨k, t, (x, z, u), cc, A⟩ (.slice p l c)] (bx3 w ⟨k, t, (x, z, u), cc, A⟩ (.slice p l c)) fun r w' => r = .returned (.int .i64 cc) ∧ Below W0.heap.size W0 w').mono ?_; rintro r w2 ⟨rfl, h2⟩
  clear hW0 cL
  have hz2 : w.heap.size + 1 + 1 < w2.heap.size := Nat.lt_of_lt_of_le (lt_of_cell Z2.1.d0) h2.size
  have H2 : Hid (BoxO w2 w.heap.size ⟨k, t, (x, z, u), cc, A⟩ (.slice p l c) ∧ (BoxO w2 (w.heap.size + 1) opZ nilS ∧ FrO w2 (w.heap.size + 1)) ∧ (BoxO w2 (w.heap.size + 1 + 1) opZ nilS ∧ FrO w2 (w.heap.size + 1 + 1)) ∧ Below w.heap.size w w2) := ⟨Z0.below h2, ⟨Z1.1.below h2, Z1.2.below Z1.1 h2⟩, ⟨Z2.1.below h2, Z2.2.below Z2.1 h2⟩, b0.trans (h2.mono b0.size)⟩
  obtain ⟨p0, p1, p2, p3, p4, p5, p6⟩ := H2.out.1
  simp only at p0 p1 p2 p3 p4 p5 p6
  clear Z0 Z1 Z2 h2 b0
  go_upto_region 3 with fail
  go_cut [7, 8] (fun x7 x8 wx => ∃ X Y, x7 = .pointer (some ⟨X, 0, none⟩) ∧ x8 = .pointer (some ⟨Y, 0, none⟩) ∧ X ≠ Y ∧ w2.heap.size ≤ X ∧ w2.heap.size ≤ Y ∧ wx.heap[X]? = some (.cells (opC ⟨k, t, (x, z, u), cc, A⟩ (.slice p l c)) 33 (0, 0)) ∧ wx.heap[Y]? = some (.cells (opC ⟨k, t, (x, z, u), cc, A⟩ (.slice p l c)) 33 (0, 0)) ∧ Below w2.heap.size w2 wx)
  case first =>
    have HU : ∀ W, Below w2.heap.size w2 W → W.cell? ⟨w.heap.size, 0, none⟩ = some (.int .i64 k) ∧ W.cell? ⟨w.heap.size, 1, none⟩ = some (.string t) ∧ W.cell? ⟨w.heap.size, 2, none⟩ = some (.int .i64 x) ∧ W.cell? ⟨w.heap.size, 3, none⟩ = some (.int .i64 z) ∧ W.cell? ⟨w.heap.size, 4, none⟩ = some (.string u) ∧ W.cell? ⟨w.heap.size, 5, none⟩ = some (.int .i64 cc) ∧ W.cell? ⟨w.heap.size, 6, none⟩ = some (.slice p l c) := fun W hW => by
      obtain ⟨a0, a1, a2, a3, a4, a5, a6⟩ := H2.out.1.below hW
      exact ⟨a0, a1, a2, a3, a4, a5, a6⟩
    have M0 := HU w2.drew (Below.refl _ _).drew
    have M1 := fun x => HU (w2.alloc x) ((Below.refl _ _).alloc (Nat.le_refl _) x)
    have M2 := fun x => HU (w2.alloc x).drew ((Below.refl _ _).alloc (Nat.le_refl _) x).drew
    have M3 := fun x y => HU ((w2.alloc x).alloc y) (((Below.refl _ _).alloc (Nat.le_refl _) x).alloc (by simp) y)
    have M4 := fun x y => HU ((w2.alloc x).alloc y).drew (((Below.refl _ _).alloc (Nat.le_refl _) x).alloc (by simp) y).drew
    clear HU
    go_region
    all_goals (try go_wp2)
    all_goals go_meet
    all_goals obtain ⟨h1, h2, hB⟩ := box2_op w2 _ _ rfl
    · exact ⟨_, _, rfl, rfl, by omega, Nat.le_refl _, Nat.le_succ _, h1, h2, hB⟩
    · exact ⟨_, _, rfl, rfl, by omega, Nat.le_succ _, Nat.le_refl _, h2, h1, hB⟩
  case rest =>
    obtain ⟨X, Y, rfl, rfl, nXY, lX, lY, hX, hY, hB⟩ := hcut
    clear p0 p1 p2 p3 p4 p5 p6
    have HU : Hid (∀ W, Below w2.heap.size w2 W → BoxO W w.heap.size ⟨k, t, (x, z, u), cc, A⟩ (.slice p l c)) := fun W hW => H2.out.1.below hW
    have n5 : ¬ X = Y := nXY
    have n6 : ¬ Y = X := Ne.symm nXY
    have zX := (Array.getElem?_eq_some_iff.1 hX).1
    have zY := (Array.getElem?_eq_some_iff.1 hY).1
    have hz0 : w.heap.size ≤ w2.heap.size := by omega
    have hzc : w2.heap.size ≤ wc.heap.size := hB.size
    have bE : Below w2.heap.size w2 (wc.alloc (.cells #[] 141)) := hB.alloc hzc _
    obtain ⟨a0, a1, a2, a3, a4, a5, a6⟩ := HU.out _ bE
    simp only at a0 a1 a2 a3 a4 a5 a6
    have oE := own_empty' wc w2.heap.size hzc
    have hR1 := HA.out _ (H2.out.2.2.2.trans (bE.mono hz0))
    have HC4 : Hid (∀ v9 w9, OwnA w9 w2.heap.size v9 A → (wc.alloc (.cells #[] 141)).grownBy w9 (some wc.heap.size) → _) := fun v9 w9 o9 g9 => appX (s0 := .slice none 0 0) (A0 := []) hX hY nXY hB lX hzc (World.ownsRow_nil _ _ _ _) (fun k hk => by cases hk) o9 g9
    clear hX hY hB bE
    go_upto_region 4 with fail
    go_cut [] (fun wx => ∃ q1 r1, wx.heap[X]? = some (.cells (opC ⟨k, t, (x, z, u), cc, A⟩ (.slice q1 A.length r1)) 33 (0, 0)) ∧ wx.heap[Y]? = some (.cells (opC ⟨k, t, (x, z, u), cc, A⟩ (.slice p l c)) 33 (0, 0)) ∧ OwnA wx w2.heap.size (.slice q1 A.length r1) A ∧ Below w2.heap.size w2 wx ∧ (∀ k, (Value.slice q1 A.length r1).ownBlock = some k → k ≠ X ∧ k ≠ Y))
    case first =>
      go_wp2_with (at_builtin; refine wpList_append_row rfl (.tmp 18) (.tmp 20) rfl w2.heap.size (.slice (some ⟨wc.heap.size, 0, none⟩) 0 0) [] rfl oE (.slice p l c) A rfl hR1.row hR1.nz (by simp; omega) (by rw [World.size_alloc]; omega) ?_; intro v9 w9 own9 gr9; obtain ⟨q1, r1, rfl, e6, f6, k1, k2, k3, _, k4, k5⟩ := HC4.out v9 w9 own9 gr9; have H9 : Hid _ := And.intro k1 (And.intro k2 (And.intro k3 (And.intro k4 k5))); clear k1 k2 k3 k4 k5 own9 gr9)
      go_meet
      exact ⟨q1, r1, H9.out⟩
    case rest =>
      obtain ⟨q1, r1, hX, hY, oX, hB, nX⟩ := hcut
      clear HC4 a0 a1 a2 a3 a4 a5 a6 oE hR1
      have hzc2 : w2.heap.size ≤ wc.heap.size := hB.size
      have bE : Below w2.heap.size w2 (wc.alloc (.cells #[] 141)) := hB.alloc hzc2 _
      obtain ⟨a0, a1, a2, a3, a4, a5, a6⟩ := HU.out _ bE
      simp only at a0 a1 a2 a3 a4 a5 a6
      have oE := own_empty' wc w2.heap.size hzc2
      have hR1 := HA.out _ (H2.out.2.2.2.trans (bE.mono hz0))
      have HC5 : Hid (∀ v9 w9, OwnA w9 w2.heap.size v9 A → (wc.alloc (.cells #[] 141)).grownBy w9 (some wc.heap.size) → _) := fun v9 w9 o9 g9 => appX (X := Y) (Y := X) hY hX n6 hB lY hzc2 oX (fun k hk => ⟨(nX k hk).2, (nX k hk).1⟩) o9 g9
      have HnX : Hid (∀ k, (Value.slice q1 A.length r1).ownBlock = some k → k ≠ X ∧ k ≠ Y) := nX
      clear hX hY hB bE oX nX
      go_upto_region 5 with fail
      go_cut [] (fun wx => ∃ q2 r2, wx.heap[X]? = some (.cells (opC ⟨k, t, (x, z, u), cc, A⟩ (.slice q1 A.length r1)) 33 (0, 0)) ∧ wx.heap[Y]? = some (.cells (opC ⟨k, t, (x, z, u), cc, A⟩ (.slice q2 A.length r2)) 33 (0, 0)) ∧ OwnA wx w2.heap.size (.slice q1 A.length r1) A ∧ OwnA wx w2.heap.size (.slice q2 A.length r2) A ∧ Below w2.heap.size w2 wx ∧ (∀ k, (Value.slice q2 A.length r2).ownBlock = some k → k ≠ X ∧ k ≠ Y))
      case first =>
        go_wp2_with (at_builtin; refine wpList_append_row rfl (.tmp 23) (.tmp 25) rfl w2.heap.size (.slice (some ⟨wc.heap.size, 0, none⟩) 0 0) [] rfl oE (.slice p l c) A rfl hR1.row hR1.nz (by simp; omega) (by rw [World.size_alloc]; omega) ?_; intro v9 w9 own9 gr9; obtain ⟨q2, r2, rfl, e6, f6, k1, k2, k3, k3', k4, k5⟩ := HC5.out v9 w9 own9 gr9; have H9 : Hid _ := And.intro k1 (And.intro k2 (And.intro k3 (And.intro k3' (And.intro k4 k5)))); clear k1 k2 k3 k3' k4 k5 own9 gr9)
        go_meet
        obtain ⟨k1, k2, k3, k3', k4, k5⟩ := H9.out
        exact ⟨q2, r2, k2, k1, k3', k3, k4, fun k hk => ⟨(k5 k hk).2, (k5 k hk).1⟩⟩
      case rest =>
        obtain ⟨q2, r2, hX, hY, oX, oY, hB, nY⟩ := hcut
        clear HC5 a0 a1 a2 a3 a4 a5 a6 oE hR1
        obtain ⟨a0, a1, a2, a3, a4, a5, a6⟩ := HU.out _ hB
        simp only at a0 a5
        have HV : Hid (wc.heap[X]? = some (.cells (opC ⟨k, t, (x, z, u), cc, A⟩ (.slice q1 A.length r1)) 33 (0, 0)) ∧ wc.heap[Y]? = some (.cells (opC ⟨k, t, (x, z, u), cc, A⟩ (.slice q2 A.length r2)) 33 (0, 0)) ∧ OwnA wc w2.heap.size (.slice q1 A.length r1) A ∧ OwnA wc w2.heap.size (.slice q2 A.length r2) A ∧ Below w2.heap.size w2 wc ∧ (∀ k, (Value.slice q2 A.length r2).ownBlock = some k → k ≠ X ∧ k ≠ Y)) := ⟨hX, hY, oX, oY, hB, nY⟩
        have u1 : wc.cell? ⟨X, 5, none⟩ = some (.int .i64 cc) := (by rw [cell_of_heap hX]; rfl)
        have u2 : wc.cell? ⟨Y, 5, none⟩ = some (.int .i64 cc) := (by rw [cell_of_heap hY]; rfl)
        have v1 : wc.frozen? ⟨X, 5, none⟩ = false := frozen_of_heap hX 5
        have v2 : wc.frozen? ⟨Y, 5, none⟩ = false := frozen_of_heap hY 5
        have w1 : ¬ X = w.heap.size := by omega
        have w2' : ¬ Y = w.heap.size := by omega
        have w3' : ¬ w.heap.size = X := by omega
        have w4' : ¬ w.heap.size = Y := by omega
        clear hX hY oX oY hB nY a1 a2 a3 a4 a6 HA HU
        go_wp2_with fail
        go_upto_region 10 with fail
        go_cut [] (fun wx => wx.heap[X]? = some (.cells (opC ⟨k, t, (x, z, u), m, A⟩ (.slice q1 A.length r1)) 33 (0, 0)) ∧ wx.heap[Y]? = some (.cells (opC ⟨k, t, (x, z, u), cc - m, A⟩ (.slice q2 A.length r2)) 33 (0, 0)) ∧ OwnA wx w2.heap.size (.slice q1 A.length r1) A ∧ OwnA wx w2.heap.size (.slice q2 A.length r2) A ∧ Below w2.heap.size w2 wx)
        case first =>
          have HF : ∀ W, W.heap = ((wc.setCell ⟨X, 5, none⟩ (.int .i64 m)).setCell ⟨Y, 5, none⟩ (.int .i64 (cc - m))).heap → W.os = wc.os → W.tape = wc.tape → W.output = wc.output → W.heap[X]? = some (.cells (opC ⟨k, t, (x, z, u), m, A⟩ (.slice q1 A.length r1)) 33 (0, 0)) ∧ W.heap[Y]? = some (.cells (opC ⟨k, t, (x, z, u), cc - m, A⟩ (.slice q2 A.length r2)) 33 (0, 0)) ∧ OwnA W w2.heap.size (.slice q1 A.length r1) A ∧ OwnA W w2.heap.size (.slice q2 A.length r2) A ∧ Below w2.heap.size w2 W := fun W e e1 e2 e3 => by
            obtain ⟨j1, j2, j3, j4, j5, j6⟩ := HV.out
            have hS := (j5.setCell (p := ⟨X, 5, none⟩) lX (.int .i64 m)).setCell (p := ⟨Y, 5, none⟩) lY (.int .i64 (cc - m))
            refine ⟨by rw [e]; exact (Below.heap_setCell _ _ _ _ n5).trans (set_cnt j1), by rw [e]; exact set_cnt ((Below.heap_setCell _ _ _ _ n6).trans j2), ?_, ?_, ⟨e1.trans j5.os, e2.trans j5.tape, e3.trans j5.output, by rw [e]; exact hS.size, fun k hk => by rw [e]; exact hS.block k hk⟩⟩
            · exact owns_same j3 fun k hk => by rw [e]; exact (Below.heap_setCell _ _ _ _ (HnX.out k hk).2).trans (Below.heap_setCell _ _ _ _ (HnX.out k hk).1)
            · exact owns_same j4 fun k hk => by rw [e]; exact (Below.heap_setCell _ _ _ _ (j6 k hk).2).trans (Below.heap_setCell _ _ _ _ (j6 k hk).1)
          go_region
          all_goals (go_wp2_with fail)
          all_goals go_meet
          all_goals exact HF _ rfl rfl rfl rfl
        case rest =>
          obtain ⟨hX, hY, oX, oY, hB⟩ := hcut
          obtain ⟨⟨x0, x1, x2, x3, x4, x5, x6⟩, -⟩ := box_of hX
          obtain ⟨⟨y0, y1, y2, y3, y4, y5, y6⟩, -⟩ := box_of hY
          obtain ⟨q0, q1', q2', q3, q4, q5, q6⟩ := H2.out.2.1.1.below hB
          obtain ⟨r0, r1', r2', r3, r4, r5, r6⟩ := H2.out.2.2.1.1.below hB
          obtain ⟨g0, g1, g2, g3, g4, g5, g6⟩ := H2.out.2.1.2.below H2.out.2.1.1 hB
          obtain ⟨h0, h1', h2, h3, h4, h5, h6⟩ := H2.out.2.2.1.2.below H2.out.2.2.1.1 hB
          have HO : Hid (OwnA wc w2.heap.size (.slice q1 A.length r1) A ∧ OwnA wc w2.heap.size (.slice q2 A.length r2) A ∧ Below w.heap.size w wc) := ⟨oX, oY, H2.out.2.2.2.trans (hB.mono hz0)⟩
          have k1 : X ≠ w.heap.size + 1 := by omega
          have k2 : X ≠ w.heap.size + 1 + 1 := by omega
          have k3 : Y ≠ w.heap.size + 1 := by omega
          have k4 : Y ≠ w.heap.size + 1 + 1 := by omega
          have k5 : w.heap.size + 1 + 1 ≠ w.heap.size + 1 := by omega
          have HNX : Hid ((∀ k, (Value.slice q1 A.length r1).ownBlock = some k → k ≠ w.heap.size + 1 ∧ k ≠ w.heap.size + 1 + 1) ∧ (∀ k, (Value.slice q2 A.length r2).ownBlock = some k → k ≠ w.heap.size + 1 ∧ k ≠ w.heap.size + 1 + 1)) :=
            ⟨fun k hk => by have := (owns_block oX k hk).1; omega, fun k hk => by have := (owns_block oY k hk).1; omega⟩
          simp only [z0] at x0 x1 x2 x3 x4 x5 x6 y0 y1 y2 y3 y4 y5 y6 q0 q1' q2' q3 q4 q5 q6 r0 r1' r2' r3 r4 r5 r6
          have HUc : Hid (∀ W : World, (∀ i, W.cell? ⟨X, i, none⟩ = wc.cell? ⟨X, i, none⟩) → (∀ i, W.cell? ⟨Y, i, none⟩ = wc.cell? ⟨Y, i, none⟩) → (W.cell? ⟨X, 0, none⟩ = some (.int .i64 k) ∧ W.cell? ⟨X, 1, none⟩ = some (.string t) ∧ W.cell? ⟨X, 2, none⟩ = some (.int .i64 x) ∧ W.cell? ⟨X, 3, none⟩ = some (.int .i64 z) ∧ W.cell? ⟨X, 4, none⟩ = some (.string u) ∧ W.cell? ⟨X, 5, none⟩ = some (.int .i64 m) ∧ W.cell? ⟨X, 6, none⟩ = some (.slice q1 A.length r1) ∧ W.cell? ⟨Y, 0, none⟩ = some (.int .i64 k) ∧ W.cell? ⟨Y, 1, none⟩ = some (.string t) ∧ W.cell? ⟨Y, 2, none⟩ = some (.int .i64 x) ∧ W.cell? ⟨Y, 3, none⟩ = some (.int .i64 z) ∧ W.cell? ⟨Y, 4, none⟩ = some (.string u) ∧ W.cell? ⟨Y, 5, none⟩ = some (.int .i64 (cc - m)) ∧ W.cell? ⟨Y, 6, none⟩ = some (.slice q2 A.length r2))) := fun W a b => ⟨(a _).trans x0, (a _).trans x1, (a _).trans x2, (a _).trans x3, (a _).trans x4, (a _).trans x5, (a _).trans x6, (b _).trans y0, (b _).trans y1, (b _).trans y2, (b _).trans y3, (b _).trans y4, (b _).trans y5, (b _).trans y6⟩
          have M0 := HUc.out wc.drew (fun _ => rfl) (fun _ => rfl)
          have M1 := fun u0 u1 u2 u3 u4 u5 u6 => HUc.out (((((((wc.setCell ⟨w.heap.size + 1, 0, none⟩ u0).setCell ⟨w.heap.size + 1, 1, none⟩ u1).setCell ⟨w.heap.size + 1, 2, none⟩ u2).setCell ⟨w.heap.size + 1, 3, none⟩ u3).setCell ⟨w.heap.size + 1, 4, none⟩ u4).setCell ⟨w.heap.size + 1, 5, none⟩ u5).setCell ⟨w.heap.size + 1, 6, none⟩ u6).drew (fun i => (cell_drew' _ _).trans (cell_set7 (B := w.heap.size + 1) (j := i) wc k1 u0 u1 u2 u3 u4 u5 u6)) (fun i => (cell_drew' _ _).trans (cell_set7 (B := w.heap.size + 1) (j := i) wc k3 u0 u1 u2 u3 u4 u5 u6))
          have M2 := fun v0 v1 v2 v3 v4 v5 v6 u0 u1 u2 u3 u4 u5 u6 => HUc.out ((((((((((((((wc.setCell ⟨w.heap.size + 1, 0, none⟩ v0).setCell ⟨w.heap.size + 1, 1, none⟩ v1).setCell ⟨w.heap.size + 1, 2, none⟩ v2).setCell ⟨w.heap.size + 1, 3, none⟩ v3).setCell ⟨w.heap.size + 1, 4, none⟩ v4).setCell ⟨w.heap.size + 1, 5, none⟩ v5).setCell ⟨w.heap.size + 1, 6, none⟩ v6).setCell ⟨w.heap.size + 1 + 1, 0, none⟩ u0).setCell ⟨w.heap.size + 1 + 1, 1, none⟩ u1).setCell ⟨w.heap.size + 1 + 1, 2, none⟩ u2).setCell ⟨w.heap.size + 1 + 1, 3, none⟩ u3).setCell ⟨w.heap.size + 1 + 1, 4, none⟩ u4).setCell ⟨w.heap.size + 1 + 1, 5, none⟩ u5).setCell ⟨w.heap.size + 1 + 1, 6, none⟩ u6).drew (fun i => (cell_drew' _ _).trans <| (cell_set7 (B := w.heap.size + 1 + 1) (j := i) _ k2 u0 u1 u2 u3 u4 u5 u6).trans (cell_set7 (B := w.heap.size + 1) (j := i) wc k1 v0 v1 v2 v3 v4 v5 v6)) (fun i => (cell_drew' _ _).trans <| (cell_set7 (B := w.heap.size + 1 + 1) (j := i) _ k4 u0 u1 u2 u3 u4 u5 u6).trans (cell_set7 (B := w.heap.size + 1) (j := i) wc k3 v0 v1 v2 v3 v4 v5 v6))
          have HB : Hid (Below w.heap.size w wc) := HO.out.2.2
          clear HUc hX hY oX oY hB
          go_wp2
          go_region
          go_wp2
          exact bodyPost_ret (v := .tuple #[opV ⟨k, t, (x, z, u), m, A⟩ (.slice q1 A.length r1), opV ⟨k, t, (x, z, u), cc - m, A⟩ (.slice q2 A.length r2), .bool true]) (by simp [results, Tryz.results64, go_sem, q0, q1', q2', q3, q4, q5, q6, r0, r1', r2', r3, r4, r5, r6]) rfl
            ⟨_, _, rfl, own_weaken (owns_same HO.out.1 (fun k hk => by
              obtain ⟨e1, e2⟩ := HNX.out.1 k hk
              repeat (with_reducible first | (refine (heap_drw7 _ _).trans ?_) | (refine (Below.heap_setCell _ _ _ _ e1).trans ?_) | (refine (Below.heap_setCell _ _ _ _ e2).trans ?_) | rfl))) hz0,
             own_weaken (owns_same HO.out.2.1 (fun k hk => by
              obtain ⟨e1, e2⟩ := HNX.out.2 k hk
              repeat (with_reducible first | (refine (heap_drw7 _ _).trans ?_) | (refine (Below.heap_setCell _ _ _ _ e1).trans ?_) | (refine (Below.heap_setCell _ _ _ _ e2).trans ?_) | rfl))) hz0, by
              repeat (with_reducible first | exact HB.out | (refine Below.drew ?_) | (refine Below.setCell ?_ (p := ⟨w.heap.size + 1, _, none⟩) (Nat.le_succ _) _) | (refine Below.setCell ?_ (p := ⟨w.heap.size + 1 + 1, _, none⟩) (Nat.le_add_right _ 2) _))⟩
theorem refCut7_any (o : Op5) (p : Option Addr) (l c : Nat) (n : Int) (w : World) (hg : opE o = 0) (ht : o.t.size ≤ 8388608) (hR : RN w (.slice p l c) o.A) (hl : o.A.length ≤ 1048576) (h1 : 1 ≤ n) (hn : n < len5 o) :
    Calls Tryz.prog 64 #[opV o (.slice p l c), .int .i64 n] w fun r w' => ∃ s1 s2, r = .returned (.tuple #[opV (hd7 o n) s1, opV (tl7 o n) s2, .bool true]) ∧ OwnA w' w.heap.size s1 o.A ∧ OwnA w' w.heap.size s2 o.A ∧ Below w.heap.size w w' := by
  rcases op_good hg with ⟨hi, hk⟩ | ⟨hc, hA, hk⟩ | ⟨hc, hA, hk⟩
  · have e : len5 o = (lenO o : Int) := by unfold len5; rw [if_pos hk]
    obtain ⟨k1, kl⟩ := lenO_2 hi (by omega)
    have hv : o.v = z0 := by
      rcases hi.kind with ⟨_, hv⟩ | ⟨h2, _⟩
      · exact hv
      · omega
    have h0 := hi.count
    obtain ⟨m, rfl⟩ : ∃ m : Nat, n = m := ⟨n.toNat, by omega⟩
    obtain ⟨k, t, v, cc, A⟩ := o
    simp only at k1 hv h0
    subst k1 hv h0
    exact cutTxt7_any t A p l c m w hg ht hR hl (by omega) hn
  · have e := len5_3 (e := o) (.inl hk)
    rw [e] at hn
    obtain ⟨k, t, ⟨x, z, u⟩, cc, A⟩ := o
    exact cutCnt7_any k t x z u cc A p l c n w hg (.inl hk) ht hR hl h1 hn
  · have e := len5_3 (e := o) (.inr hk)
    rw [e] at hn
    obtain ⟨k, t, ⟨x, z, u⟩, cc, A⟩ := o
    exact cutCnt7_any k t x z u cc A p l c n w hg (.inr hk) ht hR hl h1 hn
end Go.Proofs.YtpmnmlhmeidmeaaGreatDoor
