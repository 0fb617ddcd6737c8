/- The document's deltas: Canonical: the canonical list of operations. The canonical list while it is made: sizes. The document's deltas: Canonical. The document's answers for ops: empty, Check, Length, apart. The document's deltas: Of. vellummade's Delta and Is, vellumspare's Heavy. vellumlaw10.both. Deltas unit by unit: composing and carrying over by runs. The pieces of a side, plain retains behind them: put together they are the list again. How much the pieces of a side keep and delete. What is put down, step by step, when two deltas are gone through side by side: the second behind the first. -/
import Derived.Test.YtplnojapnaaakaaGreatDoorPMge
import Derived.Test.YtplnojapnaaakaaGreatDoorPMgc
import Derived.Test.YtplnojapnaaakaaGreatDoorPMga
import Derived.Test.YtplnojapnaaakaaGreatDoorPMgb

/- The document's deltas: Canonical: the canonical list of operations. -/
namespace Go.Proofs.YtplnojapnaaakaaGreatDoor
open Go Go.RowKit Go.Lib
set_option linter.unusedVariables false
set_option maxHeartbeats 1000000 in
theorem plain6_any (o : Op5) (p : Option Addr) (l c : Nat) (w : World) (hl : l = o.A.length) : Calls Tryz.prog 46 #[opV o (.slice p l c)] w fun r w' => r = .returned (.bool (plainR o)) ∧ Below w.heap.size w w' := by
  have hp : plainR o = (o.k == 3 && decide (l = 0)) := by
    unfold plainR
    rw [hl]
    cases o.A <;> simp
  rw [hp]
  obtain ⟨k, t, ⟨x, n, u⟩, cc, A⟩ := o
  simp only
  clear hp hl
  by_cases k3 : k = 3
  · subst k3
    have hz : ((l : Int) == 0) = decide (l = 0) := by rw [Bool.eq_iff_iff]; simp
    go_enter Tryz.func46, Tryz.ntmps46
    go_wp2
    go_ret
    exact ⟨by simp, by go_grown⟩
  · have e3 : (k == 3) = false := by simpa using k3
    rw [e3]
    go_enter Tryz.func46, Tryz.ntmps46
    go_wp2
    go_ret
    exact ⟨rfl, by go_grown⟩
/-- push, whatever comes. -/
theorem push6_any {w0 : World} {B : Nat} (v : Value) (D : List OV) (P : List Op5) (o : Op5) (sp : Option Addr) (sl sc : Nat) (w : World) (hB : B ≤ w.heap.size) (hw : Below w0.heap.size w0 w) (hv : OwnO w B v D) (hD : ReD w0 D P) (ho : RN w0 (.slice sp sl sc) o.A) (hl : P.length ≤ 4194304) (hP : ∀ x ∈ P, Wel x ∧ x.A.length ≤ 2097152 ∧ x.t.size ≤ 8388608 ∧ x.c ≤ 2199023255552) (how : Wel o) (hn2 : o.A.length ≤ 2097152) (hot : o.t.size ≤ 8388608) (hoc : o.c ≤ 2199023255552) :
    Calls Tryz.prog 45 #[v, opV o (.slice sp sl sc)] w fun e w' => PushR w0 B w w' v e (pushL P o) := by
  rcases List.eq_nil_or_concat P with rfl | ⟨F, x, rfl⟩
  · exact push6_nil v D [] o sp sl sc w hB hw hv hD ho (by simp) rfl
  · rw [List.concat_eq_append] at hD hl hP ⊢
    obtain ⟨hx1, hx2, hx3, hx4⟩ := hP x (List.mem_append_right _ (List.mem_singleton.2 rfl))
    by_cases h1 : x.k ≠ o.k ∨ o.k = 2
    · rw [push_apart (by rcases h1 with h | h; exact Or.inl h; exact Or.inr (Or.inl h))]
      exact push6_kind v D _ o sp sl sc w hB hw hv hD ho (by omega) F x rfl h1
    · have hk : x.k = o.k := Decidable.byContradiction fun h => h1 (Or.inl h)
      have h2 : o.k ≠ 2 := fun h => h1 (Or.inr h)
      have hcx : 0 ≤ x.c := by
        rcases hx1.kinds with h | h | h | h
        · rw [(hx1.resolve_right (by rintro (⟨a, _⟩ | ⟨a, _⟩) <;> omega)).1.count]; omega
        · omega
        · have := hx1.count (Or.inl h); omega
        · have := hx1.count (Or.inr h); omega
      have hco : 0 ≤ o.c := by
        rcases how.kinds with h | h | h | h
        · rw [(how.resolve_right (by rintro (⟨a, _⟩ | ⟨a, _⟩) <;> omega)).1.count]; omega
        · omega
        · have := how.count (Or.inl h); omega
        · have := how.count (Or.inr h); omega
      have h := push6_same v D _ o sp sl sc w hB hw hv hD ho (by omega) F x rfl hk h2 hx2 hn2 (by omega) ⟨hcx, hco, by omega⟩
      by_cases hA : x.A = o.A
      · rw [if_pos hA] at h
        rw [push_join (by rintro (e | e | e); exact e hk; exact h2 e; exact e hA)]
        exact h
      · rw [if_neg hA] at h
        rw [push_apart (Or.inr (Or.inr hA))]
        exact h
end Go.Proofs.YtplnojapnaaakaaGreatDoor

/- The canonical list while it is made: sizes. -/
namespace Go.Proofs.YtplnojapnaaakaaGreatDoor
open Go Go.RowKit Go.Lib
set_option linter.unusedVariables false
theorem base_jn {x o : Op5} (hk : x.k = o.k) : baseO (jnO x o) = baseO x + baseO o ∨ o.k = 1 ∨ o.k = 2 := by
  by_cases h : o.k = 3 ∨ o.k = 4
  · left
    rw [base_3 h, base_3 (o := x) (by omega), base_3 (o := jnO x o) (by show x.k = 3 ∨ x.k = 4; omega)]
    rfl
  · by_cases h1 : o.k = 1
    · exact Or.inr (Or.inl h1)
    · by_cases h2 : o.k = 2
      · exact Or.inr (Or.inr h2)
      · left
        have e : ∀ y : Op5, y.k = o.k → baseO y = 0 := fun y hy => by unfold baseO; rw [if_neg (by omega)]
        rw [e x hk, e o rfl, e (jnO x o) hk]; rfl
/-- Lists of operations put together bit by bit: sizes. -/
structure PQ (P : List Op5) (T : Nat) (S : Int) (L : Nat) : Prop where
  wel : ∀ x ∈ P, Wel x ∧ x.A.length ≤ 1048576
  txt : txtS P ≤ T
  sum : sumB P ≤ S
  len : P.length ≤ L
theorem PQ.push {P : List Op5} {T L : Nat} {S : Int} {o : Op5} (h : PQ P T S L) (ho : Wel o) (hA : o.A.length ≤ 1048576) : PQ (pushL P o) (T + o.t.size) (S + baseO o) (L + 1) := by
  obtain ⟨s1, s2⟩ := push_size P o
  have h1 := h.txt
  have h2 := h.len
  have h3 := h.sum
  refine ⟨?_, by omega, ?_, by omega⟩
  · rcases List.eq_nil_or_concat P with rfl | ⟨F, x, rfl⟩
    · rw [push_nil]; intro y hy; rw [List.mem_singleton.1 hy]; exact ⟨ho, hA⟩
    · rw [List.concat_eq_append] at h ⊢
      by_cases hj : x.k ≠ o.k ∨ o.k = 2 ∨ x.A ≠ o.A
      · rw [push_apart hj]
        intro y hy
        rcases List.mem_append.1 hy with hy | hy
        · exact h.wel y hy
        · rw [List.mem_singleton.1 hy]; exact ⟨ho, hA⟩
      · rw [push_join hj]
        have hx := h.wel x (List.mem_append_right _ (List.mem_singleton.2 rfl))
        have hk : x.k = o.k := Decidable.byContradiction fun e => hj (Or.inl e)
        have h2' : o.k ≠ 2 := fun e => hj (Or.inr (Or.inl e))
        have hA' : x.A = o.A := Decidable.byContradiction fun e => hj (Or.inr (Or.inr e))
        intro y hy
        rcases List.mem_append.1 hy with hy | hy
        · exact h.wel y (List.mem_append_left _ hy)
        · rw [List.mem_singleton.1 hy]
          exact ⟨(join_wel hx.1 ho hk h2' hA').1, hx.2⟩
  · rcases List.eq_nil_or_concat P with rfl | ⟨F, x, rfl⟩
    · rw [push_nil, sumB_one]; have : sumB ([] : List Op5) = 0 := rfl; omega
    · rw [List.concat_eq_append] at h3 ⊢
      by_cases hj : x.k ≠ o.k ∨ o.k = 2 ∨ x.A ≠ o.A
      · rw [push_apart hj, sumB_append, sumB_one]; omega
      · rw [push_join hj, sumB_append, sumB_one]
        rw [sumB_append, sumB_one] at h3
        have hk : x.k = o.k := Decidable.byContradiction fun e => hj (Or.inl e)
        rcases base_jn hk with e | e | e
        · rw [e]; omega
        · rw [base_1 (o := jnO x o) (by show x.k = 1 ∨ x.k = 2; omega), base_1 (o := o) (Or.inl e)]
          rw [base_1 (o := x) (by omega)] at h3
          omega
        · exact absurd (Or.inr (Or.inl e)) hj
theorem PQ.up {P : List Op5} {T T' L L' : Nat} {S S' : Int} (h : PQ P T S L) (h1 : T ≤ T') (h2 : S ≤ S') (h3 : L ≤ L') : PQ P T' S' L' := ⟨h.wel, Nat.le_trans h.txt h1, Int.le_trans h.sum h2, Nat.le_trans h.len h3⟩
theorem PQ.fold : ∀ (G : List Op5) {P : List Op5} {T L : Nat} {S : Int}, PQ P T S L → (∀ o ∈ G, (Wel o ∧ o.A.length ≤ 1048576) ∧ (o.k = 1 ∨ o.k = 2)) → PQ (G.foldl pushL P) (T + txtS G) S (L + G.length)
  | [], P, T, L, S, h, _ => h
  | o :: r, P, T, L, S, h, hG => by
    obtain ⟨⟨h1, h2⟩, h3⟩ := hG o (List.mem_cons_self ..)
    have hp := h.push h1 h2
    rw [base_1 h3, Int.add_zero] at hp
    have := PQ.fold r hp (fun x hx => hG x (List.mem_cons_of_mem _ hx))
    have e : txtS (o :: r) = o.t.size + txtS r := by simp [txtS]
    rw [e, List.length_cons]
    exact this.up (by omega) (Int.le_refl _) (by omega)
/-- The document's state behind some operations: sizes. -/
structure RunQ (F : List Op5) (s : List Op5 × List Op5 × Int) : Prop where
  out : ∃ T S L, PQ s.1 T S L ∧ T + txtS s.2.1 ≤ txtS F ∧ S + s.2.2 ≤ sumB F ∧ L + s.2.1.length + (if 0 < s.2.2 then 1 else 0) ≤ F.length
  gap : ∀ o ∈ s.2.1, (Wel o ∧ o.A.length ≤ 1048576) ∧ (o.k = 1 ∨ o.k = 2)
  nn : 0 ≤ s.2.2
theorem RunQ.nil : RunQ [] ([], [], 0) := ⟨⟨0, 0, 0, ⟨fun x h => (by cases h), by simp [txtS], by simp [sumB], by simp⟩, by simp [txtS], by simp [sumB], by simp⟩, fun o h => (by cases h), Int.le_refl 0⟩
theorem flush_q {F : List Op5} {s : List Op5 × List Op5 × Int} (h : RunQ F s) : PQ (flushL s.1 s.2.1 s.2.2) (txtS F) (sumB F) F.length := by
  obtain ⟨⟨T, S, L, h1, h2, h3, h4⟩, h5, h6⟩ := h
  have hf := PQ.fold s.2.1 h1 h5
  unfold flushL
  split
  · rename_i h0
    rw [if_pos h0] at h4
    have := hf.push (delO_wel (n := s.2.2) (by omega)) (by show (0 : Nat) ≤ _; omega)
    rw [base_3 (o := delO s.2.2) (Or.inr rfl)] at this
    exact this.up (by show T + txtS s.2.1 + 0 ≤ _; omega) (by show S + s.2.2 ≤ _; omega) (by omega)
  · exact hf.up (by omega) (by omega) (by omega)
theorem RunQ.step {F : List Op5} {s : List Op5 × List Op5 × Int} {o : Op5} (h : RunQ F s) (ho : Wel o) (hA : o.A.length ≤ 1048576) : RunQ (F ++ [o]) (stepC s o) := by
  have e1 := txtS_append F [o]
  have e2 := sumB_append F [o]
  rw [txtS_one] at e1
  rw [sumB_one] at e2
  have e3 : (F ++ [o]).length = F.length + 1 := by simp
  have hq := flush_q h
  have hn := h.nn
  unfold stepC
  rcases ho.kinds with hk | hk | hk | hk
  · rw [if_pos (Or.inl hk)]
    rw [base_1 (Or.inl hk)] at e2
    obtain ⟨T, S, L, h1, h2, h3, h4⟩ := h.out
    refine ⟨⟨T, S, L, h1, ?_, by show S + s.2.2 ≤ _; omega, ?_⟩, fun x hx => ?_, hn⟩
    · show T + txtS (s.2.1 ++ [o]) ≤ _; rw [txtS_append, txtS_one]; omega
    · show L + (s.2.1 ++ [o]).length + _ ≤ _; rw [List.length_append]; simp only [List.length_singleton]; omega
    · rcases List.mem_append.1 hx with hx | hx
      · exact h.gap x hx
      · rw [List.mem_singleton.1 hx]; exact ⟨⟨ho, hA⟩, Or.inl hk⟩
  · rw [if_pos (Or.inr hk)]
    rw [base_1 (Or.inr hk)] at e2
    obtain ⟨T, S, L, h1, h2, h3, h4⟩ := h.out
    refine ⟨⟨T, S, L, h1, ?_, by show S + s.2.2 ≤ _; omega, ?_⟩, fun x hx => ?_, hn⟩
    · show T + txtS (s.2.1 ++ [o]) ≤ _; rw [txtS_append, txtS_one]; omega
    · show L + (s.2.1 ++ [o]).length + _ ≤ _; rw [List.length_append]; simp only [List.length_singleton]; omega
    · rcases List.mem_append.1 hx with hx | hx
      · exact h.gap x hx
      · rw [List.mem_singleton.1 hx]; exact ⟨⟨ho, hA⟩, Or.inr hk⟩
  · rw [if_neg (by omega), if_neg (by omega)]
    have hp := hq.push ho hA
    exact ⟨⟨_, _, _, hp, by show txtS F + o.t.size + txtS [] ≤ _; rw [show txtS [] = 0 from rfl]; omega, by show sumB F + baseO o + 0 ≤ _; omega, by show F.length + 1 + 0 + (if (0 : Int) < 0 then 1 else 0) ≤ _; simp⟩, fun x hx => (by cases hx), Int.le_refl 0⟩
  · rw [if_neg (by omega), if_pos hk]
    rw [base_3 (Or.inr hk)] at e2
    have hc := ho.count (Or.inr hk)
    obtain ⟨T, S, L, h1, h2, h3, h4⟩ := h.out
    refine ⟨⟨T, S, L, h1, by show T + txtS s.2.1 ≤ _; omega, by show S + (s.2.2 + o.c) ≤ _; omega, ?_⟩, h.gap, by show 0 ≤ s.2.2 + o.c; omega⟩
    show L + s.2.1.length + (if 0 < s.2.2 + o.c then 1 else 0) ≤ _
    rw [if_pos (by omega)]; omega
theorem runC_snoc (F : List Op5) (o : Op5) : runC (F ++ [o]) = stepC (runC F) o := by unfold runC; rw [List.foldl_append]; rfl
theorem runQ_take {E : List Op5} (h : OkE E) : ∀ k, k ≤ E.length → RunQ (E.take k) (runC (E.take k)) := fun k => by
  induction k with
  | zero => intro _; rw [List.take_zero]; exact RunQ.nil
  | succ k ih =>
    intro hk
    have he : E[k]? = some E[k] := List.getElem?_eq_getElem (by omega)
    have hm : E[k] ∈ E := List.getElem_mem _
    rw [List.take_add_one, he, Option.toList_some, runC_snoc]
    exact (ih (by omega)).step (h.wel _ hm) (h.fit _ hm).n
/-- What push asks of the operations ahead. -/
theorem PQ.ask {P : List Op5} {T L : Nat} {S : Int} (h : PQ P T S L) (hT : T ≤ 8388608) (hS : S ≤ 2199023255552) : ∀ x ∈ P, Wel x ∧ x.A.length ≤ 2097152 ∧ x.t.size ≤ 8388608 ∧ x.c ≤ 2199023255552 := fun x hx => by
  obtain ⟨h1, h2⟩ := h.wel x hx
  have h3 := txtS_mem hx
  have h4 := h.txt
  have h5 := h.sum
  have h6 := cnt_le (fun y hy => (h.wel y hy).1) hx
  exact ⟨h1, by omega, by omega, by omega⟩
end Go.Proofs.YtplnojapnaaakaaGreatDoor

/- The document's deltas: Canonical. -/
namespace Go.Proofs.YtplnojapnaaakaaGreatDoor
open Go Go.RowKit Go.Lib
set_option linter.unusedVariables false
/-- Two rows of the call's own, apart. -/
structure CanS (w0 wc W : World) (vo vg : Value) (PO PG : List Op5) : Prop where
  out : ∃ D, OwnO W wc.heap.size vo D ∧ ReD w0 D PO
  gap : ∃ D, OwnO W wc.heap.size vg D ∧ ReD w0 D PG
  apart : ∀ k, vo.ownBlock = some k → vg.ownBlock ≠ some k
  below : Below wc.heap.size wc W
  base : Below w0.heap.size w0 wc
theorem CanS.keep {w0 wc W W' : World} {vo vg : Value} {PO PG : List Op5} (h : CanS w0 wc W vo vg PO PG) (b : Below W.heap.size W W') : CanS w0 wc W' vo vg PO PG := by
  obtain ⟨D, a1, a2⟩ := h.out
  obtain ⟨G, b1, b2⟩ := h.gap
  exact ⟨⟨D, owns_below a1 b, a2⟩, ⟨G, owns_below b1 b, b2⟩, h.apart, h.below.trans (b.mono h.below.size), h.base⟩
theorem CanS.pushed {w0 wc W W' : World} {vo vg : Value} {PO PG P : List Op5} {e : Ending} (h : CanS w0 wc W vo vg PO PG) (r : PushR w0 wc.heap.size W W' vo e P) : ∃ v', e = .returned v' ∧ CanS w0 wc W' v' vg P PG := by
  obtain ⟨v', D', rfl, h1, h2, h3, h4⟩ := r
  obtain ⟨D, a1, a2⟩ := h.out
  obtain ⟨G, b1, b2⟩ := h.gap
  have hlt : ∀ k, vg.ownBlock = some k → k < W.heap.size := fun k hk => by
    obtain ⟨_, cur, hc⟩ := owns_block b1 k hk
    exact (Array.getElem?_eq_some_iff.1 hc).1
  refine ⟨v', rfl, ⟨D', h1, h2⟩, ⟨G, owns_same b1 fun k hk => h3.block k (hlt k hk) (fun e => h.apart k e hk), b2⟩, fun k hk hg => ?_, ?_, h.base⟩
  · rcases h4 with h4 | ⟨j, h4, h5⟩
    · exact h.apart k (h4 ▸ hk) hg
    · rw [h4] at hk
      obtain rfl : j = k := Option.some.inj hk
      have := hlt j hg
      omega
  · have := h3.below (B := wc.heap.size) h.below.size (fun k hk => (owns_block a1 k hk).1)
    exact h.below.trans this
theorem CanS.gapped {w0 wc W w8 : World} {vo vg v8 : Value} {PO PG : List Op5} {e : Op5} {sp : Option Addr} {sl sc : Nat} (h : CanS w0 wc W vo vg PO PG) {D : List OV} (hD : ReD w0 D PG) (hr : RN w0 (.slice sp sl sc) e.A) (h1 : OwnO w8 wc.heap.size v8 (D ++ [(e.k, e.t, e.v, e.c, (sp, sl, sc))])) (gr : W.grownBy w8 vg.ownBlock) (hat : v8.ownBlock = vg.ownBlock ∨ v8.ownBlock = some W.heap.size) : CanS w0 wc w8 vo v8 PO (PG ++ [e]) := by
  obtain ⟨DO, a1, a2⟩ := h.out
  obtain ⟨G, b1, b2⟩ := h.gap
  have hlt : ∀ k, vo.ownBlock = some k → k < W.heap.size := fun k hk => by
    obtain ⟨_, cur, hc⟩ := owns_block a1 k hk
    exact (Array.getElem?_eq_some_iff.1 hc).1
  refine ⟨⟨DO, owns_same a1 fun k hk => gr.block k (hlt k hk) (fun e => h.apart k hk e.symm), a2⟩, ⟨_, h1, forall2_append hD (.cons ⟨rfl, rfl, rfl, rfl, hr⟩ .nil)⟩, fun k hk hg => ?_, ?_, h.base⟩
  · rcases hat with e | e
    · exact h.apart k hk (e ▸ hg)
    · rw [e] at hg
      obtain rfl : W.heap.size = k := Option.some.inj hg
      have := hlt _ hk
      omega
  · exact h.below.grown gr h.below.size (fun k hk => (owns_block b1 k hk).1)
theorem CanS.cleared {w0 wc W : World} {vo vg : Value} {PO PG : List Op5} (h : CanS w0 wc W vo vg PO PG) : CanS w0 wc W vo (.slice none 0 0) PO [] :=
  ⟨h.out, ⟨[], ⟨rfl, Or.inl ⟨rfl, rfl⟩⟩, .nil⟩, fun k _ h => (by cases h), h.below, h.base⟩
theorem CanS.len {w0 wc W : World} {vo vg : Value} {PO PG : List Op5} (h : CanS w0 wc W vo vg PO PG) : ∃ p c, vg = .slice p PG.length c := by
  obtain ⟨G, b1, b2⟩ := h.gap
  obtain ⟨p, c, e⟩ := own_slice b1
  exact ⟨p, c, by rw [e, forall2_len b2]⟩
theorem CanS.read {w0 wc W : World} {vo : Value} {PO PG : List Op5} {p : Option Addr} {l c : Nat} (h : CanS w0 wc W vo (.slice p l c) PO PG) (j : Nat) (hj : j < PG.length) : ∃ (e : Op5) (b : Nat) (sp : Option Addr) (sl sc : Nat), PG[j]? = some e ∧ p = some ⟨b, 0, none⟩ ∧ OpAt W b (0 + j * 7) (e.k, e.t, e.v, e.c, (sp, sl, sc)) ∧ RN w0 (.slice sp sl sc) e.A := by
  obtain ⟨G, b1, b2⟩ := h.gap
  have hl := forall2_len b2
  obtain ⟨d, hd⟩ : ∃ d, G[j]? = some d := ⟨_, List.getElem?_eq_getElem (by omega)⟩
  obtain ⟨e, he, h1, h2, h3, h4, h5⟩ := forall2_get b2 j d hd
  obtain ⟨dk, dt, dv, dc, sp, sl, sc⟩ := d
  simp only at h1 h2 h3 h4
  subst h1; subst h2; subst h3; subst h4
  obtain ⟨q, cc, hv⟩ := own_slice b1
  rcases b1.2 with ⟨_, h0⟩ | ⟨g, cap, cur, e1, _⟩
  · omega
  · cases e1
    exact ⟨e, g, sp, sl, sc, he, rfl, own_opAt b1 j _ hd, h5⟩
/-- push on the rows. -/
theorem push_can {w0 wc W : World} {vo vg : Value} {PO PG : List Op5} {T L : Nat} {S : Int} (o : Op5) (sp : Option Addr) (sl sc : Nat) (h : CanS w0 wc W vo vg PO PG) (ho : RN w0 (.slice sp sl sc) o.A) (q : PQ PO T S L) (hT : T ≤ 8388608) (hS : S ≤ 2199023255552) (hL : L ≤ 4194304) (how : Wel o) (hn2 : o.A.length ≤ 1048576) (hot : o.t.size ≤ 8388608) (hoc : o.c ≤ 2199023255552) :
    Calls Tryz.prog 45 #[vo, opV o (.slice sp sl sc)] W fun e w' => ∃ v', e = .returned v' ∧ CanS w0 wc w' v' vg (pushL PO o) PG := by
  obtain ⟨D, a1, a2⟩ := h.out
  have hl := q.len
  exact (push6_any vo D PO o sp sl sc W h.below.size (h.base.trans (h.below.mono h.base.size)) a1 a2 ho (by omega) (q.ask hT hS) how (by omega) hot hoc).mono fun e w' r => h.pushed r
/-- The sizes while a gap is put behind. -/
theorem RunQ.fold {F : List Op5} {s : List Op5 × List Op5 × Int} (h : RunQ F s) (j : Nat) : PQ ((s.2.1.take j).foldl pushL s.1) (txtS F) (sumB F) F.length := by
  obtain ⟨⟨T, S, L, h1, h2, h3, h4⟩, h5, h6⟩ := h
  have hf := PQ.fold (s.2.1.take j) h1 (fun o ho => h5 o (List.mem_of_mem_take ho))
  have e1 := txtS_take s.2.1 j
  have e2 : (s.2.1.take j).length ≤ s.2.1.length := by rw [List.length_take]; omega
  exact hf.up (by omega) (by omega) (by split at h4 <;> omega)
/-- The state ahead of the m-th round. -/
def stA (E : List Op5) (m : Nat) : List Op5 × List Op5 × Int := if m ≤ E.length then runC (E.take m) else (flushL (runC E).1 (runC E).2.1 (runC E).2.2, [], 0)
theorem stA_end (E : List Op5) : stA E (E.length + 1) = (flushL (runC E).1 (runC E).2.1 (runC E).2.2, [], 0) := by unfold stA; rw [if_neg (by omega)]
theorem stA_at {E : List Op5} {m : Nat} (h : m ≤ E.length) : stA E m = runC (E.take m) := by unfold stA; rw [if_pos h]
theorem stA_succ {E : List Op5} {m : Nat} {e : Op5} (h : E[m]? = some e) : stA E (m + 1) = stepC (stA E m) e := by
  have hm : m < E.length := (List.getElem?_eq_some_iff.1 h).1
  rw [stA_at (by omega), stA_at (by omega), List.take_add_one, h, Option.toList_some, runC_snoc]
theorem stA_ins {E : List Op5} {m : Nat} {e : Op5} (h : E[m]? = some e) (hk : e.k = 1 ∨ e.k = 2) : stA E (m + 1) = ((stA E m).1, (stA E m).2.1 ++ [e], (stA E m).2.2) := by rw [stA_succ h]; unfold stepC; rw [if_pos hk]
theorem stA_del {E : List Op5} {m : Nat} {e : Op5} (h : E[m]? = some e) (hk : e.k = 4) : stA E (m + 1) = ((stA E m).1, (stA E m).2.1, (stA E m).2.2 + e.c) := by rw [stA_succ h]; unfold stepC; rw [if_neg (by omega), if_pos hk]
theorem stA_ret {E : List Op5} {m : Nat} {e : Op5} (h : E[m]? = some e) (hk : e.k = 3) : stA E (m + 1) = (pushL (flushL (stA E m).1 (stA E m).2.1 (stA E m).2.2) e, [], 0) := by rw [stA_succ h]; unfold stepC; rw [if_neg (by omega), if_neg (by omega)]
theorem trim_yes {F : List Op5} {x : Op5} (h : plainR x = true) : trimL (F ++ [x]) = F := by unfold trimL; rw [List.getLast?_concat]; simp only; rw [if_pos h, List.dropLast_concat]
theorem trim_no {F : List Op5} {x : Op5} (h : plainR x = false) : trimL (F ++ [x]) = F ++ [x] := by unfold trimL; rw [List.getLast?_concat]; simp only; rw [if_neg (by simp [h])]
/-- The sizes of the state ahead of the m-th round. -/
theorem stA_q {E : List Op5} (h : OkE E) {m : Nat} (hm : m ≤ E.length) : (∀ j, PQ (((stA E m).2.1.take j).foldl pushL (stA E m).1) 8388608 1099511627776 4194304) ∧ PQ (flushL (stA E m).1 (stA E m).2.1 (stA E m).2.2) 8388608 1099511627776 4194304 ∧ (∀ o ∈ (stA E m).2.1, Wel o ∧ o.A.length ≤ 1048576 ∧ o.t.size ≤ 8388608 ∧ o.c ≤ 2199023255552) ∧ 0 ≤ (stA E m).2.2 ∧ (stA E m).2.2 ≤ 1099511627776 ∧ (stA E m).2.1.length ≤ 4194304 := by
  rw [stA_at hm]
  have q := runQ_take h m hm
  have t1 := txtS_take E m
  have t2 := h.txt
  have t3 := h.len
  have t4 : (E.take m).length ≤ E.length := by rw [List.length_take]; omega
  have t5 : sumB (E.take m) ≤ sumB E := by
    have := sumB_append (E.take m) (E.drop m)
    rw [List.take_append_drop] at this
    have := (sums_nn (E := E.drop m) (fun o ho => h.wel o (List.mem_of_mem_drop ho))).1
    omega
  have t6 := h.base
  obtain ⟨⟨T, S, L, h1, h2, h3, h4⟩, h5, h6⟩ := q
  have hS : 0 ≤ S := by
    have := (sums_nn (E := (runC (E.take m)).1) (fun o ho => (h1.wel o ho).1)).1
    have := h1.sum
    omega
  have q := runQ_take h m hm
  refine ⟨fun j => (q.fold j).up (by omega) (by omega) (by omega), (flush_q q).up (by omega) (by omega) (by omega), fun o ho => ?_, h6, by omega, by split at h4 <;> omega⟩
  obtain ⟨⟨a1, a2⟩, a3⟩ := h5 o ho
  have := txtS_mem ho
  refine ⟨a1, a2, by omega, ?_⟩
  rcases a1 with ⟨hi, _⟩ | ⟨b, _⟩ | ⟨b, _⟩
  · rw [hi.count]; omega
  · omega
  · omega
/-- A row of operations in a block from a mark on. -/
def FarO (w : World) (B : Nat) (v : Value) (D : List OV) : Prop :=
  ∃ p cap, v = .slice p D.length cap ∧ D.length ≤ cap ∧ (p = none → cap = 0) ∧ ∀ (j : Nat) (d : OV), D[j]? = some d → ∃ b off, p = some ⟨b, off, none⟩ ∧ B ≤ b ∧ OpAt w b (off + j * 7) d
theorem FarO.row {w : World} {B : Nat} {v : Value} {D : List OV} (h : FarO w B v D) : RowO w v D := by
  obtain ⟨p, cap, h1, h2, h3, h4⟩ := h
  exact ⟨p, cap, h1, h2, h3, fun j d hd => by obtain ⟨b, off, a1, _, a2⟩ := h4 j d hd; exact ⟨b, off, a1, a2⟩⟩
theorem FarO.below {w w' : World} {B : Nat} {v : Value} {D : List OV} (h : FarO w B v D) (hb : Below w.heap.size w w') : FarO w' B v D := by
  obtain ⟨p, cap, h1, h2, h3, h4⟩ := h
  exact ⟨p, cap, h1, h2, h3, fun j d hd => by obtain ⟨b, off, a1, a0, a2⟩ := h4 j d hd; exact ⟨b, off, a1, a0, a2.below hb⟩⟩
theorem FarO.weaken {w : World} {B C : Nat} {v : Value} {D : List OV} (h : FarO w B v D) (hc : C ≤ B) : FarO w C v D := by
  obtain ⟨p, cap, h1, h2, h3, h4⟩ := h
  exact ⟨p, cap, h1, h2, h3, fun j d hd => by obtain ⟨b, off, a1, a0, a2⟩ := h4 j d hd; exact ⟨b, off, a1, Nat.le_trans hc a0, a2⟩⟩
theorem far_own {w : World} {B : Nat} {v : Value} {D F : List OV} {n cap : Nat} {p : Option Addr} (h : OwnO w B v D) (hv : v = .slice p n cap) (hF : ∀ (j : Nat) (d : OV), F[j]? = some d → D[j]? = some d) (hl : F.length ≤ D.length) : FarO w B (.slice p F.length cap) F := by
  rcases h.2 with ⟨e1, h0⟩ | ⟨g, c, cur, e1, h2, h3, h4, h5⟩
  · rw [hv] at e1
    simp only [Value.slice.injEq] at e1
    obtain ⟨rfl, _, rfl⟩ := e1
    obtain rfl : F = [] := List.eq_nil_of_length_eq_zero (by omega)
    exact ⟨none, 0, rfl, Nat.le_refl _, fun _ => rfl, fun j d hd => (by simp at hd)⟩
  · rw [hv] at e1
    simp only [Value.slice.injEq] at e1
    obtain ⟨rfl, rfl, rfl⟩ := e1
    rw [hv] at h
    exact ⟨_, cap, rfl, by omega, fun h => (by cases h), fun j d hd => ⟨g, 0, rfl, h2, own_opAt h j d (hF j d hd)⟩⟩
set_option maxHeartbeats 40000000 in
set_option maxRecDepth 100000 in
theorem canon6_any {w0 : World} (va : Value) (D0 : List OV) (E : List Op5) (w : World) (hb0 : Below w0.heap.size w0 w) (hrow : RowO w va D0) (hre : ReD w0 D0 E) (ok : OkE E) :
    Calls Tryz.prog 11 #[va] w fun r w' => ∃ v', r = .returned v' ∧ (∃ D', FarO w' w.heap.size v' D' ∧ ReD w0 D' (canonL E)) ∧ Below w.heap.size w w' := by
  have hDE := forall2_len hre
  obtain ⟨n, hn⟩ : ∃ n, E.length = n := ⟨_, rfl⟩
  obtain ⟨p, cap, rfl, hcap, hnz, hc⟩ := hrow
  have HR : Hid (∀ k, k < n → ∃ (e : Op5) (b off : Nat) (sp : Option Addr) (sl sc : Nat), E[k]? = some e ∧ p = some ⟨b, off, none⟩ ∧ OpAt w b (off + k * 7) (e.k, e.t, e.v, e.c, (sp, sl, sc)) ∧ RN w0 (.slice sp sl sc) e.A) := fun k hk => by
    obtain ⟨d, hd⟩ : ∃ d, D0[k]? = some d := ⟨_, List.getElem?_eq_getElem (by omega)⟩
    obtain ⟨e, he, h1, h2, h3, h4, h5⟩ := forall2_get hre k d hd
    obtain ⟨b, off, hp, hat⟩ := hc k d hd
    obtain ⟨dk, dt, dv, dc, sp, sl, sc⟩ := d
    simp only at h1 h2 h3 h4
    subst h1; subst h2; subst h3; subst h4
    exact ⟨e, b, off, sp, sl, sc, he, hp, hat, h5⟩
  have HN : Hid (E.length = n ∧ OkE E) := ⟨hn, ok⟩
  have hnl : n ≤ 4194304 := by have := ok.len; omega
  rw [hDE, hn] at hcap ⊢
  clear hc hDE hre hnz ok hn
  have hcs : CanS w0 w ((w.alloc (.cells #[] 33)).alloc (.cells #[] 33)) (.slice (some ⟨w.heap.size, 0, none⟩) 0 0) (.slice (some ⟨w.heap.size + 1, 0, none⟩) 0 0) [] [] := by
    have o1 := own_emptyO w w.heap.size (Nat.le_refl _)
    have b1 := (Below.refl w.heap.size w).alloc (Nat.le_refl _) (.cells #[] 33)
    have s1 : (w.alloc (.cells #[] 33)).heap.size = w.heap.size + 1 := by simp
    have o2 := own_emptyO (w.alloc (.cells #[] 33)) w.heap.size (by omega)
    rw [s1] at o2
    refine ⟨⟨[], owns_below o1 ((Below.refl _ _).alloc (Nat.le_refl _) _), .nil⟩, ⟨[], o2, .nil⟩, fun k h1 h2 => ?_, b1.alloc b1.size _, hb0⟩
    have e1 : w.heap.size = k := Option.some.inj h1
    have e2 : w.heap.size + 1 = k := Option.some.inj h2
    omega
  have HS0 : Hid (CanS w0 w ((w.alloc (.cells #[] 33)).alloc (.cells #[] 33)) (.slice (some ⟨w.heap.size, 0, none⟩) 0 0) (.slice (some ⟨w.heap.size + 1, 0, none⟩) 0 0) (stA E 0).1 (stA E 0).2.1) := by
    rw [stA_at (Nat.zero_le _), List.take_zero]; exact hcs
  have hz0 : (0 : Int) = (stA E 0).2.2 := by rw [stA_at (Nat.zero_le _), List.take_zero]; rfl
  clear hcs
  go_enter Tryz.func11, Tryz.ntmps11
  go_wp2
  obtain ⟨W0, hW0⟩ : ∃ W, W = (w.alloc (.cells #[] 33)).alloc (.cells #[] 33) := ⟨_, rfl⟩
  obtain ⟨vo0, hvo0⟩ : ∃ v : Value, v = .slice (some ⟨w.heap.size, 0, none⟩) 0 0 := ⟨_, rfl⟩
  obtain ⟨vg0, hvg0⟩ : ∃ v : Value, v = .slice (some ⟨w.heap.size + 1, 0, none⟩) 0 0 := ⟨_, rfl⟩
  rw [← hW0, ← hvo0, ← hvg0] at HS0
  try rw [← hW0]
  try rw [← hvo0]
  try rw [← hvg0]
  clear hW0 hvo0 hvg0
  go_loopw [3, 4, 5, 6] (fun vo vg g i wr => ∃ (m : Nat), m ≤ n + 1 ∧ i = .int .i64 m ∧ g = .int .i64 (stA E m).2.2 ∧ Hid (CanS w0 w wr vo vg (stA E m).1 (stA E m).2.1)) (fun _ _ _ i _ => n + 1 - (RowKit.intOf i).toNat)
  case atStart => exact ⟨0, Nat.zero_le _, rfl, by rw [← hz0], HS0⟩
  case round =>
    clear HS0 hz0
    obtain ⟨m, hm, rfl, rfl, HS⟩ := hrel
    by_cases hlt : m < n
    · have hltI : (m : Int) < n := by omega
      have hleI : (m : Int) ≤ n := by omega
      have hge0 : (0 : Int) ≤ (m : Int) := by omega
      obtain ⟨e, b, off, sp, sl, sc, he, rfl, hat, hrn⟩ := HR.out m hlt
      obtain ⟨c0, c1, c2, c3, c4, c5, c6⟩ := hat.below HS.out.below
      have how := HN.out.2.wel e (List.mem_of_getElem? he)
      have hA := (HN.out.2.fit e (List.mem_of_getElem? he)).n
      have ht : e.t.size ≤ 8388608 := by have := txtS_mem (List.mem_of_getElem? he); have := HN.out.2.txt; omega
      have hq := stA_q HN.out.2 (m := m) (by have := HN.out.1; omega)
      have hec : e.c ≤ 2199023255552 := by
        have := HN.out.2.base
        rcases cnt_le HN.out.2.wel (List.mem_of_getElem? he) with h1 | h1 <;> omega
      have HF : Hid (RN w0 (.slice sp sl sc) e.A ∧ Wel e ∧ e.A.length ≤ 1048576 ∧ e.t.size ≤ 8388608 ∧ e.c ≤ 2199023255552) := ⟨hrn, how, hA, ht, hec⟩
      have HQ := Hid.mk' hq
      have cI := ins6_any e sp sl sc wr
      rcases (show (e.k = 1 ∨ e.k = 2) ∨ e.k = 3 ∨ e.k = 4 by rcases how.kinds with h | h | h | h <;> omega) with hk | hk | hk
      · have HNX := Hid.mk' (stA_ins he hk)
        have cI0 : decide (e.k = 1 ∨ e.k = 2) = true := decide_eq_true (by omega)
        rw [cI0] at cI
        have HG : Hid (∀ W, Below wr.heap.size wr W → ∃ D, D.length ≤ 33554432 ∧ OpAt (W.alloc (.cells (opC e (.slice sp sl sc)) 33)) W.heap.size 0 (e.k, e.t, e.v, e.c, (sp, sl, sc)) ∧ OwnO (W.alloc (.cells (opC e (.slice sp sl sc)) 33)) w.heap.size u4 D ∧ w.heap.size ≤ (W.alloc (.cells (opC e (.slice sp sl sc)) 33)).heap.size ∧ ∀ v8 w8, OwnO w8 w.heap.size v8 (D ++ [(e.k, e.t, e.v, e.c, (sp, sl, sc))]) → (W.alloc (.cells (opC e (.slice sp sl sc)) 33)).grownBy w8 u4.ownBlock → (v8.ownBlock = u4.ownBlock ∨ v8.ownBlock = some (W.alloc (.cells (opC e (.slice sp sl sc)) 33)).heap.size) → CanS w0 w w8 u3 v8 (stA E (m + 1)).1 (stA E (m + 1)).2.1) := fun W hW => by
          have h := HS.out.keep hW
          have hk := h.keep ((Below.refl W.heap.size W).alloc (Nat.le_refl _) (.cells (opC e (.slice sp sl sc)) 33))
          obtain ⟨D, d1, d2⟩ := hk.gap
          have hl := forall2_len d2
          have := hq.2.2.2.2.2
          refine ⟨D, by omega, ⟨by simp [opC], by simp [opC], by simp [opC], by simp [opC], by simp [opC], by simp [opC], by simp [opC]⟩, d1, hk.below.size, fun v8 w8 a1 a2 a3 => ?_⟩
          rw [HNX.out]; exact hk.gapped d2 hrn a1 a2 a3
        have H2 : Hid ((stA E (m + 1)).2.2 = (stA E m).2.2) := by show _ = _; rw [HNX.out]
        obtain ⟨g, hg⟩ : ∃ x, (stA E m).2.2 = x := ⟨_, rfl⟩
        rw [hg] at H2 ⊢
        clear cI0 HQ hq hrn how hA ht hec hat he HF HNX HS hg
        obtain ⟨k, t, ⟨xx, nn, u⟩, cc, A⟩ := e
        simp only [slV] at c0 c1 c2 c3 c4 c5 c6 cI
        go_wp2_with fail
        refine cI.mono ?_; rintro r w1 ⟨rfl, hb1⟩
        have d0 := (hb1.cell (lt_of_cell c0)).trans c0
        have d1 := (hb1.cell (lt_of_cell c1)).trans c1
        have d2 := (hb1.cell (lt_of_cell c2)).trans c2
        have d3 := (hb1.cell (lt_of_cell c3)).trans c3
        have d4 := (hb1.cell (lt_of_cell c4)).trans c4
        have d5 := (hb1.cell (lt_of_cell c5)).trans c5
        have d6 := (hb1.cell (lt_of_cell c6)).trans c6
        obtain ⟨D, hD1, hD2, hD3, hD4, hD5⟩ := HG.out w1 hb1
        have HD5 := Hid.mk' hD5
        clear cI HG hD5 c0 c1 c2 c3 c4 c5 c6 hb1
        go_wp2_with (at_builtin; refine wpList_append_ops rfl (.tmp 28) (.tmp 33) rfl w.heap.size u4 D rfl hD3 _ 1 _ rfl hD2 hD1 hD4 ?_; intro v8 w8 own8 gr8 hat8; have HS2 := Hid.mk' (HD5.out v8 w8 own8 gr8 hat8); clear own8 gr8 hat8 HD5 hD1 hD2 hD3 hD4 d0 d1 d2 d3 d4 d5 d6)
        go_roundw
        case rel => exact ⟨m + 1, by omega, by go_num, by rw [H2.out], HS2⟩
        case measure => simp [RowKit.intOf]; omega
      · have HNX := Hid.mk' (stA_ret he hk)
        have cI0 : decide (e.k = 1 ∨ e.k = 2) = false := decide_eq_false (by omega)
        rw [cI0] at cI
        have HBE : Hid (∀ W, Below w.heap.size w W → OpAt W b (off + m * 7) (e.k, e.t, e.v, e.c, (sp, sl, sc))) := fun W hW => hat.below hW
        clear cI0 hq hrn how hA ht hec hat he
        obtain ⟨PO, hPO⟩ : ∃ x, (stA E m).1 = x := ⟨_, rfl⟩
        obtain ⟨PG, hPG⟩ : ∃ x, (stA E m).2.1 = x := ⟨_, rfl⟩
        obtain ⟨g, hg⟩ : ∃ x, (stA E m).2.2 = x := ⟨_, rfl⟩
        rw [hPO, hPG, hg] at HNX HQ
        rw [hPO, hPG] at HS
        rw [hg]
        clear hPO hPG hg
        have hg2 := HQ.out.2.2.2.2.1
        have hg1 := HQ.out.2.2.2.1
        obtain ⟨k, t, ⟨xx, nn, u⟩, cc, A⟩ := e
        simp only [slV] at hk c0 c1 c2 c3 c4 c5 c6 cI HBE
        subst hk
        go_wp2_with fail
        refine cI.mono ?_; rintro r w1 ⟨rfl, hb1⟩
        have c0' := (hb1.cell (lt_of_cell c0)).trans c0
        obtain ⟨pg, cg, rfl⟩ := HS.out.len
        have H1 : Hid (CanS w0 w w1 u3 (.slice pg PG.length cg) PO PG) := HS.out.keep hb1
        obtain ⟨lg, hlg⟩ : ∃ x, PG.length = x := ⟨_, rfl⟩
        have HLG : Hid (PG.length = lg) := hlg
        have hlg4 : lg ≤ 4194304 := by have := HQ.out.2.2.2.2.2; omega
        rw [hlg] at H1 ⊢
        clear hlg cI HS c0 c1 c2 c3 c4 c5 c6 hb1
        go_wp2
        go_loopw [3, 56] (fun vo i wr2 => ∃ (j : Nat), j ≤ lg ∧ i = .int .i64 j ∧ Hid (CanS w0 w wr2 vo (.slice pg lg cg) ((PG.take j).foldl pushL PO) PG)) (fun _ i _ => lg - (RowKit.intOf i).toNat)
        case atStart => exact ⟨0, Nat.zero_le _, rfl, by rw [List.take_zero]; exact H1⟩
        case round =>
          clear H1
          obtain ⟨j, hj, rfl, H1⟩ := hrel
          by_cases hjl : j < lg
          · have hjI : (j : Int) < lg := by omega
            have hj0 : (0 : Int) ≤ (j : Int) := by omega
            obtain ⟨e', gg, sp', sl', sc', he', rfl, hat', hrn'⟩ := H1.out.read j (by rw [HLG.out]; exact hjl)
            obtain ⟨d0, d1, d2, d3, d4, d5, d6⟩ := hat'
            rw [Nat.zero_add] at d0 d1 d2 d3 d4 d5 d6
            have HB := H1.out.keep ((Below.refl wr.heap.size wr).alloc (Nat.le_refl _) (.cells (opC e' (.slice sp' sl' sc')) 33))
            obtain ⟨a1, a2, a3, a4⟩ := HQ.out.2.2.1 e' (List.mem_of_getElem? he')
            have cP := push_can e' sp' sl' sc' HB hrn' (HQ.out.1 j) (Nat.le_refl _) (by decide) (Nat.le_refl _) a1 a2 a3 a4
            have hP2 : pushL ((PG.take j).foldl pushL PO) e' = (PG.take (j + 1)).foldl pushL PO := by rw [List.take_add_one, he', List.foldl_append]; rfl
            rw [hP2] at cP
            clear HB a1 a2 a3 a4 H1 hrn' he' hP2
            obtain ⟨k', t', ⟨x', n', u'⟩, c', A'⟩ := e'
            simp only [opC, slV] at d0 d1 d2 d3 d4 d5 d6 cP
            go_wp2_with fail
            refine cP.mono ?_; rintro r w5 ⟨v5, rfl, h5⟩
            have H5 := Hid.mk' h5
            clear cP d0 d1 d2 d3 d4 d5 d6 h5
            go_wp2
            go_roundw
            case rel => exact ⟨j + 1, by omega, by go_num, H5⟩
            case measure => simp [RowKit.intOf]; omega
          · obtain rfl : j = lg := by omega
            have hjI : ¬ (j : Int) < j := by omega
            have hq1 := HQ.out.1 j
            rw [show PG.take j = PG by have := HLG.out; rw [← this, List.take_length]] at H1 hq1
            by_cases hgp : 0 < g
            · have cP := push_can (delO g) none 0 0 H1.out (RN.nil w0) hq1 (Nat.le_refl _) (by decide) (Nat.le_refl _) (delO_wel (by omega)) (by show (0 : Nat) ≤ _; omega) (by show (0 : Nat) ≤ _; omega) (by show g ≤ _; omega)
              have hfl : pushL (PG.foldl pushL PO) (delO g) = flushL PO PG g := by unfold flushL; rw [if_pos hgp]
              rw [hfl] at cP
              simp only [delO] at cP
              clear hq1 H1 hfl
              go_wp2_with fail
              refine cP.mono ?_; rintro r w5 ⟨v5, rfl, h5⟩
              have H5 := Hid.mk' h5.cleared
              clear cP h5
              obtain ⟨d0, d1, d2, d3, d4, d5, d6⟩ := HBE.out w5 H5.out.below
              have cP := push_can ⟨3, t, (xx, nn, u), cc, A⟩ sp sl sc H5.out HF.out.1 HQ.out.2.1 (Nat.le_refl _) (by decide) (Nat.le_refl _) HF.out.2.1 HF.out.2.2.1 HF.out.2.2.2.1 HF.out.2.2.2.2
              have H2 : Hid ((stA E (m + 1)).2.2 = 0) := by show _ = _; rw [HNX.out]
              have h1 : pushL (flushL PO PG g) ⟨3, t, (xx, nn, u), cc, A⟩ = (stA E (m + 1)).1 := by rw [HNX.out]
              have h2 : ([] : List Op5) = (stA E (m + 1)).2.1 := by rw [HNX.out]
              rw [h1, h2] at cP
              clear H5 h1 h2 HNX HQ HF
              simp only [slV] at d0 d1 d2 d3 d4 d5 d6 cP
              go_wp2_with fail
              refine cP.mono ?_; rintro r w6 ⟨v6, rfl, h6⟩
              have H6 := Hid.mk' h6
              clear cP d0 d1 d2 d3 d4 d5 d6 h6
              go_wp2
              go_roundw
              case rel => exact ⟨m + 1, by omega, by go_num, by rw [H2.out], H6⟩
              case measure => simp [RowKit.intOf]; omega
            · have hfl : PG.foldl pushL PO = flushL PO PG g := by unfold flushL; rw [if_neg hgp]
              rw [hfl] at H1
              have H5 := Hid.mk' H1.out.cleared
              clear hq1 H1 hfl
              obtain ⟨d0, d1, d2, d3, d4, d5, d6⟩ := HBE.out wr H5.out.below
              have cP := push_can ⟨3, t, (xx, nn, u), cc, A⟩ sp sl sc H5.out HF.out.1 HQ.out.2.1 (Nat.le_refl _) (by decide) (Nat.le_refl _) HF.out.2.1 HF.out.2.2.1 HF.out.2.2.2.1 HF.out.2.2.2.2
              have H2 : Hid ((stA E (m + 1)).2.2 = 0) := by show _ = _; rw [HNX.out]
              have h1 : pushL (flushL PO PG g) ⟨3, t, (xx, nn, u), cc, A⟩ = (stA E (m + 1)).1 := by rw [HNX.out]
              have h2 : ([] : List Op5) = (stA E (m + 1)).2.1 := by rw [HNX.out]
              rw [h1, h2] at cP
              clear H5 h1 h2 HNX HQ HF
              simp only [slV] at d0 d1 d2 d3 d4 d5 d6 cP
              go_wp2_with fail
              refine cP.mono ?_; rintro r w6 ⟨v6, rfl, h6⟩
              have H6 := Hid.mk' h6
              clear cP d0 d1 d2 d3 d4 d5 d6 h6
              go_wp2
              go_roundw
              case rel => exact ⟨m + 1, by omega, by go_num, by rw [H2.out], H6⟩
              case measure => simp [RowKit.intOf]; omega
      · have HNX := Hid.mk' (stA_del he hk)
        have cI0 : decide (e.k = 1 ∨ e.k = 2) = false := decide_eq_false (by omega)
        rw [cI0] at cI
        have hcnt := how.count (Or.inr hk)
        have hg2 := hq.2.2.2.2.1
        have hg1 := hq.2.2.2.1
        clear cI0 HF HQ hq hrn how hA ht hat he
        obtain ⟨g, hg⟩ : ∃ x, (stA E m).2.2 = x := ⟨_, rfl⟩
        rw [hg] at HNX hg1 hg2 ⊢
        obtain ⟨k, t, ⟨xx, nn, u⟩, cc, A⟩ := e
        simp only [slV] at hk c0 c1 c2 c3 c4 c5 c6 hec hcnt cI
        subst hk
        go_wp2_with fail
        refine cI.mono ?_; rintro r w1 ⟨rfl, hb1⟩
        have c0' := (hb1.cell (lt_of_cell c0)).trans c0
        have c5' := (hb1.cell (lt_of_cell c5)).trans c5
        have H1 : Hid (CanS w0 w w1 u3 u4 (stA E (m + 1)).1 (stA E (m + 1)).2.1) := by rw [HNX.out]; exact HS.out.keep hb1
        have H2 : Hid ((stA E (m + 1)).2.2 = g + cc) := by show _ = _; rw [HNX.out]
        clear cI HS HNX c0 c1 c2 c3 c4 c5 c6 hg hb1
        go_wp2
        go_roundw
        case rel => exact ⟨m + 1, by omega, by go_num, by rw [H2.out], H1⟩
        case measure => simp [RowKit.intOf]; omega
    · by_cases hmn : m = n
      · subst hmn
        have hge0 : (0 : Int) ≤ (m : Int) := by omega
        have hq := stA_q HN.out.2 (m := m) (by have := HN.out.1; omega)
        have HQ := Hid.mk' hq
        have hst : stA E (m + 1) = (flushL (stA E m).1 (stA E m).2.1 (stA E m).2.2, [], 0) := by
          have e1 := HN.out.1
          rw [← e1, stA_end, stA_at (Nat.le_refl _), List.take_length]
        have HNX := Hid.mk' hst
        clear hq hst hlt
        obtain ⟨PO, hPO⟩ : ∃ x, (stA E m).1 = x := ⟨_, rfl⟩
        obtain ⟨PG, hPG⟩ : ∃ x, (stA E m).2.1 = x := ⟨_, rfl⟩
        obtain ⟨g, hg⟩ : ∃ x, (stA E m).2.2 = x := ⟨_, rfl⟩
        rw [hPO, hPG, hg] at HNX HQ
        rw [hPO, hPG] at HS
        rw [hg]
        clear hPO hPG hg
        have hg2 := HQ.out.2.2.2.2.1
        have hg1 := HQ.out.2.2.2.1
        obtain ⟨pg, cg, rfl⟩ := HS.out.len
        obtain ⟨lg, hlg⟩ : ∃ x, PG.length = x := ⟨_, rfl⟩
        have HLG : Hid (PG.length = lg) := hlg
        have hlg4 : lg ≤ 4194304 := by have := HQ.out.2.2.2.2.2; omega
        have H1 : Hid (CanS w0 w wr u3 (.slice pg PG.length cg) PO PG) := HS
        rw [hlg] at H1 ⊢
        clear hlg HS
        go_wp2
        go_loopw [3, 56] (fun vo i wr2 => ∃ (j : Nat), j ≤ lg ∧ i = .int .i64 j ∧ Hid (CanS w0 w wr2 vo (.slice pg lg cg) ((PG.take j).foldl pushL PO) PG)) (fun _ i _ => lg - (RowKit.intOf i).toNat)
        case atStart => exact ⟨0, Nat.zero_le _, rfl, by rw [List.take_zero]; exact H1⟩
        case round =>
          clear H1
          obtain ⟨j, hj, rfl, H1⟩ := hrel
          by_cases hjl : j < lg
          · have hjI : (j : Int) < lg := by omega
            have hj0 : (0 : Int) ≤ (j : Int) := by omega
            obtain ⟨e', gg, sp', sl', sc', he', rfl, hat', hrn'⟩ := H1.out.read j (by rw [HLG.out]; exact hjl)
            obtain ⟨d0, d1, d2, d3, d4, d5, d6⟩ := hat'
            rw [Nat.zero_add] at d0 d1 d2 d3 d4 d5 d6
            have HB := H1.out.keep ((Below.refl wr.heap.size wr).alloc (Nat.le_refl _) (.cells (opC e' (.slice sp' sl' sc')) 33))
            obtain ⟨a1, a2, a3, a4⟩ := HQ.out.2.2.1 e' (List.mem_of_getElem? he')
            have cP := push_can e' sp' sl' sc' HB hrn' (HQ.out.1 j) (Nat.le_refl _) (by decide) (Nat.le_refl _) a1 a2 a3 a4
            have hP2 : pushL ((PG.take j).foldl pushL PO) e' = (PG.take (j + 1)).foldl pushL PO := by rw [List.take_add_one, he', List.foldl_append]; rfl
            rw [hP2] at cP
            clear HB a1 a2 a3 a4 H1 hrn' he' hP2
            obtain ⟨k', t', ⟨x', n', u'⟩, c', A'⟩ := e'
            simp only [opC, slV] at d0 d1 d2 d3 d4 d5 d6 cP
            go_wp2_with fail
            refine cP.mono ?_; rintro r w5 ⟨v5, rfl, h5⟩
            have H5 := Hid.mk' h5
            clear cP d0 d1 d2 d3 d4 d5 d6 h5
            go_wp2
            go_roundw
            case rel => exact ⟨j + 1, by omega, by go_num, H5⟩
            case measure => simp [RowKit.intOf]; omega
          · obtain rfl : j = lg := by omega
            have hjI : ¬ (j : Int) < j := by omega
            have hq1 := HQ.out.1 j
            rw [show PG.take j = PG by have := HLG.out; rw [← this, List.take_length]] at H1 hq1
            by_cases hgp : 0 < g
            · have cP := push_can (delO g) none 0 0 H1.out (RN.nil w0) hq1 (Nat.le_refl _) (by decide) (Nat.le_refl _) (delO_wel (by omega)) (by show (0 : Nat) ≤ _; omega) (by show (0 : Nat) ≤ _; omega) (by show g ≤ _; omega)
              have hfl : pushL (PG.foldl pushL PO) (delO g) = flushL PO PG g := by unfold flushL; rw [if_pos hgp]
              rw [hfl] at cP
              simp only [delO] at cP
              clear hq1 H1 hfl
              go_wp2_with fail
              refine cP.mono ?_; rintro r w5 ⟨v5, rfl, h5⟩
              have H5 := Hid.mk' h5.cleared
              clear cP h5
              have H2 : Hid ((stA E (m + 1)).2.2 = 0) := by show _ = _; rw [HNX.out]
              have H6 : Hid (CanS w0 w w5 v5 (.slice none 0 0) (stA E (m + 1)).1 (stA E (m + 1)).2.1) := by rw [HNX.out]; exact H5
              clear H5 HNX HQ
              go_wp2
              go_roundw
              case rel => exact ⟨m + 1, by omega, by go_num, by rw [H2.out], H6⟩
              case measure => (simp [RowKit.intOf]) <;> omega
            · have hfl : PG.foldl pushL PO = flushL PO PG g := by unfold flushL; rw [if_neg hgp]
              rw [hfl] at H1
              have H5 := Hid.mk' H1.out.cleared
              clear hq1 H1 hfl
              have H2 : Hid ((stA E (m + 1)).2.2 = 0) := by show _ = _; rw [HNX.out]
              have H6 : Hid (CanS w0 w wr u3 (.slice none 0 0) (stA E (m + 1)).1 (stA E (m + 1)).2.1) := by rw [HNX.out]; exact H5
              clear H5 HNX HQ
              go_wp2
              go_roundw
              case rel => exact ⟨m + 1, by omega, by go_num, by rw [H2.out], H6⟩
              case measure => (simp [RowKit.intOf]) <;> omega
      · obtain rfl : m = n + 1 := by omega
        have hnl1 : ¬ ((n : Int) + 1 ≤ n) := by omega
        have hst : (stA E (n + 1)).1 = flushL (runC E).1 (runC E).2.1 (runC E).2.2 := by
          have e1 := HN.out.1
          rw [← e1, stA_end]
        rw [hst] at HS
        have hq := (stA_q HN.out.2 (m := n) (by have := HN.out.1; omega)).2.1.len
        rw [stA_at (by have := HN.out.1; omega), show E.take n = E by have := HN.out.1; rw [← this, List.take_length]] at hq
        have hcan : canonL E = trimL (flushL (runC E).1 (runC E).2.1 (runC E).2.2) := rfl
        generalize flushL (runC E).1 (runC E).2.1 (runC E).2.2 = P at HS hq hcan
        have hb := HS.out.below
        obtain ⟨D, hown, hD⟩ := HS.out.out
        have hD' := hD
        have hlen := forall2_len hD
        generalize (stA E (n + 1)).2.2 = g at *
        clear HS hst HN HR hD
        rcases List.eq_nil_or_concat P with rfl | ⟨F, x, rfl⟩
        · obtain rfl : D = [] := List.eq_nil_of_length_eq_zero (by simpa using hlen)
          obtain ⟨po, co, hvo⟩ := own_slice hown
          obtain rfl : u3 = .slice po 0 co := hvo
          have HO : Hid (FarO wr w.heap.size (.slice po 0 co) [] ∧ Below w.heap.size w wr) := ⟨far_own hown rfl (fun _ _ h => h) (Nat.le_refl _), hb⟩
          have HC : Hid (canonL E = []) := hcan
          clear hown hb hD' hlen hq hmn hlt hm hcan
          go_wp2
          go_ret
          exact ⟨_, rfl, ⟨[], HO.out.1, by rw [HC.out]; exact .nil⟩, HO.out.2⟩
        · rw [List.concat_eq_append] at hD' hlen hq hcan
          obtain ⟨FD, d, rfl⟩ : ∃ FD d, D = FD ++ [d] := by
            rcases List.eq_nil_or_concat D with rfl | ⟨FD, d, rfl⟩
            · simp at hlen
            · exact ⟨FD, d, List.concat_eq_append⟩
          have hl' : FD.length = F.length := by simpa using hlen
          obtain ⟨hF, hx⟩ := forall2_unappend hl' hD'
          obtain ⟨hx1, hx2, hx3, hx4, hx5⟩ : d.1 = x.k ∧ d.2.1 = x.t ∧ d.2.2.1 = x.v ∧ d.2.2.2.1 = x.c ∧ RN w0 (slV d.2.2.2.2) x.A := by cases hx with | cons a _ => exact a
          obtain ⟨dk, dt, dv, dc, sp, sl, sc⟩ := d
          simp only at hx1 hx2 hx3 hx4
          subst hx1; subst hx2; subst hx3; subst hx4
          have hro := own_rowO hown
          obtain ⟨po, co, hvo, hco1, hco2, hco3⟩ := hro
          obtain ⟨bo, oo, rfl, hat⟩ := hco3 FD.length (x.k, x.t, x.v, x.c, sp, sl, sc) (by simp)
          obtain ⟨c0, c1, c2, c3, c4, c5, c6⟩ := hat
          rw [show (FD ++ [(x.k, x.t, x.v, x.c, sp, sl, sc)]).length = FD.length + 1 by simp] at hvo hco1
          subst hvo
          have hlA : sl = x.A.length := by
            obtain ⟨q, cc, e1, _⟩ := hx5.row
            simp only [slV, Value.slice.injEq] at e1
            exact e1.2.1
          have cP := plain6_any x sp sl sc wr hlA
          have HB := Hid.mk' hb
          have HO := Hid.mk' hown
          have HRF : Hid (FarO wr w.heap.size (.slice (some ⟨bo, oo, none⟩) FD.length co) FD ∧ ReD w0 FD F) := ⟨far_own hown rfl (fun j d hd => by rw [List.getElem?_append_left (List.getElem?_eq_some_iff.1 hd).1]; exact hd) (by simp), hF⟩
          have HRX : Hid (FarO wr w.heap.size (.slice (some ⟨bo, oo, none⟩) (FD.length + 1) co) (FD ++ [(x.k, x.t, x.v, x.c, sp, sl, sc)]) ∧ ReD w0 (FD ++ [(x.k, x.t, x.v, x.c, sp, sl, sc)]) (F ++ [x])) := ⟨by have h := far_own hown rfl (F := FD ++ [(x.k, x.t, x.v, x.c, sp, sl, sc)]) (fun _ _ h => h) (Nat.le_refl _); rw [show (FD ++ [(x.k, x.t, x.v, x.c, sp, sl, sc)]).length = FD.length + 1 by simp] at h; exact h, forall2_append hF hx⟩
          have hFl : FD.length ≤ 4194304 := by simp at hq; omega
          obtain ⟨fl, hfl⟩ : ∃ y, FD.length = y := ⟨_, rfl⟩
          rw [hfl] at HRF HRX hFl hco1 c0 c1 c2 c3 c4 c5 c6 ⊢
          clear hco3 hco2 hx5 hx hF hl' hlen hD' hown hb hq hfl HO hmn hlt hm hlA
          have hf0 : (0 : Int) < (fl : Int) + 1 := by omega
          have hf1 : (fl : Int) + 1 - 1 = (fl : Int) := by omega
          have hf2 : (0 : Int) ≤ (fl : Int) := by omega
          cases hp : plainR x with
          | true =>
            rw [trim_yes hp] at hcan
            have HC := Hid.mk' hcan
            rw [hp] at cP
            clear HRX hp hcan
            obtain ⟨k, t, ⟨xx, nn, u⟩, cc, A⟩ := x
            simp only [slV] at c0 c1 c2 c3 c4 c5 c6 cP
            go_wp2_with fail
            refine cP.mono ?_; rintro r w1 ⟨rfl, hb1⟩
            have HB1 : Hid (Below w.heap.size w w1) := HB.out.trans (hb1.mono HB.out.size)
            have HR1 := Hid.mk' (And.intro (HRF.out.1.below hb1) HRF.out.2)
            clear cP c0 c1 c2 c3 c4 c5 c6 HRF HB hb1
            go_wp2
            go_ret
            exact ⟨_, rfl, ⟨_, HR1.out.1, by rw [HC.out]; exact HR1.out.2⟩, HB1.out⟩
          | false =>
            rw [trim_no hp] at hcan
            have HC := Hid.mk' hcan
            rw [hp] at cP
            clear HRF hp hcan
            obtain ⟨k, t, ⟨xx, nn, u⟩, cc, A⟩ := x
            simp only [slV] at c0 c1 c2 c3 c4 c5 c6 cP
            go_wp2_with fail
            refine cP.mono ?_; rintro r w1 ⟨rfl, hb1⟩
            have HB1 : Hid (Below w.heap.size w w1) := HB.out.trans (hb1.mono HB.out.size)
            have HR1 := Hid.mk' (And.intro (HRX.out.1.below hb1) HRX.out.2)
            clear cP c0 c1 c2 c3 c4 c5 c6 HRX HB hb1
            go_wp2
            go_ret
            exact ⟨_, rfl, ⟨_, HR1.out.1, by rw [HC.out]; exact HR1.out.2⟩, HB1.out⟩
end Go.Proofs.YtplnojapnaaakaaGreatDoor

/- The document's answers for ops: empty, Check, Length, apart. -/
namespace Go.Proofs.YtplnojapnaaakaaGreatDoor
open Go Go.RowKit Go.Lib
set_option linter.unusedVariables false
/-- Are the fields empty that a kind doesn't have? -/
def emptyB (o : Op5) : Bool :=
  if o.k = 1 then o.c == 0 && decide (o.v = z0)
  else if o.k = 2 then o.c == 0
  else if o.k = 3 then o.t.toList.isEmpty && decide (o.v = z0)
  else if o.k = 4 then o.t.toList.isEmpty && decide (o.v = z0) && o.A.isEmpty
  else false
theorem opE_ref (o : Op5) : opE o = if emptyB o = false then 9 else if o.k = 1 ∨ o.k = 2 then insE o else if o.c < 1 then 9 else if 1099511627776 < o.c then 11 else if o.k = 3 then listE true none o.A else 0 := by
  unfold opE emptyB cntE
  by_cases k1 : o.k = 1
  · rw [if_pos (Or.inl k1), if_pos k1, if_pos (Or.inl k1)]
    by_cases hb : (o.c == 0 && decide (o.v = z0)) = false
    · rw [if_pos hb]
      have : fldE o = 9 := by
        unfold fldE
        rw [if_neg (fun h => h.1 k1), if_pos]
        by_cases hc : o.c = 0
        · by_cases hv : o.v = z0
          · simp [hc, hv] at hb
          · exact Or.inr ⟨k1, Or.inr hv⟩
        · exact Or.inl hc
      unfold insE
      rw [if_pos (by omega), this]
    · rw [if_neg hb]
  · by_cases k2 : o.k = 2
    · rw [if_pos (Or.inr k2), if_neg k1, if_pos k2, if_pos (Or.inr k2)]
      by_cases hb : (o.c == 0) = false
      · rw [if_pos hb]
        have : fldE o = 9 := by
          unfold fldE
          rw [if_neg (fun h => h.2 k2), if_pos]
          exact Or.inl (by simpa using hb)
        unfold insE
        rw [if_pos (by omega), this]
      · rw [if_neg hb]
    · have h12 : ¬ (o.k = 1 ∨ o.k = 2) := by omega
      rw [if_neg h12, if_neg k1, if_neg k2, if_neg h12]
      by_cases k3 : o.k = 3
      · rw [if_pos k3, if_pos k3, if_pos k3]
        cases ht : o.t.toList.isEmpty <;> by_cases hv : o.v = z0 <;> by_cases h1 : o.c < 1 <;> by_cases h2 : 1099511627776 < o.c <;> simp [hv, h1, h2]
      · rw [if_neg k3, if_neg k3, if_neg k3]
        by_cases k4 : o.k = 4
        · rw [if_pos k4, if_pos k4]
          cases ht : o.t.toList.isEmpty <;> by_cases hv : o.v = z0 <;> cases hA : o.A <;> by_cases h1 : o.c < 1 <;> by_cases h2 : 1099511627776 < o.c <;> simp [hv, h1, h2]
        · rw [if_neg k4, if_neg k4, if_pos rfl]

set_option maxHeartbeats 2000000 in
theorem refEmpty_any (o : Op5) (s : Value) (w : World) (hR : RowA w s o.A) :
    Calls Tryz.prog 86 #[opV o s] w fun r w' => r = .returned (.bool (emptyB o)) ∧ Below w.heap.size w w' := by
  have b0 := (Below.refl w.heap.size w).alloc (Nat.le_refl _) (.cells (opC o s) 33)
  obtain ⟨p, cc, rfl, _⟩ := hR.val
  clear hR
  obtain ⟨n9, hn9⟩ : ∃ m, o.A.length = m := ⟨_, rfl⟩
  have hAe : o.A.isEmpty = decide (n9 = 0) := by
    cases h : o.A with
    | nil => rw [h] at hn9; simp only [List.length_nil] at hn9; subst hn9; rfl
    | cons x r => rw [h] at hn9; simp only [List.length_cons] at hn9; rw [decide_eq_false (by omega)]; rfl
  have hnz : ((n9 : Int) == 0) = decide (n9 = 0) := by rw [Bool.eq_iff_iff]; simp
  rw [hn9] at b0 ⊢
  unfold emptyB
  rw [hAe]
  clear hAe hn9
  obtain ⟨k, t, ⟨x, n, u⟩, c, A⟩ := o
  simp only [opC] at b0 ⊢
  have gd := fun op x' y' w => guard_pl op x' y' (x, n, u) (0, 0, ⟨#[]⟩) w
  obtain ⟨bv, hbv⟩ : ∃ b, decide (((x, n, u) : P3) = z0) = b := ⟨_, rfl⟩
  have hne := eql_pl (x, n, u) (0, 0, ⟨#[]⟩) bv (by
    rw [← hbv]
    by_cases h : ((x, n, u) : P3) = z0
    · rw [decide_eq_true h, h]; exact samP_self _
    · rw [decide_eq_false h]; exact samP_ne h)
  rw [hbv]
  clear hbv
  by_cases k1 : k = 1
  · subst k1
    rw [if_pos rfl]
    clear hnz
    cases hc : (c == 0) with
    | false =>
      go_enter Tryz.func86, Tryz.ntmps86
      go_wp2
      go_ret
      exact ⟨rfl, b0⟩
    | true =>
      go_enter Tryz.func86, Tryz.ntmps86
      go_wp2
      go_ret
      exact ⟨rfl, b0⟩
  · have e1 : (k == 1) = false := by simpa using k1
    rw [if_neg k1]
    by_cases k2 : k = 2
    · subst k2
      rw [if_pos rfl]
      clear hnz hne gd
      go_enter Tryz.func86, Tryz.ntmps86
      go_wp2
      go_ret
      exact ⟨rfl, b0⟩
    · have e2 : (k == 2) = false := by simpa using k2
      rw [if_neg k2]
      by_cases k3 : k = 3
      · subst k3
        rw [if_pos rfl]
        clear hnz e1 e2
        cases ht : t.toList.isEmpty with
        | false =>
          go_enter Tryz.func86, Tryz.ntmps86
          go_wp2
          go_ret
          exact ⟨rfl, b0⟩
        | true =>
          go_enter Tryz.func86, Tryz.ntmps86
          go_wp2
          go_ret
          exact ⟨rfl, b0⟩
      · have e3 : (k == 3) = false := by simpa using k3
        rw [if_neg k3]
        by_cases k4 : k = 4
        · subst k4
          rw [if_pos rfl]
          clear e1 e2 e3
          cases ht : t.toList.isEmpty with
          | false =>
            go_enter Tryz.func86, Tryz.ntmps86
            go_wp2
            go_ret
            exact ⟨rfl, b0⟩
          | true =>
            cases bv with
            | false =>
              go_enter Tryz.func86, Tryz.ntmps86
              go_wp2
              go_ret
              exact ⟨rfl, b0⟩
            | true =>
              go_enter Tryz.func86, Tryz.ntmps86
              go_wp2
              go_ret
              exact ⟨rfl, b0⟩
        · have e4 : (k == 4) = false := by simpa using k4
          rw [if_neg k4]
          clear hnz hne gd
          go_enter Tryz.func86, Tryz.ntmps86
          go_wp2
          go_ret
          exact ⟨rfl, b0⟩

set_option maxHeartbeats 2000000 in
theorem refCheckO_any {I : List Nat} {a : Nat → Addr} (o : Op5) (s : Value) (w : World) (hS : Std I a w) (hR : RN w s o.A) (hF : Fit o) :
    Calls Tryz.prog 54 #[opV o s] w fun r w' => r = .returned (.int .i64 (opE o)) ∧ Below w.heap.size w w' := by
  have b0 := (Below.refl w.heap.size w).alloc (Nat.le_refl _) (.cells (opC o s) 33)
  have D0 := BoxO.new w o s
  have c1 := refEmpty_any o s _ (hR.row.below b0)
  have cI : Hid (∀ W, Below (w.alloc (.cells (opC o s) 33)).heap.size (w.alloc (.cells (opC o s) 33)) W → Calls Tryz.prog 87 #[opV o s] W fun r w' => r = .returned (.int .i64 (insE o)) ∧ Below W.heap.size W w') := fun W hW => ref_ins o s W ((hS.below b0).below hW) ((hR.below b0).below hW) hF
  have cA : Hid (∀ W, Below (w.alloc (.cells (opC o s) 33)).heap.size (w.alloc (.cells (opC o s) 33)) W → Calls Tryz.prog 88 #[s, .bool true] W fun r w' => r = .returned (.int .i64 (listE true none o.A)) ∧ Below W.heap.size W w') := fun W hW => ref_check s o.A true W ((hS.below b0).below hW) ((hR.row.below b0).below hW) hF.tiny (by have := hF.n; omega)
  have hE := opE_ref o
  obtain ⟨E, hEE⟩ : ∃ E, opE o = E := ⟨_, rfl⟩
  obtain ⟨i9, hi9⟩ : ∃ i, insE o = i := ⟨_, rfl⟩
  obtain ⟨l9, hl9⟩ : ∃ l, listE true none o.A = l := ⟨_, rfl⟩
  obtain ⟨eb, heb⟩ : ∃ l, emptyB o = l := ⟨_, rfl⟩
  rw [hEE, hi9, hl9, heb] at hE
  rw [hEE]
  rw [hi9] at cI
  rw [hl9] at cA
  rw [heb] at c1
  clear hS hR hF hEE hi9 hl9 heb
  have HD : Hid (BoxO (w.alloc (.cells (opC o s) 33)) w.heap.size o s) := D0
  obtain ⟨k, t, ⟨x, n, u⟩, c, A⟩ := o
  simp only [opC] at b0 c1 cI cA HD hE
  clear D0
  cases eb with
  | false =>
    rw [if_pos rfl] at hE
    subst hE
    clear cI cA HD
    go_enter Tryz.func54, Tryz.ntmps54
    go_wp2_with fail
    refine c1.mono ?_; rintro r w2 ⟨rfl, hb2⟩
    have b2 := b0.trans (hb2.mono b0.size)
    clear c1 b0 hb2
    go_wp2
    go_ret
    exact ⟨rfl, b2⟩
  | true =>
    rw [if_neg (by simp)] at hE
    by_cases k1 : k = 1
    · rw [if_pos (Or.inl k1)] at hE
      subst hE k1
      go_enter Tryz.func54, Tryz.ntmps54
      go_wp2_with fail
      refine c1.mono ?_; rintro r w2 ⟨rfl, hb2⟩
      have b2 := b0.trans (hb2.mono b0.size)
      obtain ⟨d0, d1, d2, d3, d4, d5, d6⟩ := HD.out.below hb2
      simp only at d0 d1 d2 d3 d4 d5 d6
      have c2 := cI.out _ hb2
      clear c1 b0 hb2
      go_wp2_with fail
      refine c2.mono ?_; rintro r w3 ⟨rfl, hb3⟩
      have b3 := b2.trans (hb3.mono b2.size)
      clear c2 b2 hb3
      go_wp2
      go_ret
      exact ⟨rfl, b3⟩
    · have e1 : (k == 1) = false := by simpa using k1
      by_cases k2 : k = 2
      · rw [if_pos (Or.inr k2)] at hE
        subst hE k2
        clear k1 e1
        go_enter Tryz.func54, Tryz.ntmps54
        go_wp2_with fail
        refine c1.mono ?_; rintro r w2 ⟨rfl, hb2⟩
        have b2 := b0.trans (hb2.mono b0.size)
        obtain ⟨d0, d1, d2, d3, d4, d5, d6⟩ := HD.out.below hb2
        simp only at d0 d1 d2 d3 d4 d5 d6
        have c2 := cI.out _ hb2
        clear c1 b0 hb2
        go_wp2_with fail
        refine c2.mono ?_; rintro r w3 ⟨rfl, hb3⟩
        have b3 := b2.trans (hb3.mono b2.size)
        clear c2 b2 hb3
        go_wp2
        go_ret
        exact ⟨rfl, b3⟩
      · have e2 : (k == 2) = false := by simpa using k2
        rw [if_neg (by omega)] at hE
        by_cases h1 : c < 1
        · rw [if_pos h1] at hE
          subst hE
          clear cI cA
          go_enter Tryz.func54, Tryz.ntmps54
          go_wp2_with fail
          refine c1.mono ?_; rintro r w2 ⟨rfl, hb2⟩
          have b2 := b0.trans (hb2.mono b0.size)
          obtain ⟨d0, d1, d2, d3, d4, d5, d6⟩ := HD.out.below hb2
          simp only at d0 d1 d2 d3 d4 d5 d6
          clear c1 b0 hb2
          go_wp2
          go_ret
          exact ⟨rfl, b2⟩
        · rw [if_neg h1] at hE
          by_cases h2 : 1099511627776 < c
          · rw [if_pos h2] at hE
            subst hE
            clear cI cA
            go_enter Tryz.func54, Tryz.ntmps54
            go_wp2_with fail
            refine c1.mono ?_; rintro r w2 ⟨rfl, hb2⟩
            have b2 := b0.trans (hb2.mono b0.size)
            obtain ⟨d0, d1, d2, d3, d4, d5, d6⟩ := HD.out.below hb2
            simp only at d0 d1 d2 d3 d4 d5 d6
            clear c1 b0 hb2
            go_wp2
            go_ret
            exact ⟨rfl, b2⟩
          · rw [if_neg h2] at hE
            by_cases k3 : k = 3
            · rw [if_pos k3] at hE
              subst hE k3
              clear cI k1 k2 e1 e2
              go_enter Tryz.func54, Tryz.ntmps54
              go_wp2_with fail
              refine c1.mono ?_; rintro r w2 ⟨rfl, hb2⟩
              have b2 := b0.trans (hb2.mono b0.size)
              obtain ⟨d0, d1, d2, d3, d4, d5, d6⟩ := HD.out.below hb2
              simp only at d0 d1 d2 d3 d4 d5 d6
              have c2 := cA.out _ hb2
              clear c1 b0 hb2
              go_wp2_with fail
              refine c2.mono ?_; rintro r w3 ⟨rfl, hb3⟩
              have b3 := b2.trans (hb3.mono b2.size)
              clear c2 b2 hb3
              go_wp2
              go_ret
              exact ⟨rfl, b3⟩
            · have e3 : (k == 3) = false := by simpa using k3
              rw [if_neg k3] at hE
              subst hE
              clear cI cA
              go_enter Tryz.func54, Tryz.ntmps54
              go_wp2_with fail
              refine c1.mono ?_; rintro r w2 ⟨rfl, hb2⟩
              have b2 := b0.trans (hb2.mono b0.size)
              obtain ⟨d0, d1, d2, d3, d4, d5, d6⟩ := HD.out.below hb2
              simp only at d0 d1 d2 d3 d4 d5 d6
              clear c1 b0 hb2
              go_wp2
              go_ret
              exact ⟨rfl, b2⟩
end Go.Proofs.YtplnojapnaaakaaGreatDoor

/- The document's deltas: Of. -/
namespace Go.Proofs.YtplnojapnaaakaaGreatDoor
open Go Go.RowKit Go.Lib
set_option linter.unusedVariables false
set_option maxHeartbeats 40000000 in
set_option maxRecDepth 100000 in
theorem ref6Of_any {I : List Nat} {a : Nat → Addr} {w0 : World} (va : Value) (D0 : List OV) (E : List Op5) (w : World) (hS : Std I a w) (hb0 : Below w0.heap.size w0 w) (hrow : RowO w va D0) (hre : ReD w0 D0 E) (hF : FitL E) (hl : E.length ≤ 1048576) (ht : txtS E ≤ 8388608) :
    Calls Tryz.prog 62 #[va] w fun r w' => ∃ dv, r = .returned (.tuple #[dv, .int .i64 (ofE 0 0 E).1, .int .i64 (ofE 0 0 E).2]) ∧ ((ofE 0 0 E).2 = 0 → ∃ D', FarO w' w.heap.size dv D' ∧ ReD w0 D' (canonL E)) ∧ ((ofE 0 0 E).2 ≠ 0 → dv = .slice none 0 0) ∧ Below w.heap.size w w' := by
  have CK : Hid (OkE E → ∀ W, Below w.heap.size w W → Calls Tryz.prog 11 #[va] W fun r w' => ∃ v', r = .returned v' ∧ (∃ D', FarO w' W.heap.size v' D' ∧ ReD w0 D' (canonL E)) ∧ Below W.heap.size W w') := fun ok W hW => canon6_any va D0 E W (hb0.trans (hW.mono hb0.size)) (hrow.below hW) hre ok
  have CC : Hid (∀ (o : Op5) (s : Value) (W W2 : World), Below w.heap.size w W → Below W.heap.size W W2 → RN w s o.A → Fit o → Calls Tryz.prog 54 #[opV o s] W2 fun r w' => r = .returned (.int .i64 (opE o)) ∧ Below W2.heap.size W2 w') := fun o s W W2 hW hW2 hR hf => refCheckO_any o s W2 ((hS.below hW).below hW2) ((hR.below hW).below hW2) hf
  have hDE := forall2_len hre
  obtain ⟨n, hn⟩ : ∃ n, E.length = n := ⟨_, rfl⟩
  obtain ⟨p, cap, rfl, hcap, hnz, hc⟩ := hrow
  have HR : Hid (∀ k, k < n → ∃ (e : Op5) (b off : Nat) (sp : Option Addr) (sl sc : Nat), E[k]? = some e ∧ p = some ⟨b, off, none⟩ ∧ OpAt w b (off + k * 7) (e.k, e.t, e.v, e.c, (sp, sl, sc)) ∧ RN w0 (.slice sp sl sc) e.A) := fun k hk => by
    obtain ⟨d, hd⟩ : ∃ d, D0[k]? = some d := ⟨_, List.getElem?_eq_getElem (by omega)⟩
    obtain ⟨e, he, h1, h2, h3, h4, h5⟩ := forall2_get hre k d hd
    obtain ⟨b, off, hp, hat⟩ := hc k d hd
    obtain ⟨dk, dt, dv, dc, sp, sl, sc⟩ := d
    simp only at h1 h2 h3 h4
    subst h1; subst h2; subst h3; subst h4
    exact ⟨e, b, off, sp, sl, sc, he, hp, hat, h5⟩
  have HN : Hid (E.length = n ∧ FitL E ∧ txtS E ≤ 8388608) := ⟨hn, hF, ht⟩
  have hnl : n ≤ 1048576 := by omega
  rw [hDE, hn] at hcap CK ⊢
  clear hc hDE hre hnz hn hF ht hS hl
  go_enter Tryz.func62, Tryz.ntmps62
  go_wp2
  go_loopw [5, 6, 13] (fun bb rr i wr => ∃ (k : Nat), k ≤ n ∧ i = .int .i64 k ∧ bb = .int .i64 (sumB (E.take k)) ∧ rr = .int .i64 (sumR (E.take k)) ∧ Hid (OkE (E.take k)) ∧ Below w.heap.size w wr) (fun _ _ i _ => n - (RowKit.intOf i).toNat)
  case atStart => exact ⟨0, Nat.zero_le _, rfl, by rw [List.take_zero]; rfl, by rw [List.take_zero]; rfl, by rw [List.take_zero]; exact OkE.nil, Below.refl _ _⟩
  case round =>
    obtain ⟨k, hk, rfl, rfl, rfl, HO, hbw⟩ := hrel
    obtain ⟨bs, hbs⟩ : ∃ x, sumB (E.take k) = x := ⟨_, rfl⟩
    obtain ⟨rs, hrs⟩ : ∃ x, sumR (E.take k) = x := ⟨_, rfl⟩
    have hb1 : 0 ≤ bs := by rw [← hbs]; exact (sums_nn HO.out.wel).1
    have hr1 : 0 ≤ rs := by rw [← hrs]; exact (sums_nn HO.out.wel).2
    have hb2 : bs ≤ 1099511627776 := by rw [← hbs]; exact HO.out.base
    have hr2 : rs ≤ 1099511627776 := by rw [← hrs]; exact HO.out.res
    rw [hbs, hrs]
    by_cases hlt : k < n
    · have hltI : (k : Int) < n := by omega
      have hk0 : (0 : Int) ≤ (k : Int) := by omega
      obtain ⟨e, b, off, sp, sl, sc, he, rfl, hat, hrn⟩ := HR.out k hlt
      have hem := List.mem_of_getElem? he
      have hfe := HN.out.2.1 e hem
      obtain ⟨c0, c1, c2, c3, c4, c5, c6⟩ := hat.below hbw
      have bw : Below wr.heap.size wr (wr.alloc (.cells (opC e (.slice sp sl sc)) 33)) := (Below.refl _ _).alloc (Nat.le_refl _) _
      have cC := CC.out e (.slice sp sl sc) wr _ hbw bw (hrn.below hb0) hfe
      have HX : Hid (∀ W, Below (wr.alloc (.cells (opC e (.slice sp sl sc)) 33)).heap.size (wr.alloc (.cells (opC e (.slice sp sl sc)) 33)) W → OpAt W wr.heap.size 0 (e.k, e.t, e.v, e.c, (sp, sl, sc)) ∧ Below w.heap.size w W) := fun W hW => ⟨OpAt.below (w := wr.alloc (.cells (opC e (.slice sp sl sc)) 33)) ⟨by simp [opC], by simp [opC], by simp [opC], by simp [opC], by simp [opC], by simp [opC], by simp [opC, slV]⟩ hW, hbw.trans ((bw.trans (hW.mono bw.size)).mono hbw.size)⟩
      have hT : E.take (k + 1) = E.take k ++ [e] := by rw [List.take_add_one, he]; rfl
      have HT : Hid (E.take (k + 1) = E.take k ++ [e] ∧ E[k]? = some e ∧ sumB (E.take k) = bs ∧ sumR (E.take k) = rs) := ⟨hT, he, hbs, hrs⟩
      by_cases hz : opE e = 0
      · have hln := len5_range hz hfe
        have hkk := kinds_of hz
        have cL := fun W => len6_any e sp sl sc W hz hfe.t
        have cI := fun W => ins6_any e sp sl sc W
        have hbO : baseO e = if e.k = 3 ∨ e.k = 4 then len5 e else 0 := rfl
        have hrO : resO e = if e.k = 4 then 0 else len5 e := rfl
        have HNX : Hid (bs + baseO e ≤ 1099511627776 ∧ rs + resO e ≤ 1099511627776 → OkE (E.take (k + 1)) ∧ sumB (E.take (k + 1)) = bs + baseO e ∧ sumR (E.take (k + 1)) = rs + resO e) := fun h => by
          have htk := txtS_take E (k + 1)
          have hg : refE (sumB (E.take k)) (sumR (E.take k)) e = 0 := refE_zero.2 ⟨hz, by rw [hbs]; exact h.1, by rw [hrs]; exact h.2⟩
          refine ⟨?_, by rw [hT, sumB_append, sumB_one, hbs], by rw [hT, sumR_append, sumR_one, hrs]⟩
          rw [hT] at htk ⊢
          exact okE_snoc HO.out hg hfe.fitA (Nat.le_trans htk HN.out.2.2) (by simp; omega)
        have HBD : Hid (1099511627776 < bs + baseO e ∨ 1099511627776 < rs + resO e → ofE 0 0 E = (k, 11)) := fun h => ofE_no he HO.out (e := 10) (by unfold refE; rw [if_neg (by simpa using hz), hbs, hrs, if_pos h])
        rw [hz] at cC
        obtain ⟨ln, hll⟩ : ∃ x, len5 e = x := ⟨_, rfl⟩
        rw [hll] at hln cL hbO hrO
        have hmn : min ln 1099511627777 = ln := by omega
        have hmn2 : ln ≤ 1099511627777 := by omega
        clear hz hll HT hT hem hat hrn bw HR CC hfe he hbs hrs HO
        obtain ⟨kk, t, ⟨xx, nn, u⟩, cc, A⟩ := e
        simp only [opC, slV] at c0 c1 c2 c3 c4 c5 c6 cC cL cI hkk hbO hrO HX
        rcases (show (kk = 1 ∨ kk = 2) ∨ kk = 3 ∨ kk = 4 by omega) with hi | hi | hi
        · have hk4 : (kk != 4) = true := by simp; omega
          rw [if_neg (by omega)] at hbO
          rw [if_neg (by omega)] at hrO
          replace hbO := congrArg (fun z => bs + z) hbO
          replace hrO := congrArg (fun z => rs + z) hrO
          try simp only [Int.add_zero] at hbO
          try simp only [Int.add_zero] at hrO
          go_wp2_with fail
          refine cC.mono ?_; rintro r w1 ⟨rfl, hw1⟩
          obtain ⟨⟨d0, d1, d2, d3, d4, d5, d6⟩, b1⟩ := HX.out w1 hw1
          simp only [Nat.zero_add, slV] at d0 d1 d2 d3 d4 d5 d6
          have cl := cL w1
          clear cC c0 c1 c2 c3 c4 c5 c6 hw1 cL
          go_wp2_with fail
          refine cl.mono ?_; rintro r w2 ⟨rfl, hw2⟩
          replace d0 := (hw2.cell (lt_of_cell d0)).trans d0
          replace d1 := (hw2.cell (lt_of_cell d1)).trans d1
          replace d2 := (hw2.cell (lt_of_cell d2)).trans d2
          replace d3 := (hw2.cell (lt_of_cell d3)).trans d3
          replace d4 := (hw2.cell (lt_of_cell d4)).trans d4
          replace d5 := (hw2.cell (lt_of_cell d5)).trans d5
          replace d6 := (hw2.cell (lt_of_cell d6)).trans d6
          have b2 := b1.trans (hw2.mono b1.size)
          have ci := cI w2
          rw [decide_eq_true hi] at ci
          clear cl b1 hw2 cI
          go_wp2_with fail
          refine ci.mono ?_; rintro r w3 ⟨rfl, hw3⟩
          replace d0 := (hw3.cell (lt_of_cell d0)).trans d0
          have b3 := b2.trans (hw3.mono b2.size)
          have HB3 := Hid.mk' b3
          clear ci b2 hw3 d1 d2 d3 d4 d5 d6 b3
          by_cases hov : 1099511627776 < bs ∨ 1099511627776 < rs + ln
          · have HB : Hid (ofE 0 0 E = (k, 11)) := HBD.out (by rw [hbO, hrO]; exact hov)
            clear HBD HNX hbO hrO
            rcases (show 1099511627776 < bs ∨ (¬ 1099511627776 < bs ∧ 1099511627776 < rs + ln) by omega) with hov | ⟨hov1, hov⟩
            · first | (exfalso; omega) | (go_wp2; go_ret3; exact ⟨_, by rw [HB.out]; rfl, fun h => (by rw [HB.out] at h; cases h), fun _ => rfl, HB3.out⟩)
            · first | (exfalso; omega) | (go_wp2; go_ret3; exact ⟨_, by rw [HB.out]; rfl, fun h => (by rw [HB.out] at h; cases h), fun _ => rfl, HB3.out⟩)
          · have hn1 : ¬ 1099511627776 < bs := fun h => hov (Or.inl h)
            have hn2 : ¬ 1099511627776 < rs + ln := fun h => hov (Or.inr h)
            have hnx := HNX.out (by rw [hbO, hrO]; omega)
            rw [hbO, hrO] at hnx
            have HY := Hid.mk' hnx
            clear HBD HNX hbO hrO hov hnx
            go_wp2
            go_roundw
            case rel => exact ⟨k + 1, by omega, by go_num, by rw [HY.out.2.1], by rw [HY.out.2.2], HY.out.1, HB3.out⟩
            case measure => simp [RowKit.intOf]; omega
        · subst hi
          rw [if_pos (by omega)] at hbO
          rw [if_neg (by omega)] at hrO
          replace hbO := congrArg (fun z => bs + z) hbO
          replace hrO := congrArg (fun z => rs + z) hrO
          try simp only [Int.add_zero] at hbO
          try simp only [Int.add_zero] at hrO
          go_wp2_with fail
          refine cC.mono ?_; rintro r w1 ⟨rfl, hw1⟩
          obtain ⟨⟨d0, d1, d2, d3, d4, d5, d6⟩, b1⟩ := HX.out w1 hw1
          simp only [Nat.zero_add, slV] at d0 d1 d2 d3 d4 d5 d6
          have cl := cL w1
          clear cC c0 c1 c2 c3 c4 c5 c6 hw1 cL
          go_wp2_with fail
          refine cl.mono ?_; rintro r w2 ⟨rfl, hw2⟩
          replace d0 := (hw2.cell (lt_of_cell d0)).trans d0
          replace d1 := (hw2.cell (lt_of_cell d1)).trans d1
          replace d2 := (hw2.cell (lt_of_cell d2)).trans d2
          replace d3 := (hw2.cell (lt_of_cell d3)).trans d3
          replace d4 := (hw2.cell (lt_of_cell d4)).trans d4
          replace d5 := (hw2.cell (lt_of_cell d5)).trans d5
          replace d6 := (hw2.cell (lt_of_cell d6)).trans d6
          have b2 := b1.trans (hw2.mono b1.size)
          have ci := cI w2
          rw [decide_eq_false (by omega)] at ci
          clear cl b1 hw2 cI
          go_wp2_with fail
          refine ci.mono ?_; rintro r w3 ⟨rfl, hw3⟩
          replace d0 := (hw3.cell (lt_of_cell d0)).trans d0
          have b3 := b2.trans (hw3.mono b2.size)
          have HB3 := Hid.mk' b3
          clear ci b2 hw3 d1 d2 d3 d4 d5 d6 b3
          by_cases hov : 1099511627776 < bs + ln ∨ 1099511627776 < rs + ln
          · have HB : Hid (ofE 0 0 E = (k, 11)) := HBD.out (by rw [hbO, hrO]; exact hov)
            clear HBD HNX hbO hrO
            rcases (show 1099511627776 < bs + ln ∨ (¬ 1099511627776 < bs + ln ∧ 1099511627776 < rs + ln) by omega) with hov | ⟨hov1, hov⟩
            · first | (exfalso; omega) | (go_wp2; go_ret3; exact ⟨_, by rw [HB.out]; rfl, fun h => (by rw [HB.out] at h; cases h), fun _ => rfl, HB3.out⟩)
            · first | (exfalso; omega) | (go_wp2; go_ret3; exact ⟨_, by rw [HB.out]; rfl, fun h => (by rw [HB.out] at h; cases h), fun _ => rfl, HB3.out⟩)
          · have hn1 : ¬ 1099511627776 < bs + ln := fun h => hov (Or.inl h)
            have hn2 : ¬ 1099511627776 < rs + ln := fun h => hov (Or.inr h)
            have hnx := HNX.out (by rw [hbO, hrO]; omega)
            rw [hbO, hrO] at hnx
            have HY := Hid.mk' hnx
            clear HBD HNX hbO hrO hov hnx
            go_wp2
            go_roundw
            case rel => exact ⟨k + 1, by omega, by go_num, by rw [HY.out.2.1], by rw [HY.out.2.2], HY.out.1, HB3.out⟩
            case measure => simp [RowKit.intOf]; omega
        · subst hi
          rw [if_pos (by omega)] at hbO
          rw [if_pos (by omega)] at hrO
          replace hbO := congrArg (fun z => bs + z) hbO
          replace hrO := congrArg (fun z => rs + z) hrO
          try simp only [Int.add_zero] at hbO
          try simp only [Int.add_zero] at hrO
          go_wp2_with fail
          refine cC.mono ?_; rintro r w1 ⟨rfl, hw1⟩
          obtain ⟨⟨d0, d1, d2, d3, d4, d5, d6⟩, b1⟩ := HX.out w1 hw1
          simp only [Nat.zero_add, slV] at d0 d1 d2 d3 d4 d5 d6
          have cl := cL w1
          clear cC c0 c1 c2 c3 c4 c5 c6 hw1 cL
          go_wp2_with fail
          refine cl.mono ?_; rintro r w2 ⟨rfl, hw2⟩
          replace d0 := (hw2.cell (lt_of_cell d0)).trans d0
          replace d1 := (hw2.cell (lt_of_cell d1)).trans d1
          replace d2 := (hw2.cell (lt_of_cell d2)).trans d2
          replace d3 := (hw2.cell (lt_of_cell d3)).trans d3
          replace d4 := (hw2.cell (lt_of_cell d4)).trans d4
          replace d5 := (hw2.cell (lt_of_cell d5)).trans d5
          replace d6 := (hw2.cell (lt_of_cell d6)).trans d6
          have b2 := b1.trans (hw2.mono b1.size)
          have ci := cI w2
          rw [decide_eq_false (by omega)] at ci
          clear cl b1 hw2 cI
          go_wp2_with fail
          refine ci.mono ?_; rintro r w3 ⟨rfl, hw3⟩
          replace d0 := (hw3.cell (lt_of_cell d0)).trans d0
          have b3 := b2.trans (hw3.mono b2.size)
          have HB3 := Hid.mk' b3
          clear ci b2 hw3 d1 d2 d3 d4 d5 d6 b3
          by_cases hov : 1099511627776 < bs + ln ∨ 1099511627776 < rs
          · have HB : Hid (ofE 0 0 E = (k, 11)) := HBD.out (by rw [hbO, hrO]; exact hov)
            clear HBD HNX hbO hrO
            rcases (show 1099511627776 < bs + ln ∨ (¬ 1099511627776 < bs + ln ∧ 1099511627776 < rs) by omega) with hov | ⟨hov1, hov⟩
            · first | (exfalso; omega) | (go_wp2; go_ret3; exact ⟨_, by rw [HB.out]; rfl, fun h => (by rw [HB.out] at h; cases h), fun _ => rfl, HB3.out⟩)
            · first | (exfalso; omega) | (go_wp2; go_ret3; exact ⟨_, by rw [HB.out]; rfl, fun h => (by rw [HB.out] at h; cases h), fun _ => rfl, HB3.out⟩)
          · have hn1 : ¬ 1099511627776 < bs + ln := fun h => hov (Or.inl h)
            have hn2 : ¬ 1099511627776 < rs := fun h => hov (Or.inr h)
            have hnx := HNX.out (by rw [hbO, hrO]; omega)
            rw [hbO, hrO] at hnx
            have HY := Hid.mk' hnx
            clear HBD HNX hbO hrO hov hnx
            go_wp2
            go_roundw
            case rel => exact ⟨k + 1, by omega, by go_num, by rw [HY.out.2.1], by rw [HY.out.2.2], HY.out.1, HB3.out⟩
            case measure => simp [RowKit.intOf]; omega
      · obtain ⟨x, hx⟩ : ∃ x, opE e = x + 1 := ⟨opE e - 1, by omega⟩
        have HBD : Hid (ofE 0 0 E = (k, x + 1)) := ofE_no he HO.out (by unfold refE; rw [if_pos hz, hx])
        rw [hx] at cC
        have hx0 : ((x : Int) + 1 != 0) = true := by simp; omega
        clear hz hx HT hT hem hat hrn bw HR CC hfe he hbs hrs HO
        obtain ⟨kk, t, ⟨xx, nn, u⟩, cc, A⟩ := e
        simp only [opC, slV] at c0 c1 c2 c3 c4 c5 c6 cC HX
        go_wp2_with fail
        refine cC.mono ?_; rintro r w1 ⟨rfl, hw1⟩
        obtain ⟨_, b1⟩ := HX.out w1 hw1
        have HB1 := Hid.mk' b1
        clear cC c0 c1 c2 c3 c4 c5 c6 hw1 b1
        go_wp2
        go_ret3
        exact ⟨_, by rw [HBD.out]; rfl, fun h => (by rw [HBD.out] at h; cases h), fun _ => rfl, HB1.out⟩
    · have hltI : ¬ (k : Int) < n := by omega
      have hE : E.take k = E := List.take_of_length_le (by have := HN.out.1; omega)
      rw [hE] at HO
      have HBD : Hid (ofE 0 0 E = (0, 0)) := ofE_ok E 0 0 HO.out.good (by have := HO.out.base; omega) (by have := HO.out.res; omega)
      have cK := CK.out HO.out wr hbw
      clear hE HO hbs hrs CK CC
      go_wp2_with fail
      refine cK.mono ?_; rintro r w5 ⟨dv, rfl, ⟨D5, h5, h6⟩, hb5⟩
      have H5 : Hid (FarO w5 w.heap.size dv D5 ∧ ReD w0 D5 (canonL E)) := ⟨h5.weaken hbw.size, h6⟩
      have B5 : Hid (Below w.heap.size w w5) := hbw.trans (hb5.mono hbw.size)
      clear cK h5 h6 hb5
      go_wp2
      go_ret3
      exact ⟨_, by rw [HBD.out]; rfl, fun _ => ⟨_, H5.out⟩, fun h => (by rw [HBD.out] at h; exact absurd rfl h), B5.out⟩
end Go.Proofs.YtplnojapnaaakaaGreatDoor

/- vellummade's Delta and Is, vellumspare's Heavy. -/
namespace Go.Proofs.YtplnojapnaaakaaGreatDoor
open Go Go.RowKit Go.Lib
set_option linter.unusedVariables false
def heavN (E : List Op5) : Int := (E.map fun o => 1 + (o.t.size : Int) + o.A.length).sum
theorem heavN_append (E F : List Op5) : heavN (E ++ F) = heavN E + heavN F := by unfold heavN; rw [List.map_append, List.sum_append]
theorem heavN_one (o : Op5) : heavN [o] = 1 + (o.t.size : Int) + o.A.length := by simp [heavN]
theorem heavN_txt (E : List Op5) : (txtS E : Int) + E.length ≤ heavN E := by
  induction E with
  | nil => simp [heavN, txtS]
  | cons o r ih =>
    have e : heavN (o :: r) = 1 + (o.t.size : Int) + o.A.length + heavN r := by simp [heavN]
    have e2 : txtS (o :: r) = o.t.size + txtS r := by simp [txtS]
    rw [e, e2, List.length_cons]
    omega
theorem heavN_mem {E : List Op5} {o : Op5} (h : o ∈ E) : 1 + (o.t.size : Int) + o.A.length ≤ heavN E := by
  induction E with
  | nil => cases h
  | cons x r ih =>
    have e : heavN (x :: r) = 1 + (x.t.size : Int) + x.A.length + heavN r := by simp [heavN]
    have := heavN_txt r
    rcases List.mem_cons.1 h with rfl | h
    · omega
    · have := ih h; omega
set_option maxHeartbeats 2000000 in
set_option maxRecDepth 100000 in
theorem heavy_any (v : Value) (E : List Op5) (w : World) (hv : ReO w v E) (hF : FitL E) (hl : E.length ≤ 1048576) :
    Calls Tryz.prog 17 #[v] w fun r w' => r = .returned (.bool (decide (6000 < heavN E))) ∧ Below w.heap.size w w' := by
  obtain ⟨D0, hrow, hre⟩ := hv
  have hDE := forall2_len hre
  obtain ⟨n, hn⟩ : ∃ n, D0.length = n := ⟨_, rfl⟩
  obtain ⟨p, cap, rfl, hcap, hnz, hc⟩ := hrow
  have HC : Hid (∀ (j : Nat) (d : OV), D0[j]? = some d → ∃ b off, p = some ⟨b, off, none⟩ ∧ OpAt w b (off + j * 7) d) := hc
  have HN : Hid (D0.length = n ∧ E.length = n) := ⟨hn, by rw [← hDE, hn]⟩
  have hl : n ≤ 1048576 := by rw [← hn, hDE]; exact hl
  have HF : Hid (FitL E) := hF
  have HE : Hid (∀ (k : Nat) (d : OV), D0[k]? = some d → ∃ e : Op5, E[k]? = some e ∧ d.2.1 = e.t ∧ d.2.2.2.2.2.1 = e.A.length) := fun k d h => by
    obtain ⟨y, hy, r⟩ := forall2_get hre k d h
    obtain ⟨q, c, e1, _⟩ := r.2.2.2.2.row.val
    refine ⟨y, hy, r.2.1, ?_⟩
    simp only [slV, Value.slice.injEq] at e1
    exact e1.2.1
  rw [hn] at hcap ⊢
  clear hc hn hDE hre hnz hF
  go_enter Tryz.func17, Tryz.ntmps17
  go_wp2
  go_loopw [3, 8] (fun s i wr => ∃ (k : Nat) (z : Int), k ≤ n ∧ i = .int .i64 k ∧ s = .int .i64 z ∧ 0 ≤ z ∧ z ≤ 20000000 * k ∧ Hid (heavN (E.take k) = z) ∧ Below w.heap.size w wr) (fun _ i _ => n - (RowKit.intOf i).toNat)
  case atStart => exact ⟨0, 0, Nat.zero_le _, rfl, rfl, by omega, by omega, by show heavN (E.take 0) = 0; simp [heavN], Below.refl _ _⟩
  case round =>
    obtain ⟨k, z, hk, rfl, rfl, hz0, hz1, HZ, hbw⟩ := hrel
    by_cases hlt : k < n
    · have hltI : (k : Int) < n := by omega
      obtain ⟨d, hd⟩ : ∃ d, D0[k]? = some d := ⟨_, List.getElem?_eq_getElem (by rw [HN.out.1]; exact hlt)⟩
      obtain ⟨e, he, het, hel⟩ := HE.out k d hd
      obtain ⟨b, off, rfl, hp⟩ := HC.out k d hd
      obtain ⟨c0, c1, c2, c3, c4, c5, c6⟩ := hp.below hbw
      have hfe := HF.out e (List.mem_of_getElem? he)
      have hT1 := hfe.t
      have hT2 := hfe.n
      have HS : Hid (heavN (E.take (k + 1)) = z + (1 + (e.t.size : Int) + e.A.length)) := by
        show _ = _
        rw [List.take_add_one, he, Option.toList_some, heavN_append, heavN_one, HZ.out]
      clear hd he hp HZ hfe
      obtain ⟨dk, dt, ⟨dx, dn, du⟩, dc, ds⟩ := d
      obtain ⟨dp, dl, dcap⟩ := ds
      simp only at het hel
      rw [← het, ← hel] at HS
      rw [← het] at hT1
      rw [← hel] at hT2
      clear het hel
      simp only [slV] at c0 c1 c2 c3 c4 c5 c6
      obtain ⟨s, hs⟩ : ∃ s : Int, (dt.size : Int) = s := ⟨_, rfl⟩
      obtain ⟨L, hL⟩ : ∃ s : Int, (dl : Int) = s := ⟨_, rfl⟩
      have hs1 : 0 ≤ s ∧ s ≤ 8388608 := by omega
      have hL1 : 0 ≤ L ∧ L ≤ 1048576 := by omega
      obtain ⟨hs1, hs2⟩ := hs1
      obtain ⟨hL1, hL2⟩ := hL1
      rw [hs, hL] at HS
      have hk2 : (k : Int) ≤ 1048576 := by omega
      go_wp2
      go_roundw
      case rel => exact ⟨k + 1, z + (1 + s + L), by omega, by go_num, rfl, by omega, by omega, HS.out, hbw.alloc hbw.size _⟩
      case measure => simp [RowKit.intOf]; omega
    · have hltI : ¬ (k : Int) < n := by omega
      have hE : E.take k = E := List.take_of_length_le (by rw [HN.out.2]; omega)
      rw [hE] at HZ
      go_wp2
      go_ret
      exact ⟨by rw [HZ.out]; rfl, hbw⟩

theorem light_of {E : List Op5} (h : decide (6000 < heavN E) = false) : txtS E ≤ 6000 ∧ E.length ≤ 6000 ∧ ∀ o ∈ E, o.A.length ≤ 6000 := by
  have h1 := of_decide_eq_false h
  have h2 := heavN_txt E
  exact ⟨by omega, by omega, fun o ho => by have := heavN_mem ho; omega⟩
set_option maxHeartbeats 2000000 in
set_option maxRecDepth 100000 in
theorem is7_any {B1 B2 : Nat} (d v : Value) (E : List Op5) (w : World) (h : DelV w B1 B2 d E) (hg : ∀ o ∈ E, opE o = 0) (hA : ∀ e ∈ E, e.A.length ≤ 1048576) (hl : E.length ≤ 1048576) (hv : ReO w v E) :
    Calls Tryz.prog 30 #[d, v] w fun r w' => r = .returned (.bool true) ∧ Below w.heap.size w w' := by
  have c1 := ops_any d E w h hg (fun o ho => by have := hA o ho; omega) (by omega)
  have c2 : Hid (∀ W v', Below w.heap.size w W → ReO W v' E → Calls Tryz.prog 27 #[v', v] W fun r w' => r = .returned (.bool true) ∧ Below W.heap.size W w') := fun W v' hW h' => sameOps_any v' v E W h' (hv.below hW) hl hA
  obtain ⟨q, pv, PL, rfl, _⟩ := h
  clear hg hA hl hv
  go_enter Tryz.func30, Tryz.ntmps30
  go_wp2_with fail
  refine c1.mono ?_; rintro r w2 ⟨v', rfl, hco, hb2⟩
  have c4 := c2.out w2 v' hb2 hco.re
  clear c1 c2 hco
  go_wp2_with fail
  refine c4.mono ?_; rintro r w3 ⟨rfl, hb3⟩
  have b3 := hb2.trans (hb3.mono hb2.size)
  clear c4 hb2 hb3
  go_wp2
  go_ret
  exact ⟨rfl, b3⟩
set_option maxHeartbeats 2000000 in
set_option maxRecDepth 100000 in
theorem made_no {I : List Nat} {a : Nat → Addr} (v : Value) (E : List Op5) (w : World) (hI : ∀ i ∈ IxO, i ∈ I) (hS : Std I a w) (hv : ReO w v E) (hF : FitL E) (hl : E.length ≤ 1048576) (ht : txtS E ≤ 8388608) (h0 : (ofE 0 0 E).2 ≠ 0) :
    Calls Tryz.prog 18 #[v] w fun r w' => r = .returned (.tuple #[.pointer none, .slice none 0 0, .bool false]) ∧ Below w.heap.size w w' := by
  obtain ⟨D, hrow, hre⟩ := hv
  have c1 := ref6Of_any v D E w hS (Below.refl _ _) hrow hre hF hl ht
  have hb : ((((ofE 0 0 E).2 : Nat) : Int) != 0) = true := by simp only [bne_iff_ne, ne_eq]; omega
  obtain ⟨x, hx⟩ : ∃ x, (ofE 0 0 E).2 = x := ⟨_, rfl⟩
  rw [hx] at c1 hb h0
  have h0' : ¬ ((x : Int) = 0) := by omega
  obtain ⟨y, hy⟩ : ∃ x, (ofE 0 0 E).1 = x := ⟨_, rfl⟩
  rw [hy] at c1
  obtain ⟨p, cap, rfl, _⟩ := hrow
  clear hI hS hre hF hl ht hx hy
  go_enter Tryz.func18, Tryz.ntmps18
  go_wp2_with fail
  refine c1.mono ?_; rintro r w2 ⟨dv, rfl, -, hz, hb2⟩
  have hz' := hz h0
  subst hz'
  clear c1 hz
  go_wp2
  go_ret3
  exact ⟨rfl, hb2⟩
set_option maxHeartbeats 2000000 in
set_option maxRecDepth 100000 in
theorem made_yes {I : List Nat} {a : Nat → Addr} (v : Value) (E : List Op5) (w : World) (hI : ∀ i ∈ IxO, i ∈ I) (hS : Std I a w) (hv : ReO w v E) (hF : FitL E) (hl : E.length ≤ 1048576) (ht : txtS E ≤ 8388608) (h0 : (ofE 0 0 E).2 = 0) :
    Calls Tryz.prog 18 #[v] w fun r w' => ∃ dv ov, r = .returned (.tuple #[dv, ov, .bool true]) ∧ DelV w' w.heap.size w.heap.size dv (canonL E) ∧ (∃ q, dv = .pointer (some ⟨q, 0, none⟩)) ∧ ReO w' ov (canonL E) ∧ (∃ p n c, ov = .slice p n c) ∧ Below w.heap.size w w' := by
  have hv0 := hv
  obtain ⟨D, hrow, hre⟩ := hv
  have c1 := ref6Of_any v D E w hS (Below.refl _ _) hrow hre hF hl ht
  have c2 : Hid (∀ W, Below w.heap.size w W → Calls Tryz.prog 63 #[v] W fun r w' => ∃ v', r = .returned v' ∧ SpO w' W.heap.size w'.heap.size v' E ∧ Below W.heap.size W w') := fun W hW => copy_any v E W (hv0.below hW) hl (fun e he => (hF e he).n)
  have c3 : Hid (∀ v' W, Below w.heap.size w W → ReO W v' E → Calls Tryz.prog 37 #[v'] W fun r w' => ∃ dv, r = .returned (.tuple #[dv, .int .i64 (ofE 0 0 E).1, .nilIface]) ∧ DelV w' w.heap.size w.heap.size dv (canonL E) ∧ (∃ q, dv = .pointer (some ⟨q, 0, none⟩)) ∧ Below W.heap.size W w') := fun v' W hW h => by
    refine (buildOf_any v' E W hI (hS.below hW) h hF hl ht).mono ?_
    rintro r w' ⟨dv, rfl, h1, -, h3⟩
    rw [h0]
    obtain ⟨q', pv, PL, x1, x2, x3, x4, x5⟩ := h1 h0
    exact ⟨dv, rfl, ⟨q', pv, PL, x1, Nat.le_trans hW.size x2, x3, own_weaken x4 hW.size, x5.weaken hW.size⟩, ⟨q', x1⟩, h3⟩
  rw [h0] at c1
  have HR : Hid (∀ W, Below w.heap.size w W → ReD w D E → True) := fun _ _ _ => trivial
  obtain ⟨y, hy⟩ : ∃ x, (ofE 0 0 E).1 = x := ⟨_, rfl⟩
  rw [hy] at c1 c3
  obtain ⟨p, cap, rfl, _⟩ := hrow
  clear hI hS hre hF hl ht hy hv0 HR h0
  go_enter Tryz.func18, Tryz.ntmps18
  go_wp2_with fail
  refine c1.mono ?_; rintro r w2 ⟨ov, rfl, hz, -, hb2⟩
  obtain ⟨D', hfar, hre'⟩ := hz (by first | rfl | trivial)
  have HO : Hid (∀ W, Below w2.heap.size w2 W → ReO W ov (canonL E)) := fun W hW => ⟨D', hfar.row.below hW, by
    have h2 := hb2.trans (hW.mono hb2.size)
    exact hre'.below h2⟩
  obtain ⟨po, co, ho, _⟩ := hfar
  obtain ⟨no, hno⟩ : ∃ n, D'.length = n := ⟨_, rfl⟩
  rw [hno] at ho
  subst ho
  have cC := c2.out w2 hb2
  clear c1 c2 hz hno hre'
  go_wp2_with fail
  refine cC.mono ?_; rintro r w3 ⟨v', rfl, hsp, hb3⟩
  have b3 := hb2.trans (hb3.mono hb2.size)
  have cB := c3.out v' w3 b3 hsp.re
  clear cC c3 hsp
  go_wp2_with fail
  refine cB.mono ?_; rintro r w4 ⟨dv, rfl, hd, ⟨q, rfl⟩, hb4⟩
  have b4 := b3.trans (hb4.mono b3.size)
  have HE : Hid (DelV w4 w.heap.size w.heap.size (.pointer (some ⟨q, 0, none⟩)) (canonL E) ∧ ReO w4 (.slice po no co) (canonL E)) := ⟨hd, HO.out _ (hb3.trans (hb4.mono hb3.size))⟩
  clear cB hd hb2 hb3 hb4 b3 HO
  go_wp2
  go_ret3
  exact ⟨_, _, rfl, HE.out.1, ⟨q, rfl⟩, HE.out.2, ⟨_, _, _, rfl⟩, b4⟩
end Go.Proofs.YtplnojapnaaakaaGreatDoor

/- vellumlaw10.both. -/
namespace Go.Proofs.YtplnojapnaaakaaGreatDoor
open Go Go.RowKit Go.Lib Go.Shelf
set_option linter.unusedVariables false
attribute [local go_sem] Oper.semAt_some
theorem results_tmp5 {fn : Func} {t u v x y : Tmp} (h : fn.results = #[.tmp t, .tmp u, .tmp v, .tmp x, .tmp y]) (tmps : Array Value) (P : Program) (w : World) :
    (results fn tmps).run P w = .ok (.tuple #[tmps.getD t undef, tmps.getD u undef, tmps.getD v undef, tmps.getD x undef, tmps.getD y undef]) w := by
  simp [results, h]
/-- Both are there. -/
structure Bo10 (w : World) (B : Nat) (E F : List Op5) (v1 v2 o1 o2 : Value) : Prop where
  lE : txtS E ≤ 6000 ∧ E.length ≤ 6000 ∧ ∀ o ∈ E, o.A.length ≤ 6000
  lF : txtS F ≤ 6000 ∧ F.length ≤ 6000 ∧ ∀ o ∈ F, o.A.length ≤ 6000
  gE : (ofE 0 0 E).2 = 0
  gF : (ofE 0 0 F).2 = 0
  d1 : DelV w B B v1 (canonL E)
  d2 : DelV w B B v2 (canonL F)
  r1 : ReO w o1 (canonL E)
  r2 : ReO w o2 (canonL F)
set_option maxHeartbeats 2000000 in
set_option maxRecDepth 100000 in
theorem both10_any {I : List Nat} {a : Nat → Addr} (v u : Value) (E F : List Op5) (w : World) (hI : ∀ i ∈ IxO, i ∈ I) (hS : Std I a w) (hv : ReO w v E) (hu : ReO w u F) (fE : FitL E) (fF : FitL F) (lE : E.length ≤ 1048576) (lF : F.length ≤ 1048576) (tE : txtS E ≤ 8388608) (tF : txtS F ≤ 8388608) :
    Calls Tryz.prog 32 #[v, u] w fun r w' => ∃ v1 v2 o1 o2 bv, r = .returned (.tuple #[v1, v2, o1, o2, bv]) ∧ (bv = .bool false ∨ bv = .bool true ∧ Bo10 w' w.heap.size E F v1 v2 o1 o2) ∧ Below w.heap.size w w' := by
  have h1 := heavy_any v E w hv fE lE
  have h2 : Hid (∀ W, Below w.heap.size w W → Calls Tryz.prog 17 #[u] W fun r w' => r = .returned (.bool (decide (6000 < heavN F))) ∧ Below W.heap.size W w') := fun W b => heavy_any u F W (hu.below b) fF lF
  have e0 : Hid (∀ W, (ofE 0 0 E).2 ≠ 0 → Below w.heap.size w W → Calls Tryz.prog 18 #[v] W fun r w' => r = .returned (.tuple #[.pointer none, .slice none 0 0, .bool false]) ∧ Below W.heap.size W w') := fun W h b => made_no v E W hI (hS.below b) (hv.below b) fE lE tE h
  have e1 : Hid (∀ W, (ofE 0 0 E).2 = 0 → Below w.heap.size w W → Calls Tryz.prog 18 #[v] W fun r w' => ∃ q p n c, r = .returned (.tuple #[.pointer (some ⟨q, 0, none⟩), .slice p n c, .bool true]) ∧ DelV w' w.heap.size w.heap.size (.pointer (some ⟨q, 0, none⟩)) (canonL E) ∧ ReO w' (.slice p n c) (canonL E) ∧ Below W.heap.size W w') := fun W h b => by
    refine (made_yes v E W hI (hS.below b) (hv.below b) fE lE tE h).mono ?_
    rintro r w' ⟨dv, ov, rfl, ⟨q', pv, PL, x1, x2, x3, x4, x5⟩, ⟨q, rfl⟩, k3, ⟨p, n, c, rfl⟩, k5⟩
    exact ⟨q, p, n, c, rfl, ⟨q', pv, PL, x1, Nat.le_trans b.size x2, x3, own_weaken x4 b.size, x5.weaken b.size⟩, k3, k5⟩
  have g0 : Hid (∀ W, (ofE 0 0 F).2 ≠ 0 → Below w.heap.size w W → Calls Tryz.prog 18 #[u] W fun r w' => r = .returned (.tuple #[.pointer none, .slice none 0 0, .bool false]) ∧ Below W.heap.size W w') := fun W h b => made_no u F W hI (hS.below b) (hu.below b) fF lF tF h
  have g1 : Hid (∀ W, (ofE 0 0 F).2 = 0 → Below w.heap.size w W → Calls Tryz.prog 18 #[u] W fun r w' => ∃ q p n c, r = .returned (.tuple #[.pointer (some ⟨q, 0, none⟩), .slice p n c, .bool true]) ∧ DelV w' w.heap.size w.heap.size (.pointer (some ⟨q, 0, none⟩)) (canonL F) ∧ ReO w' (.slice p n c) (canonL F) ∧ Below W.heap.size W w') := fun W h b => by
    refine (made_yes u F W hI (hS.below b) (hu.below b) fF lF tF h).mono ?_
    rintro r w' ⟨dv, ov, rfl, ⟨q', pv, PL, x1, x2, x3, x4, x5⟩, ⟨q, rfl⟩, k3, ⟨p, n, c, rfl⟩, k5⟩
    exact ⟨q, p, n, c, rfl, ⟨q', pv, PL, x1, Nat.le_trans b.size x2, x3, own_weaken x4 b.size, x5.weaken b.size⟩, k3, k5⟩
  obtain ⟨pv, lv, cv, rfl⟩ : ∃ p l c, v = .slice p l c := by obtain ⟨D, ⟨p, c, e, _⟩, _⟩ := hv; exact ⟨p, _, c, e⟩
  obtain ⟨pu, lu, cu, rfl⟩ : ∃ p l c, u = .slice p l c := by obtain ⟨D, ⟨p, c, e, _⟩, _⟩ := hu; exact ⟨p, _, c, e⟩
  clear hI hS hv hu fE fF lE lF tE tF
  obtain ⟨x1, hx1⟩ : ∃ b, decide (6000 < heavN E) = b := ⟨_, rfl⟩
  obtain ⟨x2, hx2⟩ : ∃ b, decide (6000 < heavN F) = b := ⟨_, rfl⟩
  rw [hx1] at h1
  rw [hx2] at h2
  cases x1 with
  | true =>
    clear hx1 hx2 h2 e0 e1 g0 g1
    go_enter Tryz.func32, Tryz.ntmps32
    go_wp2_with fail
    refine h1.mono ?_; rintro r w1 ⟨rfl, b1⟩
    clear h1
    go_wp2
    (try simp only [Exit.inBlock, Exit.then]); refine bodyPost_ret (results_tmp5 rfl _ _ _) rfl ?_
    exact ⟨_, _, _, _, _, rfl, .inl rfl, b1⟩
  | false =>
    cases x2 with
    | true =>
      clear hx1 hx2 e0 e1 g0 g1
      go_enter Tryz.func32, Tryz.ntmps32
      go_wp2_with fail
      refine h1.mono ?_; rintro r w1 ⟨rfl, b1⟩
      have c2 := h2.out w1 b1
      clear h1 h2
      go_wp2_with fail
      refine c2.mono ?_; rintro r w2 ⟨rfl, b2⟩
      have b2' := b1.trans (b2.mono b1.size)
      clear c2 b1 b2
      go_wp2
      (try simp only [Exit.inBlock, Exit.then]); refine bodyPost_ret (results_tmp5 rfl _ _ _) rfl ?_
      exact ⟨_, _, _, _, _, rfl, .inl rfl, b2'⟩
    | false =>
      have HL : Hid ((txtS E ≤ 6000 ∧ E.length ≤ 6000 ∧ ∀ o ∈ E, o.A.length ≤ 6000) ∧ (txtS F ≤ 6000 ∧ F.length ≤ 6000 ∧ ∀ o ∈ F, o.A.length ≤ 6000)) := ⟨light_of hx1, light_of hx2⟩
      clear hx1 hx2
      go_enter Tryz.func32, Tryz.ntmps32
      go_wp2_with fail
      refine h1.mono ?_; rintro r w1 ⟨rfl, b1⟩
      have c2 := h2.out w1 b1
      clear h1 h2
      go_wp2_with fail
      refine c2.mono ?_; rintro r w2 ⟨rfl, b2⟩
      have b2' := b1.trans (b2.mono b1.size)
      clear c2 b1 b2
      by_cases zE : (ofE 0 0 E).2 = 0
      · have ce := e1.out w2 zE b2'
        have HZ : Hid ((ofE 0 0 E).2 = 0) := zE
        clear e0 e1 zE
        go_wp2_with fail
        refine ce.mono ?_; rintro r w3 ⟨q, p, n, c, rfl, d1, k1, b3⟩
        have b3' := b2'.trans (b3.mono b2'.size)
        clear ce b2' b3
        have HD : Hid (DelV w3 w.heap.size w.heap.size (.pointer (some ⟨q, 0, none⟩)) (canonL E) ∧ ReO w3 (.slice p n c) (canonL E)) := ⟨d1, k1⟩
        clear d1 k1
        by_cases zF : (ofE 0 0 F).2 = 0
        · have cf := g1.out w3 zF b3'
          have HY : Hid ((ofE 0 0 F).2 = 0) := zF
          clear g0 g1 zF
          go_wp2_with fail
          refine cf.mono ?_; rintro r w4 ⟨q2, p2, n2, c2, rfl, d2, k2, b4⟩
          have b4' := b3'.trans (b4.mono b3'.size)
          have HD2 : Hid (Bo10 w4 w.heap.size E F (.pointer (some ⟨q, 0, none⟩)) (.pointer (some ⟨q2, 0, none⟩)) (.slice p n c) (.slice p2 n2 c2)) := ⟨HL.out.1, HL.out.2, HZ.out, HY.out, HD.out.1.below b4, d2, HD.out.2.below b4, k2⟩
          clear cf b3' b4 d2 k2
          go_wp2
          (try simp only [Exit.inBlock, Exit.then]); refine bodyPost_ret (results_tmp5 rfl _ _ _) rfl ?_
          exact ⟨_, _, _, _, _, rfl, .inr ⟨rfl, HD2.out⟩, b4'⟩
        · have cf := g0.out w3 zF b3'
          clear g0 g1 zF
          go_wp2_with fail
          refine cf.mono ?_; rintro r w4 ⟨rfl, b4⟩
          have b4' := b3'.trans (b4.mono b3'.size)
          clear cf b3' b4
          go_wp2
          (try simp only [Exit.inBlock, Exit.then]); refine bodyPost_ret (results_tmp5 rfl _ _ _) rfl ?_
          exact ⟨_, _, _, _, _, rfl, .inl rfl, b4'⟩
      · have ce := e0.out w2 zE b2'
        clear e0 e1 zE
        go_wp2_with fail
        refine ce.mono ?_; rintro r w3 ⟨rfl, b3⟩
        have b3' := b2'.trans (b3.mono b2'.size)
        clear ce b2' b3
        by_cases zF : (ofE 0 0 F).2 = 0
        · have cf := g1.out w3 zF b3'
          clear g0 g1 zF
          go_wp2_with fail
          refine cf.mono ?_; rintro r w4 ⟨q2, p2, n2, c2, rfl, d2, k2, b4⟩
          have b4' := b3'.trans (b4.mono b3'.size)
          clear cf b3' b4 d2 k2
          go_wp2
          (try simp only [Exit.inBlock, Exit.then]); refine bodyPost_ret (results_tmp5 rfl _ _ _) rfl ?_
          exact ⟨_, _, _, _, _, rfl, .inl rfl, b4'⟩
        · have cf := g0.out w3 zF b3'
          clear g0 g1 zF
          go_wp2_with fail
          refine cf.mono ?_; rintro r w4 ⟨rfl, b4⟩
          have b4' := b3'.trans (b4.mono b3'.size)
          clear cf b3' b4
          go_wp2
          (try simp only [Exit.inBlock, Exit.then]); refine bodyPost_ret (results_tmp5 rfl _ _ _) rfl ?_
          exact ⟨_, _, _, _, _, rfl, .inl rfl, b4'⟩
end Go.Proofs.YtplnojapnaaakaaGreatDoor

/- Deltas unit by unit: composing and carrying over by runs. -/
namespace Go.Proofs.YtplnojapnaaakaaGreatDoor
open Go Go.RowKit Go.Lib
set_option linter.unusedVariables false
theorem compU_nil (U : List U6) : compU U [] = U := by rw [compU]
theorem compU_empty (V : List U6) : compU [] V = V := by
  induction V with
  | nil => rw [compU]
  | cons v V ih => cases v <;> rw [compU]; rw [ih]
theorem compU_ins (l : List C5) (U V : List U6) : compU U (l.map .ins ++ V) = l.map .ins ++ compU U V := by
  induction l with
  | nil => rfl
  | cons c l ih =>
    show compU U (.ins c :: (l.map .ins ++ V)) = .ins c :: _
    rw [compU, ih]; rfl
/-- No insert stands first. -/
def NoIns : List U6 → Prop
  | .ins _ :: _ => False
  | _ => True
theorem compU_dels (n : Nat) (U : List U6) {V : List U6} (h : NoIns V) : compU (List.replicate n .del ++ U) V = List.replicate n .del ++ compU U V := by
  induction n with
  | zero => rfl
  | succ n ih =>
    rw [List.replicate_succ]
    show compU (.del :: (List.replicate n .del ++ U)) V = .del :: (List.replicate n .del ++ compU U V)
    cases V with
    | nil => rw [compU_nil, compU_nil]
    | cons v V =>
      cases v with
      | ins c => exact h.elim
      | keep B => rw [compU, ih]
      | del => rw [compU, ih]
theorem compU_kk (A B : List A2) (n : Nat) (U V : List U6) : compU (List.replicate n (.keep A) ++ U) (List.replicate n (.keep B) ++ V) = List.replicate n (.keep (jn (chC true) A B)) ++ compU U V := by
  induction n with
  | zero => rfl
  | succ n ih =>
    rw [List.replicate_succ, List.replicate_succ, List.replicate_succ]
    show compU (.keep A :: _) (.keep B :: _) = _
    rw [compU]
    exact congrArg (List.cons _) ih
theorem compU_kd (A : List A2) (n : Nat) (U V : List U6) : compU (List.replicate n (.keep A) ++ U) (List.replicate n .del ++ V) = List.replicate n .del ++ compU U V := by
  induction n with
  | zero => rfl
  | succ n ih =>
    rw [List.replicate_succ, List.replicate_succ]
    show compU (.keep A :: _) (.del :: _) = _
    rw [compU]
    exact congrArg (List.cons _) ih
theorem compU_ik (B : List A2) : ∀ (l : List C5) (U V : List U6), compU (l.map .ins ++ U) (List.replicate l.length (.keep B) ++ V) = (l.map fun c => U6.ins (patC c B)) ++ compU U V
  | [], U, V => rfl
  | c :: l, U, V => by
    rw [List.length_cons, List.replicate_succ]
    show compU (.ins c :: _) (.keep B :: _) = _
    rw [compU]
    show _ :: compU (l.map .ins ++ U) (List.replicate l.length (.keep B) ++ V) = _
    rw [compU_ik B l U V]; rfl
theorem compU_id : ∀ (l : List C5) (U V : List U6), compU (l.map .ins ++ U) (List.replicate l.length .del ++ V) = compU U V
  | [], U, V => rfl
  | c :: l, U, V => by
    rw [List.length_cons, List.replicate_succ]
    show compU (.ins c :: _) (.del :: _) = _
    rw [compU]
    exact compU_id l U V
/-- An insert with a patch. -/
def patO (o : Op5) (B : List A2) : Op5 := ⟨o.k, o.t, o.v, o.c, jn (chC false) o.A B⟩
/-- A retain with another patch. -/
def jnR (o : Op5) (B : List A2) : Op5 := ⟨o.k, o.t, o.v, o.c, jn (chC true) o.A B⟩
theorem patO_wel {o : Op5} {B : List A2} (h : Wel o) (hk : o.k = 1 ∨ o.k = 2) (hB : Pat B) : Wel (patO o B) ∧ unitsO (patO o B) = (cellsOf o).map fun c => U6.ins (patC c B) := by
  obtain ⟨i, _⟩ := h.resolve_right (by rintro (h | h) <;> omega)
  refine ⟨Or.inl ⟨⟨i.kind, i.full, i.count, i.utf, i.val, pat_set i.set hB⟩, hk⟩, ?_⟩
  rw [unitsO_1 (show (patO o B).k = 1 ∨ (patO o B).k = 2 from hk)]
  unfold cellsOf
  rcases hk with hk | hk
  · rw [if_pos (show (patO o B).k = 1 from hk), if_pos hk]
    show (mkC (jn (chC false) o.A B) (scs o.t.data.toList)).map U6.ins = _
    simp [mkC, patC]
  · rw [if_neg (show ¬ (patO o B).k = 1 by show ¬ o.k = 1; omega), if_neg (by omega)]
    rfl
theorem jnR_wel {o : Op5} {B : List A2} (h : Wel o) (hk : o.k = 3) (hB : Pat B) : Wel (jnR o B) ∧ unitsO (jnR o B) = List.replicate o.c.toNat (.keep (jn (chC true) o.A B)) := by
  obtain ⟨_, a1, a2, a3, a4⟩ := (h.resolve_left (fun h => by omega)).resolve_right (fun h => by omega)
  exact ⟨Or.inr (Or.inl ⟨hk, a1, a2, a3, (Pat.jn (one_C true) (pat_of a4) hB).chk⟩), by rw [unitsO_3 (show (jnR o B).k = 3 from hk)]; rfl⟩
/-- What as many cells of the one and of the other come to. -/
def bothO (p q : Op5) : List Op5 := if q.k = 4 then (if p.k = 3 then [q] else []) else if p.k = 3 then [jnR p q.A] else [patO p q.A]
theorem len_cells {o : Op5} (hk : o.k = 1 ∨ o.k = 2) : (unitsO o).length = (cellsOf o).length := by rw [unitsO_1 hk, List.length_map]
/-- **A step of composing.** -/
theorem comp_step {p q : Op5} (hp : Wel p) (hq : Wel q) (kp : p.k ≠ 4) (kq : q.k = 3 ∨ q.k = 4) (hl : (unitsO p).length = (unitsO q).length) (U V : List U6) :
    (∀ o ∈ bothO p q, Wel o) ∧ compU (unitsO p ++ U) (unitsO q ++ V) = units (bothO p q) ++ compU U V := by
  have hqA : q.k = 3 → Pat q.A := fun hk => by
    obtain ⟨_, _, _, _, a⟩ := (hq.resolve_left (fun h => by omega)).resolve_right (fun h => by omega)
    exact pat_of a
  have one : ∀ {x : Op5}, Wel x → ∀ o ∈ [x], Wel o := fun {x} h o ho => by rw [List.mem_singleton.1 ho]; exact h
  unfold bothO
  rcases hp.kinds with k1 | k1 | k1 | k1
  · rcases kq with k2 | k2
    · rw [if_neg (by omega), if_neg (by omega)]
      obtain ⟨w, e⟩ := patO_wel (B := q.A) hp (Or.inl k1) (hqA k2)
      refine ⟨one w, ?_⟩
      rw [unitsO_3 k2, List.length_replicate, len_cells (Or.inl k1)] at hl
      rw [units_one, e, unitsO_1 (Or.inl k1), unitsO_3 k2, ← hl, compU_ik]
    · rw [if_pos k2, if_neg (by omega)]
      refine ⟨fun o ho => (by cases ho), ?_⟩
      rw [unitsO_4 k2, List.length_replicate, len_cells (Or.inl k1)] at hl
      rw [unitsO_1 (Or.inl k1), unitsO_4 k2, ← hl, compU_id]; rfl
  · rcases kq with k2 | k2
    · rw [if_neg (by omega), if_neg (by omega)]
      obtain ⟨w, e⟩ := patO_wel (B := q.A) hp (Or.inr k1) (hqA k2)
      refine ⟨one w, ?_⟩
      rw [unitsO_3 k2, List.length_replicate, len_cells (Or.inr k1)] at hl
      rw [units_one, e, unitsO_1 (Or.inr k1), unitsO_3 k2, ← hl, compU_ik]
    · rw [if_pos k2, if_neg (by omega)]
      refine ⟨fun o ho => (by cases ho), ?_⟩
      rw [unitsO_4 k2, List.length_replicate, len_cells (Or.inr k1)] at hl
      rw [unitsO_1 (Or.inr k1), unitsO_4 k2, ← hl, compU_id]; rfl
  · rcases kq with k2 | k2
    · rw [if_neg (by omega), if_pos k1]
      obtain ⟨w, e⟩ := jnR_wel (B := q.A) hp k1 (hqA k2)
      refine ⟨one w, ?_⟩
      rw [unitsO_3 k2, List.length_replicate, unitsO_3 k1, List.length_replicate] at hl
      rw [units_one, e, unitsO_3 k1, unitsO_3 k2, ← hl, compU_kk]
    · rw [if_pos k2, if_pos k1]
      refine ⟨one hq, ?_⟩
      rw [unitsO_4 k2, List.length_replicate, unitsO_3 k1, List.length_replicate] at hl
      rw [units_one, unitsO_3 k1, unitsO_4 k2, ← hl, compU_kd]
  · exact absurd k1 kp

/-! Carrying over. -/
end Go.Proofs.YtplnojapnaaakaaGreatDoor

/- The pieces of a side, plain retains behind them: put together they are the list again. -/
namespace Go.Proofs.YtplnojapnaaakaaGreatDoor
open Go Go.RowKit Go.Lib
set_option linter.unusedVariables false
theorem units_pl (n : Int) : unitsO (pl7 n) = List.replicate n.toNat (U6.keep []) := rfl
theorem wel_pl {n : Int} (h : 1 ≤ n) : Wel (pl7 n) := Or.inr (Or.inl ⟨rfl, rfl, rfl, h, by kernel_rfl⟩)
/-- What has been handed over of the first side, of the second. -/
def lef7 (R S : List Op5) (k : Nat) : List Op5 := (List.range k).filterMap fun j => (out7 R S j).1
def rig7 (R S : List Op5) (k : Nat) : List Op5 := (List.range k).filterMap fun j => (out7 R S j).2
theorem lef_succ (R S : List Op5) (k : Nat) : lef7 R S (k + 1) = lef7 R S k ++ (out7 R S k).1.toList := by
  unfold lef7; rw [List.range_succ, List.filterMap_append]; cases h : (out7 R S k).1 <;> simp [h]
theorem rig_succ (R S : List Op5) (k : Nat) : rig7 R S (k + 1) = rig7 R S k ++ (out7 R S k).2.toList := by
  unfold rig7; rw [List.range_succ, List.filterMap_append]; cases h : (out7 R S k).2 <;> simp [h]
theorem left_inv {E F : List Op5} {N T K : Nat} (hE : Rst E N T K) (hF : Rst F N T K) (hT : T ≤ 8388608) (hN : N ≤ 4194304) : ∀ k, ∃ m, units (lef7 E F k) ++ units (it7 E F k).1 = units E ++ List.replicate m (U6.keep []) ∧ ((it7 E F k).1 ≠ [] → m = 0)
  | 0 => ⟨0, by show units [] ++ units E = _; simp [units], fun _ => rfl⟩
  | k + 1 => by
    obtain ⟨m, h1, h2⟩ := left_inv hE hF hT hN k
    obtain ⟨hR, hS⟩ := it_rst hE hF hT hN k
    rw [lef_succ, units_append, List.append_assoc]
    show ∃ m, units (lef7 E F k) ++ (units (st7 (it7 E F k).1 (it7 E F k).2).1.1.toList ++ units (st7 (it7 E F k).1 (it7 E F k).2).2.1) = _ ∧ ((st7 (it7 E F k).1 (it7 E F k).2).2.1 ≠ [] → m = 0)
    generalize (it7 E F k).1 = R at *
    generalize (it7 E F k).2 = S at *
    have lR := left_range hR hT hN
    have lS := left_range hS hT hN
    have one : ∀ n : Int, 1 ≤ n → R ≠ [] → units (lef7 E F k) ++ (units (some (nx7 R n).1).toList ++ units (nx7 R n).2) = units E ++ List.replicate m (U6.keep []) := fun n hn h0 => by
      rw [← h1, hR.units hn h0]
      show _ ++ ((unitsO _ ++ []) ++ _) = _
      rw [List.append_nil]
    by_cases h : kind7 S = 1 ∨ kind7 S = 2
    · rw [st_ins h]
      exact ⟨m, h1, h2⟩
    · by_cases h4 : kind7 R = 4
      · rw [st_del h h4]
        have h0 : R ≠ [] := fun e => by subst e; exact absurd h4 (by decide)
        exact ⟨m, one _ lR.1 h0, fun _ => h2 h0⟩
      · rw [st_both h h4]
        by_cases h0 : R = []
        · subst h0
          refine ⟨m + (min (min (left7 []) (left7 S)) 1099511627776).toNat, ?_, fun hx => absurd rfl hx⟩
          show units (lef7 E F k) ++ ((unitsO (pl7 _) ++ []) ++ []) = _
          rw [List.append_nil, List.append_nil, units_pl, ← List.replicate_append_replicate, ← List.append_assoc, ← h1]
          show _ = (units (lef7 E F k) ++ []) ++ _
          rw [List.append_nil]
        · exact ⟨m, one _ (by omega) h0, fun _ => h2 h0⟩
theorem right_inv {E F : List Op5} {N T K : Nat} (hE : Rst E N T K) (hF : Rst F N T K) (hT : T ≤ 8388608) (hN : N ≤ 4194304) : ∀ k, ∃ m, units (rig7 E F k) ++ units (it7 E F k).2 = units F ++ List.replicate m (U6.keep []) ∧ ((it7 E F k).2 ≠ [] → m = 0)
  | 0 => ⟨0, by show units [] ++ units F = _; simp [units], fun _ => rfl⟩
  | k + 1 => by
    obtain ⟨m, h1, h2⟩ := right_inv hE hF hT hN k
    obtain ⟨hR, hS⟩ := it_rst hE hF hT hN k
    rw [rig_succ, units_append, List.append_assoc]
    show ∃ m, units (rig7 E F k) ++ (units (st7 (it7 E F k).1 (it7 E F k).2).1.2.toList ++ units (st7 (it7 E F k).1 (it7 E F k).2).2.2) = _ ∧ ((st7 (it7 E F k).1 (it7 E F k).2).2.2 ≠ [] → m = 0)
    generalize (it7 E F k).1 = R at *
    generalize (it7 E F k).2 = S at *
    have lR := left_range hR hT hN
    have lS := left_range hS hT hN
    have one : ∀ n : Int, 1 ≤ n → S ≠ [] → units (rig7 E F k) ++ (units (some (nx7 S n).1).toList ++ units (nx7 S n).2) = units F ++ List.replicate m (U6.keep []) := fun n hn h0 => by
      rw [← h1, hS.units hn h0]
      show _ ++ ((unitsO _ ++ []) ++ _) = _
      rw [List.append_nil]
    by_cases h : kind7 S = 1 ∨ kind7 S = 2
    · rw [st_ins h]
      have h0 : S ≠ [] := fun e => by subst e; exact absurd h (by decide)
      exact ⟨m, one _ lS.1 h0, fun _ => h2 h0⟩
    · by_cases h4 : kind7 R = 4
      · rw [st_del h h4]
        exact ⟨m, h1, h2⟩
      · rw [st_both h h4]
        by_cases h0 : S = []
        · subst h0
          refine ⟨m + (min (min (left7 R) (left7 [])) 1099511627776).toNat, ?_, fun hx => absurd rfl hx⟩
          show units (rig7 E F k) ++ ((unitsO (pl7 _) ++ []) ++ []) = _
          rw [List.append_nil, List.append_nil, units_pl, ← List.replicate_append_replicate, ← List.append_assoc, ← h1]
          show _ = (units (rig7 E F k) ++ []) ++ _
          rw [List.append_nil]
        · exact ⟨m, one _ (by omega) h0, fun _ => h2 h0⟩
theorem out_good {R S : List Op5} {N T K : Nat} (hR : Rst R N T K) (hS : Rst S N T K) (hT : T ≤ 8388608) (hN : N ≤ 4194304) : (∀ o, (st7 R S).1.1 = some o → opE o = 0 ∧ FitA o ∧ o.A.length ≤ K) ∧ ∀ o, (st7 R S).1.2 = some o → opE o = 0 ∧ FitA o ∧ o.A.length ≤ K := by
  have lR := left_range hR hT hN
  have lS := left_range hS hT hN
  have pR : ∀ n : Int, 1 ≤ n → ∀ o, some (nx7 R n).1 = some o → opE o = 0 ∧ FitA o ∧ o.A.length ≤ K := fun n hn o e => by
    cases e
    obtain ⟨p1, p2, _, p4, _⟩ := hR.piece hn
    exact ⟨p1, p2, p4⟩
  have pS : ∀ n : Int, 1 ≤ n → ∀ o, some (nx7 S n).1 = some o → opE o = 0 ∧ FitA o ∧ o.A.length ≤ K := fun n hn o e => by
    cases e
    obtain ⟨p1, p2, _, p4, _⟩ := hS.piece hn
    exact ⟨p1, p2, p4⟩
  by_cases h : kind7 S = 1 ∨ kind7 S = 2
  · rw [st_ins h]; exact ⟨fun o e => (by cases e), pS _ lS.1⟩
  · by_cases h4 : kind7 R = 4
    · rw [st_del h h4]; exact ⟨pR _ lR.1, fun o e => (by cases e)⟩
    · rw [st_both h h4]; exact ⟨pR _ (by omega), pS _ (by omega)⟩
end Go.Proofs.YtplnojapnaaakaaGreatDoor

/- How much the pieces of a side keep and delete. -/
namespace Go.Proofs.YtplnojapnaaakaaGreatDoor
open Go Go.RowKit Go.Lib
set_option linter.unusedVariables false
theorem resU_append (U V : List U6) : resU (U ++ V) = resU U + resU V := by unfold resU; rw [List.countP_append]
end Go.Proofs.YtplnojapnaaakaaGreatDoor

/- What is put down, step by step, when two deltas are gone through side by side: the second behind the first. -/
namespace Go.Proofs.YtplnojapnaaakaaGreatDoor
open Go Go.RowKit Go.Lib
set_option linter.unusedVariables false
/-- What a step puts down. -/
def gotO : Option Op5 × Option Op5 → List Op5
  | (none, none) => []
  | (none, some q) => [q]
  | (some p, none) => [p]
  | (some p, some q) => bothO p q
def got10 (E F : List Op5) (k : Nat) : List Op5 := gotO (out7 E F k)
def gat10 (E F : List Op5) : Nat → List Op5
  | 0 => []
  | k + 1 => gat10 E F k ++ got10 E F k
theorem gat_succ (E F : List Op5) (k : Nat) : gat10 E F (k + 1) = gat10 E F k ++ got10 E F k := rfl
theorem both_pl_l {q : Op5} {n : Int} (hq : Wel q) (kq : q.k = 3 ∨ q.k = 4) (hn : n = len5 q) : (∀ o ∈ bothO (pl7 n) q, Wel o) ∧ units (bothO (pl7 n) q) = unitsO q := by
  unfold bothO
  rcases kq with k | k
  · obtain ⟨_, a1, a2, a3, a4⟩ := (hq.resolve_left (fun h => by omega)).resolve_right (fun h => by omega)
    have hl : len5 q = q.c := by unfold len5; rw [if_neg (by omega)]
    rw [if_neg (by omega), if_pos (show (pl7 n).k = 3 from rfl)]
    obtain ⟨w, e⟩ := jnR_wel (o := pl7 n) (B := q.A) (wel_pl (by omega)) rfl (pat_of a4)
    refine ⟨fun o ho => by rw [List.mem_singleton.1 ho]; exact w, ?_⟩
    rw [units_one, e, unitsO_3 k]
    show List.replicate n.toNat (U6.keep (jn (chC true) [] q.A)) = _
    rw [three3 (pat_of a4).up, hn, hl]
  · rw [if_pos k, if_pos (show (pl7 n).k = 3 from rfl)]
    exact ⟨fun o ho => by rw [List.mem_singleton.1 ho]; exact hq, units_one q⟩
theorem both_pl_r {p : Op5} {n : Int} (hp : Wel p) (kp : p.k ≠ 4) : bothO p (pl7 n) = [p] := by
  unfold bothO
  rw [if_neg (show ¬ (pl7 n).k = 4 from (by decide : ¬ (3 : Int) = 4))]
  rcases hp.kinds with k | k | k | k
  · rw [if_neg (by omega)]
    have hs := (hp.resolve_right (by rintro (h | h) <;> omega)).1.set
    show [patO p []] = _
    unfold patO
    rw [comp_nil hs]
  · rw [if_neg (by omega)]
    have hs := (hp.resolve_right (by rintro (h | h) <;> omega)).1.set
    show [patO p []] = _
    unfold patO
    rw [comp_nil hs]
  · rw [if_pos k]
    obtain ⟨_, a1, a2, a3, a4⟩ := (hp.resolve_left (fun h => by omega)).resolve_right (fun h => by omega)
    show [jnR p []] = _
    unfold jnR
    rw [three2 (pat_of a4).up]
  · exact absurd k kp
theorem noIns_units {S : List Op5} (h : ∀ o ∈ S, Wel o) (hk : ¬ (kind7 S = 1 ∨ kind7 S = 2)) : NoIns (units S) := by
  cases S with
  | nil => trivial
  | cons x r =>
    have hx := h x (List.mem_cons_self ..)
    have hk' : ¬ (x.k = 1 ∨ x.k = 2) := hk
    obtain ⟨u, us, hu⟩ := List.exists_cons_of_ne_nil (unitsO_ne hx)
    have hm : u ∈ unitsO x := by rw [hu]; exact List.mem_cons_self ..
    show NoIns (unitsO x ++ units r)
    rw [hu]
    rcases unit_cases hx hm with ⟨h1, _⟩ | ⟨h1, _⟩ | ⟨_, rfl⟩ | ⟨_, rfl⟩
    · exact absurd (Or.inl h1) hk'
    · exact absurd (Or.inr h1) hk'
    · trivial
    · trivial
/-- **A step.** -/
theorem got_step {R S : List Op5} {N T K : Nat} (hR : Rst R N T K) (hS : Rst S N T K) (hT : T ≤ 8388608) (hN : N ≤ 4194304) (h0 : ¬ (R = [] ∧ S = [])) :
    (∀ o ∈ gotO (st7 R S).1, Wel o) ∧ compU (units R) (units S) = units (gotO (st7 R S).1) ++ compU (units (st7 R S).2.1) (units (st7 R S).2.2) := by
  have lR := left_range hR hT hN
  have lS := left_range hS hT hN
  have one : ∀ {x : Op5}, Wel x → ∀ o ∈ [x], Wel o := fun {x} h o ho => by rw [List.mem_singleton.1 ho]; exact h
  by_cases h : kind7 S = 1 ∨ kind7 S = 2
  · rw [st_ins h]
    have hne : S ≠ [] := kind_ne (by omega)
    obtain ⟨p1, p2, p3, p4, p5, p6⟩ := hS.piece lS.1
    have hw := wel_of p1
    refine ⟨one hw, ?_⟩
    show compU (units R) (units S) = units [(nx7 S (left7 S)).1] ++ compU (units R) (units (nx7 S (left7 S)).2)
    rw [hS.units lS.1 hne, units_one, unitsO_1 (by omega), compU_ins]
  · by_cases h2 : kind7 R = 4
    · rw [st_del h h2]
      have hne : R ≠ [] := kind_ne (by omega)
      obtain ⟨p1, p2, p3, p4, p5, p6⟩ := hR.piece lR.1
      have hw := wel_of p1
      refine ⟨one hw, ?_⟩
      show compU (units R) (units S) = units [(nx7 R (left7 R)).1] ++ compU (units (nx7 R (left7 R)).2) (units S)
      rw [hR.units lR.1 hne, units_one, unitsO_4 (by omega), compU_dels _ _ (noIns_units hS.wel h)]
    · rw [st_both h h2]
      have hm : 1 ≤ min (left7 R) (left7 S) := by omega
      obtain ⟨p1, p2, p3, p4, p5, p6⟩ := hR.piece hm
      obtain ⟨q1, q2, q3, q4, q5, q6⟩ := hS.piece hm
      have wp := wel_of p1
      have wq := wel_of q1
      have kq : (nx7 S (min (left7 R) (left7 S))).1.k = 3 ∨ (nx7 S (min (left7 R) (left7 S))).1.k = 4 := by have := wq.kinds; omega
      by_cases e1 : R = []
      · have e2 : S ≠ [] := fun e => h0 ⟨e1, e⟩
        have el : left7 R = 1099511627776 := by rw [e1]; rfl
        have hu := hS.units hm e2
        rw [hu]
        subst e1
        have hp : (nx7 ([] : List Op5) (min (left7 []) (left7 S))).1 = pl7 (len5 (nx7 S (min (left7 []) (left7 S))).1) := by
          have hx : min (min (left7 []) (left7 S)) 1099511627776 = min (min (left7 []) (left7 S)) (left7 S) := by omega
          rw [q5, ← hx]; rfl
        obtain ⟨b1, b2⟩ := both_pl_l (n := len5 (nx7 S (min (left7 []) (left7 S))).1) wq kq rfl
        rw [← hp] at b1 b2
        refine ⟨b1, ?_⟩
        show compU [] _ = units (bothO _ _) ++ compU [] (units (nx7 S (min (left7 []) (left7 S))).2)
        rw [compU_empty, compU_empty, b2]
      · by_cases e2 : S = []
        · have hu := hR.units hm e1
          rw [hu]
          subst e2
          have hq : (nx7 ([] : List Op5) (min (left7 R) (left7 []))).1 = pl7 (min (min (left7 R) (left7 [])) 1099511627776) := rfl
          have hb := both_pl_r (n := min (min (left7 R) (left7 [])) 1099511627776) wp (by omega)
          rw [← hq] at hb
          show (∀ o ∈ bothO _ _, Wel o) ∧ compU _ [] = units (bothO _ _) ++ compU (units (nx7 R (min (left7 R) (left7 []))).2) []
          rw [hb, compU_nil, compU_nil, units_one]
          exact ⟨one wp, rfl⟩
        · rw [hR.units hm e1, hS.units hm e2]
          have hl : (unitsO (nx7 R (min (left7 R) (left7 S))).1).length = (unitsO (nx7 S (min (left7 R) (left7 S))).1).length := by
            have a1 := len5_units wp
            have a2 := len5_units wq
            omega
          exact comp_step wp wq (by omega) kq hl _ _
theorem gat_units {E F : List Op5} {N T K : Nat} (hE : Rst E N T K) (hF : Rst F N T K) (hT : T ≤ 8388608) (hN : N ≤ 4194304) : ∀ k, Run7 E F k →
    (∀ o ∈ gat10 E F k, Wel o) ∧ compU (units E) (units F) = units (gat10 E F k) ++ compU (units (it7 E F k).1) (units (it7 E F k).2)
  | 0, _ => ⟨fun o h => (by cases h), rfl⟩
  | k + 1, h => by
    obtain ⟨h1, h2⟩ := gat_units hE hF hT hN k fun j hj => h j (by omega)
    obtain ⟨r1, r2⟩ := it_rst hE hF hT hN k
    obtain ⟨g1, g2⟩ := got_step r1 r2 hT hN (h k (by omega))
    rw [gat_succ]
    refine ⟨fun o ho => (List.mem_append.1 ho).elim (h1 o) (g1 o), ?_⟩
    rw [h2, g2, units_append, List.append_assoc]; rfl

/-! How long the texts are. -/
def wC (c : C5) : Nat := (opOf c).t.size
def wU : U6 → Nat
  | .ins c => wC c
  | _ => 0
def wS (U : List U6) : Nat := (U.map wU).sum
theorem wS_append (U V : List U6) : wS (U ++ V) = wS U + wS V := by unfold wS; rw [List.map_append, List.sum_append]
theorem wS_cons (u : U6) (U : List U6) : wS (u :: U) = wU u + wS U := by unfold wS; rw [List.map_cons, List.sum_cons]
theorem wC_pat (c : C5) (A : List A2) : wC (patC c A) = wC c := by
  unfold wC opOf patC
  split <;> rfl
theorem wS_rep (n : Nat) {u : U6} (h : wU u = 0) : wS (List.replicate n u) = 0 := by
  induction n with
  | zero => rfl
  | succ n ih => rw [List.replicate_succ, wS_cons, h, ih]
theorem wS_text (A : List A2) : ∀ (rs : List Nat), wS ((mkC A rs).map U6.ins) = (encs rs).length
  | [] => rfl
  | r :: rs => by
    have ih := wS_text A rs
    unfold mkC at ih ⊢
    rw [List.map_cons, List.map_cons, wS_cons, ih]
    have : wU (U6.ins ((r : Int), ⟨#[]⟩, z0, A)) = (enc r).length := by
      show wC _ = _
      unfold wC opOf
      rw [if_neg (by show ¬ (r : Int) = -1; omega)]
      show (ByteArray.mk (enc (Int.toNat r)).toArray).size = _
      rw [Int.toNat_natCast]
      exact List.size_toArray
    rw [this, encs, List.length_append]
theorem wS_op {o : Op5} (h : Wel o) : wS (unitsO o) = o.t.size := by
  rcases h with ⟨h1, h2⟩ | ⟨h1, h2, h3, h4, h5⟩ | ⟨h1, h2, h3, h4, h5⟩
  · rw [unitsO_1 h2]
    unfold cellsOf
    rcases h2 with h2 | h2
    · rw [if_pos h2, wS_text]
      have hu := h1.utf
      unfold brk at hu
      exact hu
    · rw [if_neg (by omega)]
      show wS [U6.ins (-1, o.t, o.v, o.A)] = _
      rw [wS_cons]
      rfl
  · rw [unitsO_3 h1, wS_rep _ rfl, h2]; rfl
  · rw [unitsO_4 h1, wS_rep _ rfl, h2]; rfl
theorem wS_units : ∀ {E : List Op5}, (∀ o ∈ E, Wel o) → wS (units E) = txtS E
  | [], _ => rfl
  | o :: r, h => by
    show wS (unitsO o ++ units r) = _
    rw [wS_append, wS_op (h o (List.mem_cons_self ..)), wS_units fun x hx => h x (List.mem_cons_of_mem _ hx), txtS_cons]
theorem wS_comp : ∀ (U V : List U6), wS (compU U V) ≤ wS U + wS V
  | U, [] => by rw [compU_nil]; exact Nat.le_add_right ..
  | U, .ins c :: V => by
    have ih := wS_comp U V
    rw [compU, wS_cons, wS_cons]; omega
  | [], .keep B :: V => by rw [compU_empty]; exact Nat.le_add_left ..
  | [], .del :: V => by rw [compU_empty]; exact Nat.le_add_left ..
  | .del :: U, .keep B :: V => by
    have ih := wS_comp U (.keep B :: V)
    rw [compU, wS_cons, wS_cons]
    simp only [wU] at *; omega
  | .del :: U, .del :: V => by
    have ih := wS_comp U (.del :: V)
    rw [compU, wS_cons, wS_cons]
    simp only [wU] at *; omega
  | .ins c :: U, .keep B :: V => by
    have ih := wS_comp U V
    rw [compU, wS_cons, wS_cons, wS_cons]
    simp only [wU, wC_pat] at *; omega
  | .ins c :: U, .del :: V => by
    have ih := wS_comp U V
    rw [compU, wS_cons, wS_cons]
    simp only [wU] at *; omega
  | .keep A :: U, .keep B :: V => by
    have ih := wS_comp U V
    rw [compU, wS_cons, wS_cons, wS_cons]
    simp only [wU] at *; omega
  | .keep A :: U, .del :: V => by
    have ih := wS_comp U V
    rw [compU, wS_cons, wS_cons, wS_cons]
    simp only [wU] at *; omega
termination_by U V => U.length + V.length
theorem gat_txt {E F : List Op5} {N T K : Nat} (hE : Rst E N T K) (hF : Rst F N T K) (hT : T ≤ 8388608) (hN : N ≤ 4194304) {k : Nat} (h : Run7 E F k) : txtS (gat10 E F k) ≤ txtS E + txtS F := by
  obtain ⟨h1, h2⟩ := gat_units hE hF hT hN k h
  have := wS_comp (units E) (units F)
  rw [h2, wS_append, wS_units h1, wS_units hE.wel, wS_units hF.wel] at this
  omega
theorem both_le (p q : Op5) : (bothO p q).length ≤ 1 := by unfold bothO; split <;> split <;> simp
theorem got_le (x : Option Op5 × Option Op5) : (gotO x).length ≤ 1 := by
  obtain ⟨x, y⟩ := x
  cases x <;> cases y
  · simp [gotO]
  · simp [gotO]
  · simp [gotO]
  · exact both_le _ _
theorem gat_le (E F : List Op5) : ∀ k, (gat10 E F k).length ≤ k
  | 0 => Nat.le_refl _
  | k + 1 => by
    have := gat_le E F k
    have := got_le (out7 E F k)
    rw [gat_succ, List.length_append]
    unfold got10
    omega
theorem put_memC {b : Bool} {k : ByteArray} {x y : Option P3} {q : A2} (h : q ∈ putO k (fOf (chC b) x y)) : (∃ v, y = some v ∧ q = (k, v)) ∨ (y = none ∧ ∃ v, x = some v ∧ q = (k, v)) ∨ (x = none ∧ y = none) := by
  unfold fOf at h
  split at h
  · unfold putO at h
    have h := List.mem_singleton.1 h
    cases y with
    | some v => exact .inl ⟨v, rfl, h⟩
    | none =>
      cases x with
      | some v => exact .inr (.inl ⟨rfl, v, rfl, h⟩)
      | none => exact .inr (.inr ⟨rfl, rfl⟩)
  · cases h
theorem jn_memC {b : Bool} (A B : List A2) : ∀ q ∈ jn (chC b) A B, q ∈ A ∨ q ∈ B := by
  unfold jn
  induction A, B using joinL.induct with
  | case1 => intro q h; rw [joinL] at h; cases h
  | case2 x a ih =>
    intro q h
    rw [joinL] at h
    rcases List.mem_append.1 h with h | h
    · rcases put_memC h with ⟨v, e, _⟩ | ⟨_, v, e, rfl⟩ | ⟨e, _⟩
      · cases e
      · cases e; exact .inl (List.mem_cons_self ..)
      · cases e
    · exact (ih q h).imp (List.mem_cons_of_mem _) id
  | case3 y b ih =>
    intro q h
    rw [joinL] at h
    rcases List.mem_append.1 h with h | h
    · rcases put_memC h with ⟨v, e, rfl⟩ | ⟨e, _⟩ | ⟨_, e⟩
      · cases e; exact .inr (List.mem_cons_self ..)
      · cases e
      · cases e
    · exact (ih q h).imp id (List.mem_cons_of_mem _)
  | case4 x a y b h0 ih =>
    intro q h
    rw [joinL, if_pos h0] at h
    rcases List.mem_append.1 h with h | h
    · rcases put_memC h with ⟨v, e, _⟩ | ⟨_, v, e, rfl⟩ | ⟨e, _⟩
      · cases e
      · cases e; exact .inl (List.mem_cons_self ..)
      · cases e
    · exact (ih q h).imp (List.mem_cons_of_mem _) id
  | case5 x a y b h0 h1 ih =>
    intro q h
    rw [joinL, if_neg h0, if_pos h1] at h
    rcases List.mem_append.1 h with h | h
    · rcases put_memC h with ⟨v, e, rfl⟩ | ⟨e, _⟩ | ⟨_, e⟩
      · cases e; rw [kc_zero.1 h1]; exact .inr (List.mem_cons_self ..)
      · cases e
      · cases e
    · exact (ih q h).imp (List.mem_cons_of_mem _) (List.mem_cons_of_mem _)
  | case6 x a y b h0 h1 ih =>
    intro q h
    rw [joinL, if_neg h0, if_neg h1] at h
    rcases List.mem_append.1 h with h | h
    · rcases put_memC h with ⟨v, e, rfl⟩ | ⟨e, _⟩ | ⟨_, e⟩
      · cases e; exact .inr (List.mem_cons_self ..)
      · cases e
      · cases e
    · exact (ih q h).imp id (List.mem_cons_of_mem _)
/-- Lists that are put down are short enough. -/
theorem fit_both {p q : Op5} {K1 K2 : Nat} (hp : FitA p) (hq : FitA q) (lp : p.A.length ≤ K1) (lq : q.A.length ≤ K2) (hK : K1 + K2 ≤ 1048576) : ∀ o ∈ bothO p q, FitA o ∧ o.A.length ≤ K1 + K2 := fun o ho => by
  have hm : ∀ (b : Bool), FitA ⟨p.k, p.t, p.v, p.c, jn (chC b) p.A q.A⟩ ∧ (jn (chC b) p.A q.A).length ≤ K1 + K2 := fun b => by
    have hl := jn_len (chC b) p.A q.A
    refine ⟨⟨hp.v, fun x hx => ?_, by show (jn (chC b) p.A q.A).length ≤ _; omega⟩, by omega⟩
    rcases jn_memC _ _ x hx with h | h
    · exact hp.A x h
    · exact hq.A x h
  unfold bothO at ho
  split at ho
  · split at ho
    · rw [List.mem_singleton.1 ho]; exact ⟨hq, by omega⟩
    · cases ho
  · split at ho
    · rw [List.mem_singleton.1 ho]; exact hm true
    · rw [List.mem_singleton.1 ho]; exact hm false
theorem got_fit {E F : List Op5} {N T K : Nat} (hE : Rst E N T K) (hF : Rst F N T K) (hT : T ≤ 8388608) (hN : N ≤ 4194304) (hK : K + K ≤ 1048576) (k : Nat) : ∀ o ∈ got10 E F k, FitA o ∧ o.A.length ≤ K + K := by
  obtain ⟨r1, r2⟩ := it_rst hE hF hT hN k
  obtain ⟨h1, h2⟩ := out_good r1 r2 hT hN
  unfold got10 out7
  intro o ho
  cases e1 : (st7 (it7 E F k).1 (it7 E F k).2).1.1 with
  | none =>
    cases e2 : (st7 (it7 E F k).1 (it7 E F k).2).1.2 with
    | none => rw [show (st7 (it7 E F k).1 (it7 E F k).2).1 = (none, none) from Prod.ext e1 e2] at ho; cases ho
    | some q =>
      rw [show (st7 (it7 E F k).1 (it7 E F k).2).1 = (none, some q) from Prod.ext e1 e2] at ho
      have := h2 q e2
      rw [List.mem_singleton.1 ho]; exact ⟨this.2.1, by omega⟩
  | some p =>
    have hp := h1 p e1
    cases e2 : (st7 (it7 E F k).1 (it7 E F k).2).1.2 with
    | none =>
      rw [show (st7 (it7 E F k).1 (it7 E F k).2).1 = (some p, none) from Prod.ext e1 e2] at ho
      rw [List.mem_singleton.1 ho]; exact ⟨hp.2.1, by omega⟩
    | some q =>
      rw [show (st7 (it7 E F k).1 (it7 E F k).2).1 = (some p, some q) from Prod.ext e1 e2] at ho
      have hq := h2 q e2
      exact fit_both hp.2.1 hq.2.1 hp.2.2 hq.2.2 hK o ho
theorem gat_fit {E F : List Op5} {N T K : Nat} (hE : Rst E N T K) (hF : Rst F N T K) (hT : T ≤ 8388608) (hN : N ≤ 4194304) (hK : K + K ≤ 1048576) : ∀ k, ∀ o ∈ gat10 E F k, FitA o ∧ o.A.length ≤ K + K
  | 0, _, h => by cases h
  | k + 1, o, h => (List.mem_append.1 h).elim (gat_fit hE hF hT hN hK k o) (got_fit hE hF hT hN hK k o)

/-! Where the first is a document. -/
theorem edit_nilI : ∀ {U : List U6} {xs : List C5}, edit U [] = some xs → U = xs.map U6.ins
  | [], xs, h => by obtain rfl := Option.some.inj h; rfl
  | .ins c :: U, xs, h => by
    rw [edit_ins] at h
    obtain ⟨y, hy, rfl⟩ := Option.map_eq_some_iff.1 h
    rw [edit_nilI hy]; rfl
  | .keep A :: U, xs, h => by cases h
  | .del :: U, xs, h => by cases h
theorem edit_insl (l : List C5) : edit (l.map U6.ins) [] = some l := by unfold edit; rw [run_ins]; simp
/-- Composing a document and a delta that applies to it: the cells behind. -/
theorem comp_doc {E F : List Op5} (hE : ∀ o ∈ E, Wel o) (hF : ∀ o ∈ F, Wel o) (hd : DocL E) {xs : List C5} (h : edit (units F) (cellsL E) = some xs) : compU (units E) (units F) = xs.map U6.ins := by
  refine edit_nilI ?_
  rw [edit_comp _ _ _ (good_units hE) (good_units hF) (fun c hc => by cases hc), units_doc hd, edit_insl]
  exact h
/-- What has been put down by then, all of it inserts. -/
theorem gat_doc {E F : List Op5} {N T K : Nat} (hE : Rst E N T K) (hF : Rst F N T K) (hT : T ≤ 8388608) (hN : N ≤ 4194304) (hd : DocL E) {xs : List C5} (h : edit (units F) (cellsL E) = some xs) {k : Nat} (hr : Run7 E F k) :
    DocL (gat10 E F k) ∧ ∃ r, cellsL (gat10 E F k) ++ r = xs ∧ compU (units (it7 E F k).1) (units (it7 E F k).2) = r.map U6.ins := by
  obtain ⟨h1, h2⟩ := gat_units hE hF hT hN k hr
  rw [comp_doc hE.wel hF.wel hd h] at h2
  obtain ⟨l1, l2, e0, e1, e2⟩ := List.map_eq_append_iff.1 h2
  have hdl := wel_doc h1 e1.symm
  have : cellsL (gat10 E F k) = l1 := ins_map_inj (by rw [← units_doc hdl, e1])
  exact ⟨hdl, l2, by rw [this, e0], e2.symm⟩
theorem gat_end {E F : List Op5} {N T K : Nat} (hE : Rst E N T K) (hF : Rst F N T K) (hT : T ≤ 8388608) (hN : N ≤ 4194304) (hd : DocL E) {xs : List C5} (h : edit (units F) (cellsL E) = some xs) {k : Nat} (hr : Run7 E F k) (h0 : (it7 E F k).1 = [] ∧ (it7 E F k).2 = []) :
    canonL (gat10 E F k) = docOf xs := by
  obtain ⟨hg, _⟩ := gat_units hE hF hT hN k hr
  obtain ⟨h1, r, h2, h3⟩ := gat_doc hE hF hT hN hd h hr
  rw [h0.1, h0.2] at h3
  have hr0 : r = [] := by
    have : compU (units []) (units []) = [] := compU_nil _
    rw [this] at h3
    cases r with
    | nil => rfl
    | cons => cases h3
  subst hr0
  rw [List.append_nil] at h2
  have hgc : ∀ c ∈ xs, GoodC c := by rw [← h2]; exact good_cells hg h1
  obtain ⟨d1, d2, d3, d4⟩ := doc_units hgc
  refine canon_unique hg d1 d2 ?_
  rw [d4, units_doc h1, h2, nrm_ins0, strip_ins]
end Go.Proofs.YtplnojapnaaakaaGreatDoor
