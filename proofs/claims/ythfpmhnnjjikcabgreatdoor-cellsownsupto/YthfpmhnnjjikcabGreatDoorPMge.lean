/- What the methods Op of pieces answer. build: what a delta tells: Count, Ops, Pieces, Same. build: own and Pieces: a delta's pieces, each with a list of its own. A Walker in memory: its own cell, the row of what is left. Calls of a piece's methods through the interface; the Walker's small calls. build: Pieces: each piece's list lies in blocks of its own. What Each's function hands over, for whatever loop body. What cellsOf's function hands over, for whatever loop body: the cells of a text. What cellsOf's function hands over, for whatever loop body: the cell of an embed. What cellsOf's function hands over, for whatever loop body: an insert's cells; cells.Each. measure: gathered: pieces of deltas put into one. One list behind another, in canonical form, by units: sums, brackets, what a cut takes. measure: count: how many cells a delta keeps, makes and takes away; Base, Result, Inserted, Deleted, Document. measure: Base, Result, Inserted, Deleted, Document, Concat, Shift. -/
import Derived.Test.YthfpmhnnjjikcabGreatDoorPMgd
import Derived.Test.YthfpmhnnjjikcabGreatDoorPMga
import Derived.Test.YthfpmhnnjjikcabGreatDoorPMgc
import Derived.Deep.RegionHeld3
import Derived.RangeFuncNested
import Derived.RangeFuncBound
import Derived.RangeFuncCalls
import Derived.RangeFuncLeaves
import Derived.Shelf.Abstract
import Derived.Shelf.RegionOpen
import Derived.WalkKit
import Derived.OwnWalkIn
import Derived.TacticsInMore
import Derived.LoopNIn
import Derived.LoopIn
import Derived.Stop.RegionWithIn
import Derived.Lib.AppendZerosOnto
import Derived.Lib.SliceRun
import Derived.Laws.AppendOwnNone
import Derived.Test.YthfpmhnnjjikcabGreatDoorPMgb

/- What the methods Op of pieces answer. -/
namespace Go.Proofs.YthfpmhnnjjikcabGreatDoor
open Go Go.RowKit Go.Lib
set_option linter.unusedVariables false
set_option maxHeartbeats 1000000 in
set_option maxRecDepth 100000 in
theorem retOp (s : Value) (A : List A2) (n : Int) (w : World) (hR : RN w s A) (hl : A.length ≤ 2097152) :
    Calls Tryz.prog 201 #[.agg #[s, .int .i64 n]] w fun r w' => ∃ v', r = .returned (opV ⟨3, ⟨#[]⟩, z0, n, []⟩ v') ∧ OwnA w' w.heap.size v' A ∧ Below w.heap.size w w' := by
  have HC : Hid (∀ W, Below w.heap.size w W → Calls Tryz.prog 121 #[.agg #[s]] W fun r w' => ∃ v', r = .returned v' ∧ OwnA w' W.heap.size v' A ∧ Below W.heap.size W w') := fun W hW => attributes_any s A W (hR.row.below hW) hR.nz hl
  obtain ⟨p, l, cc, rfl⟩ : ∃ p l c, s = .slice p l c := by obtain ⟨p, c, h, _⟩ := hR.row.val; exact ⟨_, _, _, h⟩
  clear hR hl
  obtain ⟨W1, hW1⟩ : ∃ W, W = (w.alloc (.cells #[.slice p l cc, .int .i64 n] 115)).alloc (.cells #[.int .i64 0, .string ⟨#[]⟩, .int .i64 0, .int .i64 0, .string ⟨#[]⟩, .int .i64 0, .slice none 0 0] 74) := ⟨_, rfl⟩
  have b0 : Below w.heap.size w W1 := by rw [hW1]; exact ((Below.refl _ _).alloc (Nat.le_refl _) _).alloc (by simp) _
  have e0 : W1.cell? ⟨w.heap.size, 0, none⟩ = some (.slice p l cc) := by rw [hW1]; simp
  have e1 : W1.cell? ⟨w.heap.size, 1, none⟩ = some (.int .i64 n) := by rw [hW1]; simp
  have hB : BoxO W1 (w.heap.size + 1) opZ nilS ∧ FrO W1 (w.heap.size + 1) := by
    have q1 := BoxO.new (w.alloc (.cells #[.slice p l cc, .int .i64 n] 115)) opZ nilS
    have q2 := FrO.new (w.alloc (.cells #[.slice p l cc, .int .i64 n] 115)) opZ nilS
    rw [World.size_alloc] at q1 q2
    rw [hW1]
    exact ⟨q1, q2⟩
  go_enter Tryz.func201, Tryz.ntmps201
  go_upto_region 1 with fail
  rw [← hW1]
  clear hW1
  have HB : Hid (BoxO W1.drew (w.heap.size + 1) opZ nilS ∧ FrO W1.drew (w.heap.size + 1)) := ⟨hB.1.drew, hB.2.drew⟩
  have b1 : Below w.heap.size w W1.drew := b0.drew
  have hz1 : w.heap.size ≤ W1.drew.heap.size := b1.size
  have hz2 : w.heap.size + 1 < W1.drew.heap.size := lt_of_cell hB.1.d0
  have cA := HC.out W1.drew b1
  have n1 : w.heap.size ≠ w.heap.size + 1 := by omega
  have hs1 : w.heap.size ≤ w.heap.size + 1 := by omega
  have HU : Hid (∀ W : World, (∀ i, W.cell? ⟨w.heap.size, i, none⟩ = W1.drew.cell? ⟨w.heap.size, i, none⟩) → W.cell? ⟨w.heap.size, 0, none⟩ = some (.slice p l cc) ∧ W.cell? ⟨w.heap.size, 1, none⟩ = some (.int .i64 n)) := fun W h => ⟨(h 0).trans e0, (h 1).trans e1⟩
  have M0 := HU.out W1.drew (fun _ => rfl)
  have HW : Hid (∀ W, Below W1.drew.heap.size W1.drew W → ∀ i, W.cell? ⟨w.heap.size, i, none⟩ = W1.drew.cell? ⟨w.heap.size, i, none⟩) := fun W h i => World.cell?_of_block (a := ⟨w.heap.size, i, none⟩) (h.block w.heap.size (by omega))
  have HS : Hid (∀ W, Below W1.drew.heap.size W1.drew W → (∀ u0 u1 u2 u3 u4 u5 u6 : Value, ((((((((W.setCell ⟨w.heap.size + 1, 0, none⟩ u0).setCell ⟨w.heap.size + 1, 1, none⟩ u1).setCell ⟨w.heap.size + 1, 2, none⟩ u2).setCell ⟨w.heap.size + 1, 3, none⟩ u3).setCell ⟨w.heap.size + 1, 4, none⟩ u4).setCell ⟨w.heap.size + 1, 5, none⟩ u5).setCell ⟨w.heap.size + 1, 6, none⟩ u6).cell? ⟨w.heap.size, 0, none⟩ = some (.slice p l cc) ∧ (((((((W.setCell ⟨w.heap.size + 1, 0, none⟩ u0).setCell ⟨w.heap.size + 1, 1, none⟩ u1).setCell ⟨w.heap.size + 1, 2, none⟩ u2).setCell ⟨w.heap.size + 1, 3, none⟩ u3).setCell ⟨w.heap.size + 1, 4, none⟩ u4).setCell ⟨w.heap.size + 1, 5, none⟩ u5).setCell ⟨w.heap.size + 1, 6, none⟩ u6).cell? ⟨w.heap.size, 1, none⟩ = some (.int .i64 n)) ∧ Below w.heap.size w (((((((W.setCell ⟨w.heap.size + 1, 0, none⟩ u0).setCell ⟨w.heap.size + 1, 1, none⟩ u1).setCell ⟨w.heap.size + 1, 2, none⟩ u2).setCell ⟨w.heap.size + 1, 3, none⟩ u3).setCell ⟨w.heap.size + 1, 4, none⟩ u4).setCell ⟨w.heap.size + 1, 5, none⟩ u5).setCell ⟨w.heap.size + 1, 6, none⟩ u6))) := fun W h u0 u1 u2 u3 u4 u5 u6 => ⟨HU.out _ (fun i => (cell_set7 (B := w.heap.size + 1) (j := i) W n1 u0 u1 u2 u3 u4 u5 u6).trans (HW.out W h i)), below_set7 (B := w.heap.size + 1) (b1.trans (h.mono hz1)) hs1 u0 u1 u2 u3 u4 u5 u6⟩
  clear hB e0 e1 b0
  go_region_held3 (fun w' => (w'.cell? ⟨w.heap.size, 0, none⟩ = some (.slice p l cc) ∧ w'.cell? ⟨w.heap.size, 1, none⟩ = some (.int .i64 n)) ∧ Below w.heap.size w w')
    (first | exact ⟨by with_reducible first | assumption | exact M0 | exact MS _ _ _ _ _ _ _, by with_reducible first | assumption | exact b1 | exact BS _ _ _ _ _ _ _⟩)
    (first
      | (go_at_call 121; refine cA.mono ?_; rintro r wA ⟨vA, rfl, oA, hA⟩; obtain ⟨pA, cA', rfl⟩ := own_slice oA; have HA' := hA; have bA := b1.trans (HA'.mono hz1); have mA := HU.out wA (HW.out wA HA'); have OA : Hid (OwnA wA W1.drew.heap.size (.slice pA A.length cA') A) := oA; clear oA; obtain ⟨q0, q1, q2, q3, q4, q5, q6⟩ := HB.out.1.below HA'; obtain ⟨h0, h1, h2, h3, h4, h5, h6⟩ := HB.out.2.below HB.out.1 HA'; simp only [z0] at q0 q1 q2 q3 q4 q5 q6; have MS := fun u0 u1 u2 u3 u4 u5 u6 => (HS.out wA HA' u0 u1 u2 u3 u4 u5 u6).1; have BS := fun u0 u1 u2 u3 u4 u5 u6 => (HS.out wA HA' u0 u1 u2 u3 u4 u5 u6).2))
  · have same : ∀ (u0 u1 u2 u3 u4 u5 u6 : Value) (v : Value) (hv : OwnA wA W1.drew.heap.size v A), OwnA (((((((wA.setCell ⟨w.heap.size + 1, 0, none⟩ u0).setCell ⟨w.heap.size + 1, 1, none⟩ u1).setCell ⟨w.heap.size + 1, 2, none⟩ u2).setCell ⟨w.heap.size + 1, 3, none⟩ u3).setCell ⟨w.heap.size + 1, 4, none⟩ u4).setCell ⟨w.heap.size + 1, 5, none⟩ u5).setCell ⟨w.heap.size + 1, 6, none⟩ u6) w.heap.size v A := fun u0 u1 u2 u3 u4 u5 u6 v hv =>
      own_weaken (owns_same hv fun k hk => by
        have := (owns_block hv k hk).1
        exact heap_set7 _ (by omega) _ _ _ _ _ _ _) hz1
    go_wp2
    exact bodyPost_ret (v := opV ⟨3, ⟨#[]⟩, z0, n, []⟩ (.slice pA A.length cA')) (by simp [results, Tryz.results201, go_sem, z0, q0, q1, q2, q3, q4, q5, q6]) rfl ⟨_, rfl, same _ _ _ _ _ _ _ _ OA.out, BS _ _ _ _ _ _ _⟩

set_option maxHeartbeats 1000000 in
theorem delOp (n : Int) (w : World) :
    Calls Tryz.prog 199 #[.agg #[.int .i64 n]] w fun r w' => r = .returned (opV ⟨4, ⟨#[]⟩, z0, n, []⟩ (.slice none 0 0)) ∧ Below w.heap.size w w' := by
  go_enter Tryz.func199, Tryz.ntmps199
  go_wp2
  exact bodyPost_ret (v := opV ⟨4, ⟨#[]⟩, z0, n, []⟩ (.slice none 0 0)) (by simp [results, Tryz.results199, go_sem, z0]) rfl ⟨rfl, by go_grown⟩
theorem embOp_any (s : Value) (A : List A2) (t : ByteArray) (v : P3) (w : World) (hv : chkP v = 0) (hR : RN w s A) (hl : A.length ≤ 2097152) :
    Calls Tryz.prog 205 #[.agg #[s, .string t, valP v]] w fun r w' => ∃ v', r = .returned (opV ⟨2, t, v, 0, []⟩ v') ∧ OwnA w' w.heap.size v' A ∧ Below w.heap.size w w' := by
  obtain ⟨x, z, u⟩ := v
  rcases good_cases hv with ⟨rfl, rfl, rfl⟩ | ⟨rfl, rfl, rfl⟩ | ⟨rfl, rfl, rfl⟩ | ⟨rfl, rfl⟩ | ⟨rfl, rfl, _⟩
  · exact embOp_null s A t w hR hl
  · exact embOp_flag0 s A t w hR hl
  · exact embOp_flag1 s A t w hR hl
  · exact embOp_num z s A t w hR hl
  · exact embOp_text u s A t w hR hl
theorem opQ_1 {e : Op5} (hg : opE e = 0) (hk : e.k = 1) (s : Value) (w : World) (hR : RN w s e.A) (hl : e.A.length ≤ 2097152) :
    Calls Tryz.prog 203 #[.agg #[s, .string e.t, .int .i64 (scs e.t.data.toList).length]] w fun r w' => ∃ v', r = .returned (opV e v') ∧ OwnA w' w.heap.size v' e.A ∧ Below w.heap.size w w' := by
  refine (insOp s e.A e.t _ w hR hl).mono fun r w' ⟨v', h1, h2, h3⟩ => ⟨v', ?_, h2, h3⟩
  rw [h1]
  rcases op_good hg with ⟨hi, _⟩ | ⟨_, _, h⟩ | ⟨_, _, h⟩
  · have hc := hi.count
    rcases hi.kind with ⟨_, hv⟩ | ⟨h2, _⟩
    · obtain ⟨k, t, v, c, A⟩ := e
      simp only at hk hv hc
      subst hk hv hc
      rfl
    · omega
  · omega
  · omega
theorem opQ_2 {e : Op5} (hg : opE e = 0) (hk : e.k = 2) (s : Value) (w : World) (hR : RN w s e.A) (hl : e.A.length ≤ 2097152) :
    Calls Tryz.prog 205 #[.agg #[s, .string e.t, valP e.v]] w fun r w' => ∃ v', r = .returned (opV e v') ∧ OwnA w' w.heap.size v' e.A ∧ Below w.heap.size w w' := by
  rcases op_good hg with ⟨hi, _⟩ | ⟨_, _, h⟩ | ⟨_, _, h⟩
  · refine (embOp_any s e.A e.t e.v w hi.val hR hl).mono fun r w' ⟨v', h1, h2, h3⟩ => ⟨v', ?_, h2, h3⟩
    rw [h1]
    have hc := hi.count
    obtain ⟨k, t, v, c, A⟩ := e
    simp only at hk hc
    subst hk hc
    rfl
  · omega
  · omega
theorem cnt_flds {e : Op5} (h : Cnt e) : e.t = ⟨#[]⟩ ∧ e.v = z0 := by
  refine ⟨?_, h.val⟩
  have := h.text
  have h0 : e.t.toList = [] := List.isEmpty_iff.1 this
  rw [toList_data] at h0
  exact ByteArray.ext (Array.ext' h0)
theorem opQ_3 {e : Op5} (hg : opE e = 0) (hk : e.k = 3) (s : Value) (w : World) (hR : RN w s e.A) (hl : e.A.length ≤ 2097152) :
    Calls Tryz.prog 201 #[.agg #[s, .int .i64 e.c]] w fun r w' => ∃ v', r = .returned (opV e v') ∧ OwnA w' w.heap.size v' e.A ∧ Below w.heap.size w w' := by
  refine (retOp s e.A e.c w hR hl).mono fun r w' ⟨v', h1, h2, h3⟩ => ⟨v', ?_, h2, h3⟩
  rw [h1]
  rcases op_good hg with ⟨_, h⟩ | ⟨hc, _, _⟩ | ⟨_, _, h⟩
  · omega
  · obtain ⟨ht, hv⟩ := cnt_flds hc
    obtain ⟨k, t, v, c, A⟩ := e
    simp only at hk ht hv
    subst hk ht hv
    rfl
  · omega
theorem opQ_4 {e : Op5} (hg : opE e = 0) (hk : e.k = 4) (w : World) :
    Calls Tryz.prog 199 #[.agg #[.int .i64 e.c]] w fun r w' => ∃ v', r = .returned (opV e v') ∧ OwnA w' w.heap.size v' e.A ∧ Below w.heap.size w w' := by
  refine (delOp e.c w).mono fun r w' ⟨h1, h3⟩ => ⟨.slice none 0 0, ?_, ?_, h3⟩
  · rw [h1]
    rcases op_good hg with ⟨_, h⟩ | ⟨_, _, h⟩ | ⟨hc, _, _⟩
    · omega
    · omega
    · obtain ⟨ht, hv⟩ := cnt_flds hc
      obtain ⟨k, t, v, c, A⟩ := e
      simp only at hk ht hv
      subst hk ht hv
      rfl
  · rw [drop_A hg hk]; exact ⟨rfl, Or.inl ⟨rfl, rfl⟩⟩
end Go.Proofs.YthfpmhnnjjikcabGreatDoor

/- build: what a delta tells: Count, Ops, Pieces, Same. -/
namespace Go.Proofs.YthfpmhnnjjikcabGreatDoor
open Go Go.RowKit Go.Lib
set_option linter.unusedVariables false
theorem count_any5 {B1 B2 : Nat} (v : Value) (E : List Op5) (w : World) (h : DelV w B1 B2 v E) :
    Calls Tryz.prog 55 #[v] w fun e w' => e = .returned (.int .i64 E.length) ∧ Below w.heap.size w w' := by
  obtain ⟨q, pv, PL, rfl, _, hq, hrow, hpie⟩ := h
  have c0 : w.cell? ⟨q, 0, none⟩ = some pv := by rw [cell_of_heap hq]; rfl
  obtain ⟨p, c, rfl⟩ := own_slice hrow
  have hl := forall2_len hpie
  rw [← hl]
  clear hq hrow hpie hl
  go_enter Tryz.func55, Tryz.ntmps55
  go_wp2
  go_ret
  exact ⟨rfl, Below.refl _ _⟩
theorem wpList_make_op (w : World) {ops : Array Oper} {rest : List Oper} {o : Oper} {a : Act} {Q : Exit → Act → World → Prop}
    (hg : o.guard = none) (l c : Operand) (hop : o.op = Op.makeSlice 30 l c) (base : Nat)
    (kl kc : IntKind) (C : Int) (n : Nat) (hl : a.eval l = .int kl 0) (hc : a.eval c = .int kc C) (hC : C = (n : Int)) (b2 : n ≤ 8388608) (b4 : base ≤ w.heap.size)
    (hK : ∀ v w', OwnO w' base v [] → w.grownBy w' none → wpList Tryz.prog ops Q rest (a.put o.dst v) w') :
    wpList Tryz.prog ops Q (o :: rest) a w := by
  obtain ⟨i, z, hi, hz, hz1, hz2, hz3⟩ := infoOp
  exact wpList_make_own w hg l c _ hop base 74 i z 7 Tryz.underlying30 hi hz hz1 kl kc C n hl hc hC (by rw [hz2]; omega) (by unfold maxLen; omega) b4 fun w' h1 h2 => hK _ w' h1 h2
theorem wpList_make_pi2 (w : World) {ops : Array Oper} {rest : List Oper} {o : Oper} {a : Act} {Q : Exit → Act → World → Prop}
    (hg : o.guard = none) (l c : Operand) (hop : o.op = Op.makeSlice 116 l c) (base : Nat)
    (kl kc : IntKind) (C : Int) (n : Nat) (hl : a.eval l = .int kl 0) (hc : a.eval c = .int kc C) (hC : C = (n : Int)) (b2 : n ≤ 8388608) (b4 : base ≤ w.heap.size)
    (hK : ∀ v w', OwnI w' base v [] → w.grownBy w' none → wpList Tryz.prog ops Q rest (a.put o.dst v) w') :
    wpList Tryz.prog ops Q (o :: rest) a w := by
  obtain ⟨i, z, hi, hz, hz1, hz2, hz3⟩ := infoPi
  exact wpList_make_own w hg l c _ hop base 102 i z 1 Tryz.underlying116 hi hz hz1 kl kc C n hl hc hC (by rw [hz2]; omega) (by unfold maxLen; omega) b4 fun w' h1 h2 => hK _ w' h1 h2
/-- What a loop over a delta's pieces reads. -/
theorem del_read {w : World} {B1 B2 q : Nat} {pv : Value} {PL : List Value} {E : List Op5} (hrow : OwnI w B1 pv PL) (hpie : PieD w B2 PL E) : ∃ p cap, pv = .slice p E.length cap ∧ ∀ k, k < E.length → ∃ ga e s, p = some ⟨ga, 0, none⟩ ∧ E[k]? = some e ∧ w.cell? ⟨ga, k, none⟩ = some (pieceQ e s) ∧ OwnA w B2 s e.A := by
  have hl := forall2_len hpie
  obtain ⟨p, cap, e⟩ := own_slice hrow
  refine ⟨p, cap, by rw [e, hl], fun k hk => ?_⟩
  obtain ⟨g, c, x, hv', hB, hx, hc⟩ := own_cell hrow k (by omega)
  obtain ⟨e', s, he, rfl, hs⟩ := oneI hpie hx
  rw [e] at hv'
  simp only [Value.slice.injEq] at hv'
  exact ⟨g, e', s, hv'.1, he, hc, hs⟩
set_option maxHeartbeats 4000000 in
set_option maxRecDepth 100000 in
theorem ops_any {B1 B2 : Nat} (v : Value) (E : List Op5) (w : World) (h : DelV w B1 B2 v E) (hg : ∀ o ∈ E, opE o = 0) (hA : ∀ o ∈ E, o.A.length ≤ 2097152) (hl : E.length ≤ 4194304) :
    Calls Tryz.prog 34 #[v] w fun e w' => ∃ v', e = .returned v' ∧ CoO w' w.heap.size v' E ∧ Below w.heap.size w w' := by
  obtain ⟨q, pv, PL, rfl, _, hq, hrow, hpie⟩ := h
  have c0 : w.cell? ⟨q, 0, none⟩ = some pv := by rw [cell_of_heap hq]; rfl
  obtain ⟨p, cap, rfl, hrd⟩ := del_read (q := q) hrow hpie
  have HV : Hid (∀ k, k < E.length → ∃ ga e s, p = some ⟨ga, 0, none⟩ ∧ E[k]? = some e ∧ w.cell? ⟨ga, k, none⟩ = some (pieceQ e s) ∧ OwnA w B2 s e.A) := hrd
  have HG : Hid (∀ o ∈ E, opE o = 0 ∧ o.A.length ≤ 2097152) := fun o ho => ⟨hg o ho, hA o ho⟩
  obtain ⟨n, hn⟩ : ∃ n, E.length = n := ⟨_, rfl⟩
  have HN : Hid (E.length = n) := hn
  rw [hn] at c0 hl HV
  clear hq hrow hpie hrd hg hA hn
  go_enter Tryz.func34, Tryz.ntmps34
  go_wp2_with (at_make; refine wpList_make_op _ rfl _ _ rfl w.heap.size .i64 .i64 _ n rfl rfl rfl (by omega) (Nat.le_refl _) ?_; intro v0 w1 hown hgr; have hb1 : Below w.heap.size w w1 := (Below.refl _ _).grown hgr (Nat.le_refl _) (fun k hk => by cases hk); have c1 := (hb1.cell (lt_of_cell c0)).trans c0; clear hgr)
  go_loopw [3, 17] (fun al i wr => ∃ (k : Nat) (D : List OV), k ≤ n ∧ i = .int .i64 k ∧ D.length = k ∧ OwnO wr w.heap.size al D ∧ OwD wr w.heap.size D (E.take k) ∧ Below w.heap.size w wr) (fun _ i _ => n - (RowKit.intOf i).toNat)
  case atStart => exact ⟨0, [], Nat.zero_le _, rfl, rfl, hown, .nil, hb1⟩
  case round =>
    clear hown hb1 c1
    obtain ⟨k, D, hk, rfl, hDl, hown, hsp, hbw⟩ := hrel
    by_cases hlt : k < n
    · have hltI : (k : Int) < n := by omega
      obtain ⟨ga, e, s, rfl, he, hc, hs⟩ := HV.out k hlt
      have c2 := (hbw.cell (lt_of_cell hc)).trans hc
      have hs2 := owns_below hs hbw
      obtain ⟨hg1, hA1⟩ := HG.out e (List.mem_of_getElem? he)
      have HT : Hid (E.take (k + 1) = E.take k ++ [e]) := by show _ = _; rw [List.take_add_one, he]; rfl
      have hge : Hid (∀ j, u3.ownBlock = some j → w.heap.size ≤ j) := fun j hj => (owns_block hown j hj).1
      have HO : Hid (OwnO wr w.heap.size u3 D ∧ OwD wr w.heap.size D (E.take k)) := ⟨hown, hsp⟩
      have hlen : D.length ≤ 8388608 := by omega
      have hlz : w.heap.size ≤ wr.heap.size := hbw.size
      have hkk := kinds_of hg1
      rcases hkk with hkk | hkk | hkk | hkk
      · have cO := opQ_1 hg1 hkk s wr (own_RN hs2) hA1
        obtain ⟨nn, hnn⟩ : ∃ x : Int, ((scs e.t.data.toList).length : Int) = x := ⟨_, rfl⟩
        rw [pieceQ_1 hkk] at c2
        rw [hnn] at c2 cO
        clear he hc hs hs2 hown hsp hg1 hA1 hkk hnn
        go_wp2_with fail
        refine cO.mono ?_; rintro r w5 ⟨v', rfl, own5, hb5⟩
        obtain ⟨p5, c5, rfl⟩ := own_slice own5
        have bw5 : Below w.heap.size w w5 := hbw.trans (hb5.mono hlz)
        obtain ⟨ek, et, ⟨ex, en, eu⟩, ec, eA⟩ := e
        have ba : Below w5.heap.size w5 (w5.alloc (.cells #[.int .i64 ek, .string et, .int .i64 ex, .int .i64 en, .string eu, .int .i64 ec, .slice p5 eA.length c5] 74)) := (Below.refl _ _).alloc (Nat.le_refl _) _
        have hat : OpAt (w5.alloc (.cells #[.int .i64 ek, .string et, .int .i64 ex, .int .i64 en, .string eu, .int .i64 ec, .slice p5 eA.length c5] 74)) w5.heap.size 0 (ek, et, (ex, en, eu), ec, p5, eA.length, c5) := ⟨by simp, by simp, by simp, by simp, by simp, by simp, by simp⟩
        have HO7 : Hid (OwnO (w5.alloc (.cells #[.int .i64 ek, .string et, .int .i64 ex, .int .i64 en, .string eu, .int .i64 ec, .slice p5 eA.length c5] 74)) w.heap.size u3 D ∧ OpAt (w5.alloc (.cells #[.int .i64 ek, .string et, .int .i64 ex, .int .i64 en, .string eu, .int .i64 ec, .slice p5 eA.length c5] 74)) w5.heap.size 0 (ek, et, (ex, en, eu), ec, p5, eA.length, c5)) := ⟨owns_below (owns_below HO.out.1 hb5) ba, hat⟩
        have HP7 : Hid (OwD (w5.alloc (.cells #[.int .i64 ek, .string et, .int .i64 ex, .int .i64 en, .string eu, .int .i64 ec, .slice p5 eA.length c5] 74)) w.heap.size (D ++ [(ek, et, (ex, en, eu), ec, p5, eA.length, c5)]) (E.take (k + 1))) := by
          show OwD _ _ _ _
          rw [HT.out]
          exact forall2_append ((HO.out.2.below hb5).below ba) (.cons ⟨rfl, rfl, rfl, rfl, own_weaken (owns_below own5 ba) hlz⟩ .nil)
        have bw7 := bw5.trans (ba.mono bw5.size)
        have hl33 : D.length ≤ 33554432 := by omega
        clear own5 hb5 bw5 ba hat HO HT cO c2
        go_wp2_with (at_builtin; refine wpList_append_ops rfl (.tmp 21) (.tmp 24) rfl w.heap.size u3 D rfl HO7.out.1 w5.heap.size 1 _ rfl HO7.out.2 hl33 bw7.size ?_; intro v8 w8 own8 gr8 hat8; have hsp8 : Hid (OwD w8 w.heap.size _ _) := HP7.out.keep (keepA_grownO HO7.out.1 gr8); have b8 := bw7.grown gr8 bw7.size (fun j hj => hge.out j hj); have HO8 : Hid (OwnO w8 w.heap.size v8 _) := own8; clear own8 gr8 hat8 HO7 HP7)
        go_roundw
        case rel => exact ⟨k + 1, _, by omega, by go_num, by simp [hDl], HO8.out, hsp8.out, b8⟩
        case measure => simp [RowKit.intOf]; omega
      · have cO := opQ_2 hg1 hkk s wr (own_RN hs2) hA1
        obtain ⟨V, hV⟩ : ∃ V, valP e.v = V := ⟨_, rfl⟩
        rw [pieceQ_2 hkk] at c2
        rw [hV] at c2 cO
        clear he hc hs hs2 hown hsp hg1 hA1 hkk hV
        go_wp2_with fail
        refine cO.mono ?_; rintro r w5 ⟨v', rfl, own5, hb5⟩
        obtain ⟨p5, c5, rfl⟩ := own_slice own5
        have bw5 : Below w.heap.size w w5 := hbw.trans (hb5.mono hlz)
        obtain ⟨ek, et, ⟨ex, en, eu⟩, ec, eA⟩ := e
        have ba : Below w5.heap.size w5 (w5.alloc (.cells #[.int .i64 ek, .string et, .int .i64 ex, .int .i64 en, .string eu, .int .i64 ec, .slice p5 eA.length c5] 74)) := (Below.refl _ _).alloc (Nat.le_refl _) _
        have hat : OpAt (w5.alloc (.cells #[.int .i64 ek, .string et, .int .i64 ex, .int .i64 en, .string eu, .int .i64 ec, .slice p5 eA.length c5] 74)) w5.heap.size 0 (ek, et, (ex, en, eu), ec, p5, eA.length, c5) := ⟨by simp, by simp, by simp, by simp, by simp, by simp, by simp⟩
        have HO7 : Hid (OwnO (w5.alloc (.cells #[.int .i64 ek, .string et, .int .i64 ex, .int .i64 en, .string eu, .int .i64 ec, .slice p5 eA.length c5] 74)) w.heap.size u3 D ∧ OpAt (w5.alloc (.cells #[.int .i64 ek, .string et, .int .i64 ex, .int .i64 en, .string eu, .int .i64 ec, .slice p5 eA.length c5] 74)) w5.heap.size 0 (ek, et, (ex, en, eu), ec, p5, eA.length, c5)) := ⟨owns_below (owns_below HO.out.1 hb5) ba, hat⟩
        have HP7 : Hid (OwD (w5.alloc (.cells #[.int .i64 ek, .string et, .int .i64 ex, .int .i64 en, .string eu, .int .i64 ec, .slice p5 eA.length c5] 74)) w.heap.size (D ++ [(ek, et, (ex, en, eu), ec, p5, eA.length, c5)]) (E.take (k + 1))) := by
          show OwD _ _ _ _
          rw [HT.out]
          exact forall2_append ((HO.out.2.below hb5).below ba) (.cons ⟨rfl, rfl, rfl, rfl, own_weaken (owns_below own5 ba) hlz⟩ .nil)
        have bw7 := bw5.trans (ba.mono bw5.size)
        have hl33 : D.length ≤ 33554432 := by omega
        clear own5 hb5 bw5 ba hat HO HT cO c2
        go_wp2_with (at_builtin; refine wpList_append_ops rfl (.tmp 21) (.tmp 24) rfl w.heap.size u3 D rfl HO7.out.1 w5.heap.size 1 _ rfl HO7.out.2 hl33 bw7.size ?_; intro v8 w8 own8 gr8 hat8; have hsp8 : Hid (OwD w8 w.heap.size _ _) := HP7.out.keep (keepA_grownO HO7.out.1 gr8); have b8 := bw7.grown gr8 bw7.size (fun j hj => hge.out j hj); have HO8 : Hid (OwnO w8 w.heap.size v8 _) := own8; clear own8 gr8 hat8 HO7 HP7)
        go_roundw
        case rel => exact ⟨k + 1, _, by omega, by go_num, by simp [hDl], HO8.out, hsp8.out, b8⟩
        case measure => simp [RowKit.intOf]; omega
      · have cO := opQ_3 hg1 hkk s wr (own_RN hs2) hA1
        rw [pieceQ_3 hkk] at c2
        clear he hc hs hs2 hown hsp hg1 hA1 hkk
        go_wp2_with fail
        refine cO.mono ?_; rintro r w5 ⟨v', rfl, own5, hb5⟩
        obtain ⟨p5, c5, rfl⟩ := own_slice own5
        have bw5 : Below w.heap.size w w5 := hbw.trans (hb5.mono hlz)
        obtain ⟨ek, et, ⟨ex, en, eu⟩, ec, eA⟩ := e
        have ba : Below w5.heap.size w5 (w5.alloc (.cells #[.int .i64 ek, .string et, .int .i64 ex, .int .i64 en, .string eu, .int .i64 ec, .slice p5 eA.length c5] 74)) := (Below.refl _ _).alloc (Nat.le_refl _) _
        have hat : OpAt (w5.alloc (.cells #[.int .i64 ek, .string et, .int .i64 ex, .int .i64 en, .string eu, .int .i64 ec, .slice p5 eA.length c5] 74)) w5.heap.size 0 (ek, et, (ex, en, eu), ec, p5, eA.length, c5) := ⟨by simp, by simp, by simp, by simp, by simp, by simp, by simp⟩
        have HO7 : Hid (OwnO (w5.alloc (.cells #[.int .i64 ek, .string et, .int .i64 ex, .int .i64 en, .string eu, .int .i64 ec, .slice p5 eA.length c5] 74)) w.heap.size u3 D ∧ OpAt (w5.alloc (.cells #[.int .i64 ek, .string et, .int .i64 ex, .int .i64 en, .string eu, .int .i64 ec, .slice p5 eA.length c5] 74)) w5.heap.size 0 (ek, et, (ex, en, eu), ec, p5, eA.length, c5)) := ⟨owns_below (owns_below HO.out.1 hb5) ba, hat⟩
        have HP7 : Hid (OwD (w5.alloc (.cells #[.int .i64 ek, .string et, .int .i64 ex, .int .i64 en, .string eu, .int .i64 ec, .slice p5 eA.length c5] 74)) w.heap.size (D ++ [(ek, et, (ex, en, eu), ec, p5, eA.length, c5)]) (E.take (k + 1))) := by
          show OwD _ _ _ _
          rw [HT.out]
          exact forall2_append ((HO.out.2.below hb5).below ba) (.cons ⟨rfl, rfl, rfl, rfl, own_weaken (owns_below own5 ba) hlz⟩ .nil)
        have bw7 := bw5.trans (ba.mono bw5.size)
        have hl33 : D.length ≤ 33554432 := by omega
        clear own5 hb5 bw5 ba hat HO HT cO c2
        go_wp2_with (at_builtin; refine wpList_append_ops rfl (.tmp 21) (.tmp 24) rfl w.heap.size u3 D rfl HO7.out.1 w5.heap.size 1 _ rfl HO7.out.2 hl33 bw7.size ?_; intro v8 w8 own8 gr8 hat8; have hsp8 : Hid (OwD w8 w.heap.size _ _) := HP7.out.keep (keepA_grownO HO7.out.1 gr8); have b8 := bw7.grown gr8 bw7.size (fun j hj => hge.out j hj); have HO8 : Hid (OwnO w8 w.heap.size v8 _) := own8; clear own8 gr8 hat8 HO7 HP7)
        go_roundw
        case rel => exact ⟨k + 1, _, by omega, by go_num, by simp [hDl], HO8.out, hsp8.out, b8⟩
        case measure => simp [RowKit.intOf]; omega
      · have cO := opQ_4 hg1 hkk wr
        rw [pieceQ_4 hkk] at c2
        clear he hc hs hs2 hown hsp hg1 hA1 hkk
        go_wp2_with fail
        refine cO.mono ?_; rintro r w5 ⟨v', rfl, own5, hb5⟩
        obtain ⟨p5, c5, rfl⟩ := own_slice own5
        have bw5 : Below w.heap.size w w5 := hbw.trans (hb5.mono hlz)
        obtain ⟨ek, et, ⟨ex, en, eu⟩, ec, eA⟩ := e
        have ba : Below w5.heap.size w5 (w5.alloc (.cells #[.int .i64 ek, .string et, .int .i64 ex, .int .i64 en, .string eu, .int .i64 ec, .slice p5 eA.length c5] 74)) := (Below.refl _ _).alloc (Nat.le_refl _) _
        have hat : OpAt (w5.alloc (.cells #[.int .i64 ek, .string et, .int .i64 ex, .int .i64 en, .string eu, .int .i64 ec, .slice p5 eA.length c5] 74)) w5.heap.size 0 (ek, et, (ex, en, eu), ec, p5, eA.length, c5) := ⟨by simp, by simp, by simp, by simp, by simp, by simp, by simp⟩
        have HO7 : Hid (OwnO (w5.alloc (.cells #[.int .i64 ek, .string et, .int .i64 ex, .int .i64 en, .string eu, .int .i64 ec, .slice p5 eA.length c5] 74)) w.heap.size u3 D ∧ OpAt (w5.alloc (.cells #[.int .i64 ek, .string et, .int .i64 ex, .int .i64 en, .string eu, .int .i64 ec, .slice p5 eA.length c5] 74)) w5.heap.size 0 (ek, et, (ex, en, eu), ec, p5, eA.length, c5)) := ⟨owns_below (owns_below HO.out.1 hb5) ba, hat⟩
        have HP7 : Hid (OwD (w5.alloc (.cells #[.int .i64 ek, .string et, .int .i64 ex, .int .i64 en, .string eu, .int .i64 ec, .slice p5 eA.length c5] 74)) w.heap.size (D ++ [(ek, et, (ex, en, eu), ec, p5, eA.length, c5)]) (E.take (k + 1))) := by
          show OwD _ _ _ _
          rw [HT.out]
          exact forall2_append ((HO.out.2.below hb5).below ba) (.cons ⟨rfl, rfl, rfl, rfl, own_weaken (owns_below own5 ba) hlz⟩ .nil)
        have bw7 := bw5.trans (ba.mono bw5.size)
        have hl33 : D.length ≤ 33554432 := by omega
        clear own5 hb5 bw5 ba hat HO HT cO c2
        go_wp2_with (at_builtin; refine wpList_append_ops rfl (.tmp 21) (.tmp 24) rfl w.heap.size u3 D rfl HO7.out.1 w5.heap.size 1 _ rfl HO7.out.2 hl33 bw7.size ?_; intro v8 w8 own8 gr8 hat8; have hsp8 : Hid (OwD w8 w.heap.size _ _) := HP7.out.keep (keepA_grownO HO7.out.1 gr8); have b8 := bw7.grown gr8 bw7.size (fun j hj => hge.out j hj); have HO8 : Hid (OwnO w8 w.heap.size v8 _) := own8; clear own8 gr8 hat8 HO7 HP7)
        go_roundw
        case rel => exact ⟨k + 1, _, by omega, by go_num, by simp [hDl], HO8.out, hsp8.out, b8⟩
        case measure => simp [RowKit.intOf]; omega
    · have hltI : ¬ (k : Int) < n := by omega
      have hE : E.take k = E := List.take_of_length_le (by rw [HN.out]; omega)
      rw [hE] at hsp
      have HX : Hid (CoO wr w.heap.size u3 E) := ⟨D, hown, hsp⟩
      clear hown hsp
      go_wp2
      go_ret
      exact ⟨_, rfl, HX.out, hbw⟩
end Go.Proofs.YthfpmhnnjjikcabGreatDoor

/- build: own and Pieces: a delta's pieces, each with a list of its own. -/
namespace Go.Proofs.YthfpmhnnjjikcabGreatDoor
open Go Go.RowKit Go.Lib
set_option linter.unusedVariables false
theorem as_r_e6 (v : Value) (W : World) : (Instr.typeAssert (.iface 115 v) 102 189 true).run Tryz.prog W = .ok (.tuple #[.agg #[.slice none 0 0, .string ⟨#[]⟩, .nilIface], .bool false]) W := by kernel_rfl
theorem as_d_e6 (v : Value) (W : World) : (Instr.typeAssert (.iface 111 v) 102 189 true).run Tryz.prog W = .ok (.tuple #[.agg #[.slice none 0 0, .string ⟨#[]⟩, .nilIface], .bool false]) W := by kernel_rfl
set_option maxHeartbeats 2000000 in
set_option maxRecDepth 100000 in
theorem own1_any (p : Option Addr) (l c : Nat) (t : ByteArray) (n : Int) (A : List A2) (w : World) (hR : RN w (.slice p l c) A) (hl : A.length ≤ 2097152) :
    Calls Tryz.prog 140 #[.iface 184 (.agg #[.slice p l c, .string t, .int .i64 n])] w fun r w' => ∃ p' c', r = .returned (.iface 184 (.agg #[.slice p' A.length c', .string t, .int .i64 n])) ∧ OwnA w' w.heap.size (.slice p' A.length c') A ∧ Below w.heap.size w w' := by
  have b0 : Below w.heap.size w (w.alloc (.cells #[.slice p l c, .string t, .int .i64 n] 184)) := (Below.refl _ _).alloc (Nat.le_refl _) _
  have k0 := heap_alloc_new w (.cells #[.slice p l c, .string t, .int .i64 n] 184)
  have cA := attributes_any (.slice p l c) A _ (hR.below b0).row hR.nz hl
  clear hR hl
  have a0 := as_i_i
  go_enter Tryz.func140, Tryz.ntmps140
  go_wp2_with fail
  refine cA.mono ?_; rintro r w2 ⟨v', rfl, own2, hb2⟩
  obtain ⟨p', c', rfl⟩ := own_slice own2
  have m0 := (hb2.block _ (by simp only [World.size_alloc]; omega)).trans k0
  have d0 : w2.cell? ⟨w.heap.size, 0, none⟩ = some (.slice p l c) := by rw [cell_of_heap m0]; rfl
  have d1 : w2.cell? ⟨w.heap.size, 1, none⟩ = some (.string t) := by rw [cell_of_heap m0]; rfl
  have d2 : w2.cell? ⟨w.heap.size, 2, none⟩ = some (.int .i64 n) := by rw [cell_of_heap m0]; rfl
  have f0 : w2.frozen? ⟨w.heap.size, 0, none⟩ = false := frozen_of_heap m0 0
  have HQ : Hid (OwnA (w2.setCell ⟨w.heap.size, 0, none⟩ (.slice p' A.length c')) w.heap.size (.slice p' A.length c') A ∧ Below w.heap.size w (w2.setCell ⟨w.heap.size, 0, none⟩ (.slice p' A.length c'))) :=
    ⟨own_weaken (ownsRow_setCell_below own2 (a := ⟨w.heap.size, 0, none⟩) (by simp only [World.size_alloc]; omega) _) (by simp only [World.size_alloc]; omega), (b0.trans (hb2.mono b0.size)).setCell (Nat.le_refl _) _⟩
  clear cA b0 k0 own2 hb2 m0
  go_wp2
  go_ret
  exact ⟨p', c', rfl, HQ.out⟩
set_option maxHeartbeats 2000000 in
set_option maxRecDepth 100000 in
theorem own2_any (p : Option Addr) (l c : Nat) (t : ByteArray) (V : Value) (A : List A2) (w : World) (hR : RN w (.slice p l c) A) (hl : A.length ≤ 2097152) (hV : ∃ u x, V = .iface u x) :
    Calls Tryz.prog 140 #[.iface 189 (.agg #[.slice p l c, .string t, V])] w fun r w' => ∃ p' c', r = .returned (.iface 189 (.agg #[.slice p' A.length c', .string t, V])) ∧ OwnA w' w.heap.size (.slice p' A.length c') A ∧ Below w.heap.size w w' := by
  obtain ⟨u, x, rfl⟩ := hV
  have b0 : Below w.heap.size w (w.alloc (.cells #[.slice p l c, .string t, .iface u x] 189)) := (Below.refl _ _).alloc (Nat.le_refl _) _
  have k0 := heap_alloc_new w (.cells #[.slice p l c, .string t, .iface u x] 189)
  have cA := attributes_any (.slice p l c) A _ (hR.below b0).row hR.nz hl
  clear hR hl
  have a0 := as_e_i
  have a1 := as_e_e
  go_enter Tryz.func140, Tryz.ntmps140
  go_wp2_with fail
  refine cA.mono ?_; rintro r w2 ⟨v', rfl, own2, hb2⟩
  obtain ⟨p', c', rfl⟩ := own_slice own2
  have m0 := (hb2.block _ (by simp only [World.size_alloc]; omega)).trans k0
  have d0 : w2.cell? ⟨w.heap.size, 0, none⟩ = some (.slice p l c) := by rw [cell_of_heap m0]; rfl
  have d1 : w2.cell? ⟨w.heap.size, 1, none⟩ = some (.string t) := by rw [cell_of_heap m0]; rfl
  have d2 : w2.cell? ⟨w.heap.size, 2, none⟩ = some (.iface u x) := by rw [cell_of_heap m0]; rfl
  have f0 : w2.frozen? ⟨w.heap.size, 0, none⟩ = false := frozen_of_heap m0 0
  have HQ : Hid (OwnA (w2.setCell ⟨w.heap.size, 0, none⟩ (.slice p' A.length c')) w.heap.size (.slice p' A.length c') A ∧ Below w.heap.size w (w2.setCell ⟨w.heap.size, 0, none⟩ (.slice p' A.length c'))) :=
    ⟨own_weaken (ownsRow_setCell_below own2 (a := ⟨w.heap.size, 0, none⟩) (by simp only [World.size_alloc]; omega) _) (by simp only [World.size_alloc]; omega), (b0.trans (hb2.mono b0.size)).setCell (Nat.le_refl _) _⟩
  clear cA b0 k0 own2 hb2 m0
  go_wp2
  go_ret
  exact ⟨p', c', rfl, HQ.out⟩
set_option maxHeartbeats 2000000 in
set_option maxRecDepth 100000 in
theorem own3_any (p : Option Addr) (l c : Nat) (n : Int) (A : List A2) (w : World) (hR : RN w (.slice p l c) A) (hl : A.length ≤ 2097152) :
    Calls Tryz.prog 140 #[.iface 115 (.agg #[.slice p l c, .int .i64 n])] w fun r w' => ∃ p' c', r = .returned (.iface 115 (.agg #[.slice p' A.length c', .int .i64 n])) ∧ OwnA w' w.heap.size (.slice p' A.length c') A ∧ Below w.heap.size w w' := by
  have b0 : Below w.heap.size w (w.alloc (.cells #[.slice p l c, .int .i64 n] 115)) := (Below.refl _ _).alloc (Nat.le_refl _) _
  have k0 := heap_alloc_new w (.cells #[.slice p l c, .int .i64 n] 115)
  have cA := attributes_any (.slice p l c) A _ (hR.below b0).row hR.nz hl
  clear hR hl
  have a0 := as_r_i
  have a1 := as_r_e6
  have a2 := as_r_r
  go_enter Tryz.func140, Tryz.ntmps140
  go_wp2_with fail
  refine cA.mono ?_; rintro r w2 ⟨v', rfl, own2, hb2⟩
  obtain ⟨p', c', rfl⟩ := own_slice own2
  have m0 := (hb2.block _ (by simp only [World.size_alloc]; omega)).trans k0
  have d0 : w2.cell? ⟨w.heap.size, 0, none⟩ = some (.slice p l c) := by rw [cell_of_heap m0]; rfl
  have d1 : w2.cell? ⟨w.heap.size, 1, none⟩ = some (.int .i64 n) := by rw [cell_of_heap m0]; rfl
  have f0 : w2.frozen? ⟨w.heap.size, 0, none⟩ = false := frozen_of_heap m0 0
  have HQ : Hid (OwnA (w2.setCell ⟨w.heap.size, 0, none⟩ (.slice p' A.length c')) w.heap.size (.slice p' A.length c') A ∧ Below w.heap.size w (w2.setCell ⟨w.heap.size, 0, none⟩ (.slice p' A.length c'))) :=
    ⟨own_weaken (ownsRow_setCell_below own2 (a := ⟨w.heap.size, 0, none⟩) (by simp only [World.size_alloc]; omega) _) (by simp only [World.size_alloc]; omega), (b0.trans (hb2.mono b0.size)).setCell (Nat.le_refl _) _⟩
  clear cA b0 k0 own2 hb2 m0
  go_wp2
  go_ret
  exact ⟨p', c', rfl, HQ.out⟩
set_option maxHeartbeats 1000000 in
theorem own4_any (n : Int) (w : World) : Calls Tryz.prog 140 #[.iface 111 (.agg #[.int .i64 n])] w fun r w' => r = .returned (.iface 111 (.agg #[.int .i64 n])) ∧ Below w.heap.size w w' := by
  have a0 := as_d_i
  have a1 := as_d_e6
  have a2 := as_d_r
  go_enter Tryz.func140, Tryz.ntmps140
  go_wp2
  go_ret
  exact ⟨rfl, by go_grown⟩
theorem ownP_any (e : Op5) (s : Value) (w : World) (hg : opE e = 0) (hR : RN w s e.A) (hl : e.A.length ≤ 2097152) :
    Calls Tryz.prog 140 #[pieceQ e s] w fun r w' => ∃ s', r = .returned (pieceQ e s') ∧ OwnA w' w.heap.size s' e.A ∧ Below w.heap.size w w' := by
  obtain ⟨p, c, rfl, _⟩ := hR.row.val
  rcases kinds_of hg with h | h | h | h
  · rw [pieceQ_1 h]
    refine (own1_any p _ c e.t _ e.A w hR hl).mono ?_
    rintro r w' ⟨p', c', h1, h2, h3⟩
    exact ⟨.slice p' e.A.length c', by rw [h1, pieceQ_1 h], h2, h3⟩
  · rw [pieceQ_2 h]
    refine (own2_any p _ c e.t _ e.A w hR hl (valP_if _)).mono ?_
    rintro r w' ⟨p', c', h1, h2, h3⟩
    exact ⟨.slice p' e.A.length c', by rw [h1, pieceQ_2 h], h2, h3⟩
  · rw [pieceQ_3 h]
    refine (own3_any p _ c e.c e.A w hR hl).mono ?_
    rintro r w' ⟨p', c', h1, h2, h3⟩
    exact ⟨.slice p' e.A.length c', by rw [h1, pieceQ_3 h], h2, h3⟩
  · rw [pieceQ_4 h]
    refine (own4_any e.c w).mono ?_
    rintro r w' ⟨h1, h3⟩
    exact ⟨.slice none 0 0, by rw [h1, pieceQ_4 h], by rw [drop_A hg h]; exact World.ownsRow_nil _ _ _ _, h3⟩
set_option maxHeartbeats 4000000 in
set_option maxRecDepth 100000 in
theorem pieces_any {B1 B2 : Nat} (v : Value) (E : List Op5) (w : World) (h : DelV w B1 B2 v E) (hg : ∀ o ∈ E, opE o = 0) (hA : ∀ o ∈ E, o.A.length ≤ 2097152) (hl : E.length ≤ 4194304) :
    Calls Tryz.prog 119 #[v] w fun e w' => ∃ v', e = .returned v' ∧ (∃ P, OwnI w' w.heap.size v' P ∧ PieD w' w.heap.size P E) ∧ Below w.heap.size w w' := by
  obtain ⟨q, pv, PL, rfl, _, hq, hrow, hpie⟩ := h
  have c0 : w.cell? ⟨q, 0, none⟩ = some pv := by rw [cell_of_heap hq]; rfl
  obtain ⟨p, cap, rfl, hrd⟩ := del_read (q := q) hrow hpie
  have HV : Hid (∀ k, k < E.length → ∃ ga e s, p = some ⟨ga, 0, none⟩ ∧ E[k]? = some e ∧ w.cell? ⟨ga, k, none⟩ = some (pieceQ e s) ∧ OwnA w B2 s e.A) := hrd
  have HG : Hid (∀ o ∈ E, opE o = 0 ∧ o.A.length ≤ 2097152) := fun o ho => ⟨hg o ho, hA o ho⟩
  obtain ⟨n, hn⟩ : ∃ n, E.length = n := ⟨_, rfl⟩
  have HN : Hid (E.length = n) := hn
  rw [hn] at c0 hl HV
  clear hq hrow hpie hrd hg hA hn
  go_enter Tryz.func119, Tryz.ntmps119
  go_wp2_with (at_make; refine wpList_make_pi2 _ rfl _ _ rfl w.heap.size .i64 .i64 _ n rfl rfl rfl (by omega) (Nat.le_refl _) ?_; intro v0 w1 hown hgr; have hb1 : Below w.heap.size w w1 := (Below.refl _ _).grown hgr (Nat.le_refl _) (fun k hk => by cases hk); have c1 := (hb1.cell (lt_of_cell c0)).trans c0; clear hgr)
  go_loopw [3, 17] (fun al i wr => ∃ (k : Nat) (D : List Value), k ≤ n ∧ i = .int .i64 k ∧ D.length = k ∧ OwnI wr w.heap.size al D ∧ PieD wr w.heap.size D (E.take k) ∧ Below w.heap.size w wr) (fun _ i _ => n - (RowKit.intOf i).toNat)
  case atStart => exact ⟨0, [], Nat.zero_le _, rfl, rfl, hown, .nil, hb1⟩
  case round =>
    clear hown hb1 c1
    obtain ⟨k, D, hk, rfl, hDl, hown, hsp, hbw⟩ := hrel
    by_cases hlt : k < n
    · have hltI : (k : Int) < n := by omega
      obtain ⟨ga, e, s, rfl, he, hc, hs⟩ := HV.out k hlt
      have c2 := (hbw.cell (lt_of_cell hc)).trans hc
      have hs2 := owns_below hs hbw
      obtain ⟨hg1, hA1⟩ := HG.out e (List.mem_of_getElem? he)
      have HT : Hid (E.take (k + 1) = E.take k ++ [e]) := by show _ = _; rw [List.take_add_one, he]; rfl
      have hge : Hid (∀ j, u3.ownBlock = some j → w.heap.size ≤ j) := fun j hj => (owns_block hown j hj).1
      have HO : Hid (OwnI wr w.heap.size u3 D ∧ PieD wr w.heap.size D (E.take k)) := ⟨hown, hsp⟩
      have hlen : D.length ≤ 8388608 := by omega
      have hlz : w.heap.size ≤ wr.heap.size := hbw.size
      have cO := ownP_any e s wr hg1 (own_RN hs2) hA1
      obtain ⟨u, x, hux⟩ := pieceQ_if e s
      have hq := fun s' => pieceQ_if e s'
      obtain ⟨PQ, hPQ⟩ : ∃ f : Value → Value, pieceQ e = f := ⟨_, rfl⟩
      have HPQ : Hid (pieceQ e = PQ) := hPQ
      rw [hPQ] at cO hux hq
      rw [hPQ] at c2
      rw [hux] at c2 cO
      clear he hc hs hs2 hown hsp hg1 hA1 hux hPQ
      go_wp2_with fail
      refine cO.mono ?_; rintro r w5 ⟨s', rfl, own5, hb5⟩
      obtain ⟨u', x', hux'⟩ := hq s'
      have HU : Hid (PQ s' = .iface u' x') := hux'
      rw [hux']
      have bw5 : Below w.heap.size w w5 := hbw.trans (hb5.mono hlz)
      have ba : Below w5.heap.size w5 (w5.alloc (.cells #[.iface u' x'] 102)) := (Below.refl _ _).alloc (Nat.le_refl _) _
      have hu6 : (w5.alloc (.cells #[.iface u' x'] 102)).cell? ⟨w5.heap.size, 0, none⟩ = some (.iface u' x') := by simp
      have HO7 : Hid (OwnI (w5.alloc (.cells #[.iface u' x'] 102)) w.heap.size u3 D) := owns_below (owns_below HO.out.1 hb5) ba
      have HP7 : Hid (PieD (w5.alloc (.cells #[.iface u' x'] 102)) w.heap.size (D ++ [.iface u' x']) (E.take (k + 1))) := by
        show PieD _ _ _ _
        rw [HT.out]
        exact forall2_append ((HO.out.2.below hb5).below ba) (.cons ⟨s', by rw [HPQ.out, HU.out], own_weaken (owns_below own5 ba) hlz⟩ .nil)
      have bw7 := bw5.trans (ba.mono bw5.size)
      clear own5 hb5 bw5 ba HO HT cO c2 hux' hq
      go_wp2_with (at_builtin; refine wpList_append_piAt rfl (.tmp 21) (.tmp 24) rfl w.heap.size u3 D rfl HO7.out w5.heap.size 1 (.iface u' x') rfl hu6 rfl hlen bw7.size ?_; intro v8 w8 own8 gr8 hat8; have hsp8 : Hid (PieD w8 w.heap.size _ _) := HP7.out.keep (keepA_grownI HO7.out gr8); have b8 := bw7.grown gr8 bw7.size (fun j hj => hge.out j hj); have HO8 : Hid (OwnI w8 w.heap.size v8 _) := own8; clear own8 gr8 hat8 HO7 HP7 hu6)
      go_roundw
      case rel => exact ⟨k + 1, _, by omega, by go_num, by simp [hDl], HO8.out, hsp8.out, b8⟩
      case measure => simp [RowKit.intOf]; omega
    · have hltI : ¬ (k : Int) < n := by omega
      have hE : E.take k = E := List.take_of_length_le (by rw [HN.out]; omega)
      rw [hE] at hsp
      have HX : Hid (∃ P, OwnI wr w.heap.size u3 P ∧ PieD wr w.heap.size P E) := ⟨D, hown, hsp⟩
      clear hown hsp
      go_wp2
      go_ret
      exact ⟨_, rfl, HX.out, hbw⟩
end Go.Proofs.YthfpmhnnjjikcabGreatDoor

/- A Walker in memory: its own cell, the row of what is left. -/
namespace Go.Proofs.YthfpmhnnjjikcabGreatDoor
open Go Go.RowKit Go.Lib
set_option linter.unusedVariables false
/-- The types of the cells that walkers write. -/
def TW (t : TypeId) : Prop := t = 192 ∨ t = 102
def isTW (o : Obj) : Prop := ∃ cs t fz, o = .cells cs t fz ∧ TW t
/-- What a Walker's step turns: its own cell and its row. -/
structure FrW (q g : Nat) (w w' : World) : Prop where
  os : w'.os = w.os
  tape : w'.tape = w.tape
  output : w'.output = w.output
  size : w.heap.size ≤ w'.heap.size
  kept : ∀ (k : Nat) (o : Obj), w.heap[k]? = some o → (¬ isTW o ∨ (k ≠ q ∧ k ≠ g)) → w'.heap[k]? = some o
theorem FrW.refl (q g : Nat) (w : World) : FrW q g w w := ⟨rfl, rfl, rfl, Nat.le_refl _, fun _ _ h _ => h⟩
theorem FrW.trans {q g : Nat} {a b c : World} (h : FrW q g a b) (k : FrW q g b c) : FrW q g a c :=
  ⟨k.os.trans h.os, k.tape.trans h.tape, k.output.trans h.output, Nat.le_trans h.size k.size, fun i o hi ho => k.kept i o (h.kept i o hi ho) ho⟩
theorem FrW.of_below {q g : Nat} {w w' : World} (h : Below w.heap.size w w') : FrW q g w w' :=
  ⟨h.os, h.tape, h.output, h.size, fun k o hk _ => (h.block k (Array.getElem?_eq_some_iff.1 hk).1).trans hk⟩
theorem FrW.it {q g B : Nat} {w w' : World} (h : FrW q g w w') (hq : B ≤ q) (hg : B ≤ g) : It7 TW B w w' :=
  ⟨h.os, h.tape, h.output, h.size, fun k o hk ho => h.kept k o hk (ho.elim (fun q => .inr (by omega)) (fun q => .inl q))⟩
theorem It7.lowB {T : TypeId → Prop} {B : Nat} {A A' : World} (h : It7 T B A A') (hB : B ≤ A.heap.size) : Below B A A' := (h.tr (Nat.le_refl _)).below hB
theorem FrW.below {q g B : Nat} {w w' : World} (h : FrW q g w w') (hq : B ≤ q) (hg : B ≤ g) (hB : B ≤ w.heap.size) : Below B w w' := (h.it hq hg).lowB hB
theorem It7.keepA {B : Nat} {w w' : World} (h : It7 TW B w w') : KeepA w w' := fun k cur hk => by
  rw [h.kept k _ hk (.inr (by rintro ⟨cs, t, fz, e, ht⟩; cases e; rcases ht with ht | ht <;> exact absurd ht (by decide))), hk]
theorem FrW.keepA {q g : Nat} {w w' : World} (h : FrW q g w w') : KeepA w w' := (h.it (Nat.zero_le _) (Nat.zero_le _)).keepA
theorem FrW.setQ {q g j : Nat} {w : World} {cs : Array Value} {fz : Nat × Nat} (h : w.heap[q]? = some (.cells cs 192 fz)) (u : Value) : FrW q g w (w.setCell ⟨q, j, none⟩ u) :=
  ⟨rfl, rfl, rfl, by simp [World.setCell], fun k o hk ho => by
    have hne : k ≠ q := by
      rintro rfl
      rw [h] at hk; cases hk
      rcases ho with ho | ho
      · exact ho ⟨_, _, _, rfl, .inl rfl⟩
      · exact ho.1 rfl
    exact (Below.heap_setCell _ _ _ _ hne).trans hk⟩
theorem FrW.setG {q g j : Nat} {w : World} {cs : Array Value} {fz : Nat × Nat} (h : w.heap[g]? = some (.cells cs 102 fz)) (u : Value) : FrW q g w (w.setCell ⟨g, j, none⟩ u) :=
  ⟨rfl, rfl, rfl, by simp [World.setCell], fun k o hk ho => by
    have hne : k ≠ g := by
      rintro rfl
      rw [h] at hk; cases hk
      rcases ho with ho | ho
      · exact ho ⟨_, _, _, rfl, .inr rfl⟩
      · exact ho.2 rfl
    exact (Below.heap_setCell _ _ _ _ hne).trans hk⟩

/-- A Walker that has R before it. -/
structure WkV (w : World) (B q g : Nat) (R : List Op5) : Prop where
  ne : q ≠ g
  lq : B ≤ q
  lg : B ≤ g
  st : ∃ p cap, w.heap[q]? = some (.cells #[.slice p R.length cap] 192 (0, 0)) ∧ R.length ≤ cap ∧
    (R ≠ [] → ∃ off cs, p = some ⟨g, off, none⟩ ∧ w.heap[g]? = some (.cells cs 102 (0, 0)) ∧ ∀ (j : Nat) (e : Op5), R[j]? = some e → ∃ s, cs[off + j]? = some (pieceQ e s) ∧ OwnA w B s e.A)
theorem WkV.same {w w' : World} {B q g : Nat} {R : List Op5} (h : WkV w B q g R) (hq : ∀ o, w.heap[q]? = some o → w'.heap[q]? = some o) (hg : ∀ o, w.heap[g]? = some o → w'.heap[g]? = some o) (hk : KeepA w w') : WkV w' B q g R := by
  obtain ⟨h1, h2, h3, p, cap, h4, h5, h6⟩ := h
  refine ⟨h1, h2, h3, p, cap, hq _ h4, h5, fun h0 => ?_⟩
  obtain ⟨off, cs, e, hgo, hr⟩ := h6 h0
  refine ⟨off, cs, e, hg _ hgo, fun j x hx => ?_⟩
  obtain ⟨s, a1, a2⟩ := hr j x hx
  exact ⟨s, a1, keepA_own a2 hk⟩
theorem WkV.below {w w' : World} {B q g : Nat} {R : List Op5} (h : WkV w B q g R) (b : Below w.heap.size w w') : WkV w' B q g R :=
  h.same (fun o ho => heap_below b ho) (fun o ho => heap_below b ho) (keepA_below b)
theorem WkV.lt {w : World} {B q g : Nat} {R : List Op5} (h : WkV w B q g R) : q < w.heap.size := by
  obtain ⟨_, _, _, p, cap, h4, _⟩ := h
  exact (Array.getElem?_eq_some_iff.1 h4).1
theorem WkV.read0 {w : World} {B q g : Nat} {R : List Op5} (h : WkV w B q g R) : ∃ p cap, w.cell? ⟨q, 0, none⟩ = some (.slice p R.length cap) ∧ w.frozen? ⟨q, 0, none⟩ = false ∧ R.length ≤ cap := by
  obtain ⟨_, _, _, p, cap, h4, h5, _⟩ := h
  exact ⟨p, cap, by rw [cell_of_heap h4]; rfl, frozen_of_heap h4 0, h5⟩
theorem WkV.read1 {w : World} {B q g : Nat} {x : Op5} {r : List Op5} (h : WkV w B q g (x :: r)) : ∃ off cap s, w.cell? ⟨q, 0, none⟩ = some (.slice (some ⟨g, off, none⟩) (r.length + 1) cap) ∧ w.frozen? ⟨q, 0, none⟩ = false ∧ r.length + 1 ≤ cap ∧ w.cell? ⟨g, off, none⟩ = some (pieceQ x s) ∧ w.frozen? ⟨g, off, none⟩ = false ∧ OwnA w B s x.A := by
  obtain ⟨h1, h2, h3, p, cap, h4, h5, h6⟩ := h
  obtain ⟨off, cs, rfl, hgo, hr⟩ := h6 (by simp)
  obtain ⟨s, a1, a2⟩ := hr 0 x rfl
  exact ⟨off, cap, s, by rw [cell_of_heap h4]; rfl, frozen_of_heap h4 0, by simpa using h5, by rw [cell_of_heap hgo]; exact a1, frozen_of_heap hgo off, a2⟩
theorem WkV.drop {w : World} {B q g off cap c' : Nat} {p' : Option Addr} {x : Op5} {r : List Op5} (h : WkV w B q g (x :: r)) (hc : w.cell? ⟨q, 0, none⟩ = some (.slice (some ⟨g, off, none⟩) (r.length + 1) cap)) (hl : r.length ≤ c') (hp : r ≠ [] → p' = some ⟨g, off + 1, none⟩) :
    WkV (w.setCell ⟨q, 0, none⟩ (.slice p' r.length c')) B q g r ∧ FrW q g w (w.setCell ⟨q, 0, none⟩ (.slice p' r.length c')) := by
  obtain ⟨h1, h2, h3, p, cap0, h4, h5, h6⟩ := h
  obtain ⟨off0, cs, rfl, hgo, hr⟩ := h6 (by simp)
  have e : w.cell? ⟨q, 0, none⟩ = some (.slice (some ⟨g, off0, none⟩) (r.length + 1) cap0) := by rw [cell_of_heap h4]; rfl
  rw [e] at hc
  simp only [Option.some.injEq, Value.slice.injEq, Addr.mk.injEq] at hc
  obtain ⟨⟨_, rfl, _⟩, _, rfl⟩ := hc
  have f := FrW.setQ (g := g) (j := 0) h4 (.slice p' r.length c')
  refine ⟨⟨h1, h2, h3, p', c', ?_, hl, fun h0 => ⟨off0 + 1, cs, hp h0, (Below.heap_setCell _ _ _ _ (Ne.symm h1)).trans hgo, fun j e he => ?_⟩⟩, f⟩
  · rw [heap_set_at w q 0 _ _ _ _ h4]; rfl
  · obtain ⟨s, a1, a2⟩ := hr (j + 1) e he
    exact ⟨s, by rw [show off0 + 1 + j = off0 + (j + 1) by omega]; exact a1, keepA_own a2 f.keepA⟩
theorem WkV.put {w : World} {B q g off cap : Nat} {x x' : Op5} {r : List Op5} {s' : Value} (h : WkV w B q g (x :: r)) (hc : w.cell? ⟨q, 0, none⟩ = some (.slice (some ⟨g, off, none⟩) (r.length + 1) cap)) (hs : OwnA w B s' x'.A) :
    WkV (w.setCell ⟨g, off, none⟩ (pieceQ x' s')) B q g (x' :: r) ∧ FrW q g w (w.setCell ⟨g, off, none⟩ (pieceQ x' s')) := by
  obtain ⟨h1, h2, h3, p, cap0, h4, h5, h6⟩ := h
  obtain ⟨off0, cs, rfl, hgo, hr⟩ := h6 (by simp)
  have e : w.cell? ⟨q, 0, none⟩ = some (.slice (some ⟨g, off0, none⟩) (r.length + 1) cap0) := by rw [cell_of_heap h4]; rfl
  rw [e] at hc
  simp only [Option.some.injEq, Value.slice.injEq, Addr.mk.injEq] at hc
  obtain ⟨⟨_, rfl, _⟩, _, rfl⟩ := hc
  have f := FrW.setG (q := q) (j := off0) hgo (pieceQ x' s')
  have h00 : off0 < cs.size := by
    obtain ⟨s, a1, _⟩ := hr 0 x rfl
    exact (Array.getElem?_eq_some_iff.1 a1).1
  refine ⟨⟨h1, h2, h3, some ⟨g, off0, none⟩, cap0, (Below.heap_setCell _ _ _ _ h1).trans h4, h5, fun _ => ⟨off0, _, rfl, heap_set_at w g off0 _ _ _ _ hgo, fun j e he => ?_⟩⟩, f⟩
  cases j with
  | zero =>
    obtain rfl : x' = e := by simpa using he
    exact ⟨s', by simp [h00], keepA_own hs f.keepA⟩
  | succ j =>
    obtain ⟨s, a1, a2⟩ := hr (j + 1) e he
    exact ⟨s, by rw [Array.getElem?_setIfInBounds_ne (by omega)]; exact a1, keepA_own a2 f.keepA⟩
/-- A new one. -/
theorem wk_new {w : World} {B : Nat} {v : Value} {P : List Value} {E : List Op5} (h : OwnI w B v P) (hp : PieD w B P E) (hB : B ≤ w.heap.size) : ∃ g, WkV (w.alloc (.cells #[v] 192)) B w.heap.size g E ∧ (E ≠ [] → g < w.heap.size) := by
  have hl := forall2_len hp
  have hb : Below w.heap.size w (w.alloc (.cells #[v] 192)) := (Below.refl _ _).alloc (Nat.le_refl _) _
  have hn : (w.alloc (.cells #[v] 192)).heap[w.heap.size]? = some (.cells #[v] 192 (0, 0)) := heap_alloc_new w _
  rcases h.2 with ⟨hv, h0⟩ | ⟨g, cap, cur, hv, hg, hgg, hc, _, hcs, ht⟩
  · have hE : E = [] := List.eq_nil_of_length_eq_zero (by omega)
    subst hE
    refine ⟨w.heap.size + 1, ⟨by omega, hB, by omega, none, 0, ?_, Nat.zero_le _, fun h => absurd rfl h⟩, fun h => absurd rfl h⟩
    rw [hn, hv]; rfl
  · have hgl : g < w.heap.size := (Array.getElem?_eq_some_iff.1 hgg).1
    refine ⟨g, ⟨by omega, hB, hg, some ⟨g, 0, none⟩, cap, by rw [hn, hv, hl], by omega, fun _ => ⟨0, cur, rfl, heap_below hb hgg, fun j e he => ?_⟩⟩, fun _ => hgl⟩
    obtain ⟨x, hx, s, rfl, hs⟩ : ∃ x, P[j]? = some x ∧ ∃ s, x = pieceQ e s ∧ OwnA w B s e.A := by
      have hj : j < P.length := by rw [hl]; exact (List.getElem?_eq_some_iff.1 he).1
      obtain ⟨e', s, he', hx, hs⟩ := oneI hp (List.getElem?_eq_getElem hj)
      obtain rfl : e' = e := Option.some.inj (he'.symm.trans he)
      exact ⟨_, List.getElem?_eq_getElem hj, s, hx, hs⟩
    refine ⟨s, ?_, owns_below hs hb⟩
    rw [Nat.zero_add, ← Array.getElem?_toList]
    rw [← ht, Nat.mul_one, List.getElem?_take] at hx
    split at hx
    · exact hx
    · cases hx
end Go.Proofs.YthfpmhnnjjikcabGreatDoor

/- Calls of a piece's methods through the interface; the Walker's small calls. -/
namespace Go.Proofs.YthfpmhnnjjikcabGreatDoor
open Go Go.RowKit Go.Lib
set_option linter.unusedVariables false
theorem len5_1 {e : Op5} (hk : e.k = 1) : len5 e = ((scs e.t.data.toList).length : Int) := by
  unfold len5 lenO; rw [if_pos (Or.inl hk), if_pos hk]
theorem len5_2 {e : Op5} (hk : e.k = 2) : len5 e = 1 := by
  unfold len5 lenO; rw [if_pos (Or.inr hk), if_neg (by omega)]; rfl
theorem len5_3 {e : Op5} (hk : e.k = 3 ∨ e.k = 4) : len5 e = e.c := by
  unfold len5; rw [if_neg (by omega)]
theorem wpList_opP {w : World} {ops : Array Oper} {rest : List Oper} {o : Oper} {a : Act} {Q : Exit → Act → World → Prop} (hgd : o.guard = none) (x : Operand)
    (ho : o.op = .call { callee := .invoke x "Op", args := #[], argTypes := #[] }) (e : Op5) (s : Value) (hx : a.eval x = pieceQ e s) (hg : opE e = 0) (hR : RN w s e.A) (hl : e.A.length ≤ 2097152)
    (h : ∀ v' w', OwnA w' w.heap.size v' e.A → Below w.heap.size w w' → wpList Tryz.prog ops Q rest (a.put o.dst (opV e v')) w') : wpList Tryz.prog ops Q (o :: rest) a w := by
  refine wpList_plain hgd fun K hK => ?_
  unfold Oper.wp
  rcases kinds_of hg with hk | hk | hk | hk
  · rw [pieceQ_1 hk] at hx
    have hrun : (execOp a.eval o).run Tryz.prog w = .ok (.enter 203 #[.agg #[s, .string e.t, .int .i64 (scs e.t.data.toList).length]]) w := by
      simp only [execOp, ho, resolve, hx]
      kernel_rfl
    rw [hrun, Oper.upon_enter]
    refine (opQ_1 hg hk s w hR hl).mono fun r w' hh => ?_
    obtain ⟨v', rfl, h1, h2⟩ := hh
    exact hK _ _ (h v' w' h1 h2)
  · rw [pieceQ_2 hk] at hx
    have hrun : (execOp a.eval o).run Tryz.prog w = .ok (.enter 205 #[.agg #[s, .string e.t, valP e.v]]) w := by
      simp only [execOp, ho, resolve, hx]
      kernel_rfl
    rw [hrun, Oper.upon_enter]
    refine (opQ_2 hg hk s w hR hl).mono fun r w' hh => ?_
    obtain ⟨v', rfl, h1, h2⟩ := hh
    exact hK _ _ (h v' w' h1 h2)
  · rw [pieceQ_3 hk] at hx
    have hrun : (execOp a.eval o).run Tryz.prog w = .ok (.enter 201 #[.agg #[s, .int .i64 e.c]]) w := by
      simp only [execOp, ho, resolve, hx]
      kernel_rfl
    rw [hrun, Oper.upon_enter]
    refine (opQ_3 hg hk s w hR hl).mono fun r w' hh => ?_
    obtain ⟨v', rfl, h1, h2⟩ := hh
    exact hK _ _ (h v' w' h1 h2)
  · rw [pieceQ_4 hk] at hx
    have hrun : (execOp a.eval o).run Tryz.prog w = .ok (.enter 199 #[.agg #[.int .i64 e.c]]) w := by
      simp only [execOp, ho, resolve, hx]
      kernel_rfl
    rw [hrun, Oper.upon_enter]
    refine (opQ_4 hg hk w).mono fun r w' hh => ?_
    obtain ⟨v', rfl, h1, h2⟩ := hh
    exact hK _ _ (h v' w' h1 h2)
theorem wpList_lenP {w : World} {ops : Array Oper} {rest : List Oper} {o : Oper} {a : Act} {Q : Exit → Act → World → Prop} (hgd : o.guard = none) (x : Operand)
    (ho : o.op = .call { callee := .invoke x "Len", args := #[], argTypes := #[] }) (e : Op5) (s : Value) (hx : a.eval x = pieceQ e s) (hg : opE e = 0)
    (h : ∀ w', Below w.heap.size w w' → wpList Tryz.prog ops Q rest (a.put o.dst (.int .i64 (len5 e))) w') : wpList Tryz.prog ops Q (o :: rest) a w := by
  refine wpList_plain hgd fun K hK => ?_
  unfold Oper.wp
  rcases kinds_of hg with hk | hk | hk | hk
  · rw [pieceQ_1 hk] at hx
    rw [len5_1 hk] at h
    have hrun : (execOp a.eval o).run Tryz.prog w = .ok (.enter 202 #[.agg #[s, .string e.t, .int .i64 (scs e.t.data.toList).length]]) w := by
      simp only [execOp, ho, resolve, hx]
      kernel_rfl
    rw [hrun, Oper.upon_enter]
    refine (ilen_any s e.t _ w).mono fun r w' hh => ?_
    obtain ⟨rfl, h2⟩ := hh
    exact hK _ _ (h w' h2)
  · rw [pieceQ_2 hk] at hx
    rw [len5_2 hk] at h
    have hrun : (execOp a.eval o).run Tryz.prog w = .ok (.enter 204 #[.agg #[s, .string e.t, valP e.v]]) w := by
      simp only [execOp, ho, resolve, hx]
      kernel_rfl
    rw [hrun, Oper.upon_enter]
    refine (elen_any _ s e.t w).mono fun r w' hh => ?_
    obtain ⟨rfl, h2⟩ := hh
    exact hK _ _ (h w' h2)
  · rw [pieceQ_3 hk] at hx
    rw [len5_3 (.inl hk)] at h
    have hrun : (execOp a.eval o).run Tryz.prog w = .ok (.enter 200 #[.agg #[s, .int .i64 e.c]]) w := by
      simp only [execOp, ho, resolve, hx]
      kernel_rfl
    rw [hrun, Oper.upon_enter]
    refine (rlen_any s _ w).mono fun r w' hh => ?_
    obtain ⟨rfl, h2⟩ := hh
    exact hK _ _ (h w' h2)
  · rw [pieceQ_4 hk] at hx
    rw [len5_3 (.inr hk)] at h
    have hrun : (execOp a.eval o).run Tryz.prog w = .ok (.enter 198 #[.agg #[.int .i64 e.c]]) w := by
      simp only [execOp, ho, resolve, hx]
      kernel_rfl
    rw [hrun, Oper.upon_enter]
    refine (dlen_any _ w).mono fun r w' hh => ?_
    obtain ⟨rfl, h2⟩ := hh
    exact hK _ _ (h w' h2)

set_option maxHeartbeats 2000000 in
set_option maxRecDepth 100000 in
theorem newW_any {B1 B2 : Nat} (v : Value) (E : List Op5) (w : World) (h : DelV w B1 B2 v E) (hg : ∀ o ∈ E, opE o = 0) (hA : ∀ o ∈ E, o.A.length ≤ 2097152) (hl : E.length ≤ 4194304) :
    Calls Tryz.prog 92 #[v] w fun r w' => ∃ q g, r = .returned (.pointer (some ⟨q, 0, none⟩)) ∧ WkV w' w.heap.size q g E ∧ (E ≠ [] → g < w'.heap.size) ∧ Below w.heap.size w w' := by
  have c := pieces_any v E w h hg hA hl
  clear h hg hA hl
  go_enter Tryz.func92, Tryz.ntmps92
  go_wp2_with fail
  refine c.mono ?_; rintro r w2 ⟨v', rfl, ⟨P, own, pie⟩, b2⟩
  obtain ⟨g, hw, hgl⟩ := wk_new own pie b2.size
  have HGL : Hid (E ≠ [] → g < (w2.alloc (.cells #[v'] 192)).heap.size) := fun h => by rw [World.size_alloc]; have := hgl h; omega
  have HW : Hid (WkV (w2.alloc (.cells #[v'] 192)) w.heap.size w2.heap.size g E) := hw
  have b3 := b2.trans (((Below.refl _ w2).alloc (Nat.le_refl _) (.cells #[v'] 192)).mono b2.size)
  obtain ⟨p, n, rfl⟩ := own_slice own
  clear c own pie hw b2 hgl
  go_wp2
  go_ret
  exact ⟨_, g, rfl, HW.out, HGL.out, b3⟩
theorem doneW_any {B q g : Nat} {R : List Op5} (w : World) (h : WkV w B q g R) :
    Calls Tryz.prog 100 #[.pointer (some ⟨q, 0, none⟩)] w fun r w' => r = .returned (.bool (decide (R = []))) ∧ Below w.heap.size w w' := by
  obtain ⟨p, cap, c0, f0, hc⟩ := h.read0
  cases R with
  | nil =>
    clear h
    have e0 : ((0 : Int) == 0) = true := rfl
    go_enter Tryz.func100, Tryz.ntmps100
    go_wp2
    go_ret
    exact ⟨rfl, Below.refl _ _⟩
  | cons x r =>
    rw [List.length_cons] at c0
    have e0 : (((r.length + 1 : Nat) : Int) == 0) = false := beq_eq_false_iff_ne.2 (by omega)
    obtain ⟨n, hn⟩ : ∃ n, r.length + 1 = n := ⟨_, rfl⟩
    rw [hn] at c0 e0
    clear h hn hc
    go_enter Tryz.func100, Tryz.ntmps100
    go_wp2
    go_ret
    exact ⟨rfl, Below.refl _ _⟩
end Go.Proofs.YthfpmhnnjjikcabGreatDoor

/- build: Pieces: each piece's list lies in blocks of its own. -/
namespace Go.Proofs.YthfpmhnnjjikcabGreatDoor
open Go Go.RowKit Go.Lib
set_option linter.unusedVariables false
/-- Marks that rise from lo on, the first k + 1 of them up to hi. -/
structure MonZ (lo hi k : Nat) (Z : Nat → Nat) : Prop where
  mono : ∀ j, Z j ≤ Z (j + 1)
  zero : Z 0 = lo
  top : Z k ≤ hi
theorem MonZ.up {lo hi hi' k : Nat} {Z : Nat → Nat} (h : MonZ lo hi k Z) (hh : hi ≤ hi') : MonZ lo hi' k Z := ⟨h.mono, h.zero, Nat.le_trans h.top hh⟩
theorem MonZ.le {lo hi k : Nat} {Z : Nat → Nat} (h : MonZ lo hi k Z) : ∀ {i j : Nat}, i ≤ j → Z i ≤ Z j := fun {i j} hij => by
  induction j with
  | zero => obtain rfl : i = 0 := by omega
            exact Nat.le_refl _
  | succ j ih =>
    rcases Nat.lt_or_ge i (j + 1) with h1 | h1
    · exact Nat.le_trans (ih (by omega)) (h.mono j)
    · obtain rfl : i = j + 1 := by omega
      exact Nat.le_refl _
/-- Pieces, the list of the k-th between the k-th mark and the next. -/
def PieZ (w : World) (Z : Nat → Nat) (P : List Value) (E : List Op5) : Prop := P.length = E.length ∧ ∀ (k : Nat) (x : Value) (e : Op5), P[k]? = some x → E[k]? = some e → ∃ s, x = pieceQ e s ∧ InA w (Z k) (Z (k + 1)) s e.A
theorem InA.keep {w w' : World} {lo hi : Nat} {v : Value} {A : List A2} (h : InA w lo hi v A) (k : KeepA w w') : InA w' lo hi v A := ⟨keepA_own h.own k, h.top⟩
theorem PieZ.keep {w w' : World} {Z : Nat → Nat} {P : List Value} {E : List Op5} (h : PieZ w Z P E) (b : KeepA w w') : PieZ w' Z P E :=
  ⟨h.1, fun k x e hx he => by obtain ⟨s, h1, h2⟩ := h.2 k x e hx he; exact ⟨s, h1, h2.keep b⟩⟩
theorem PieZ.below {w w' : World} {Z : Nat → Nat} {P : List Value} {E : List Op5} (h : PieZ w Z P E) (b : Below w.heap.size w w') : PieZ w' Z P E := h.keep (keepA_below b)
theorem PieZ.snoc {w : World} {Z : Nat → Nat} {P : List Value} {E : List Op5} {x s : Value} {e : Op5} {lo l0 k : Nat} (hZ : MonZ l0 lo k Z) (h : PieZ w Z P E) (hk : P.length = k) (hx : x = pieceQ e s) (hs : OwnA w lo s e.A) (hlw : lo ≤ w.heap.size) :
    MonZ l0 w.heap.size (k + 1) (fun j => if j ≤ k then Z j else w.heap.size) ∧ PieZ w (fun j => if j ≤ k then Z j else w.heap.size) (P ++ [x]) (E ++ [e]) := by
  have hkw : ∀ j, j ≤ k → Z j ≤ w.heap.size := fun j hj => Nat.le_trans (hZ.le hj) (Nat.le_trans hZ.top hlw)
  refine ⟨⟨fun j => ?_, ?_, ?_⟩, by rw [List.length_append, List.length_append, h.1]; rfl, fun j y f hy hf => ?_⟩
  · by_cases h1 : j + 1 ≤ k
    · rw [if_pos (by omega), if_pos h1]; exact hZ.mono j
    · rw [if_neg h1]
      by_cases h2 : j ≤ k
      · rw [if_pos h2]; exact hkw j h2
      · rw [if_neg h2]; exact Nat.le_refl _
  · rw [if_pos (Nat.zero_le _)]; exact hZ.zero
  · rw [if_neg (by omega)]; exact Nat.le_refl _
  · have hj : j < P.length + 1 := by have := (List.getElem?_eq_some_iff.1 hy).1; rw [List.length_append] at this; exact this
    rcases Nat.lt_or_ge j P.length with h1 | h1
    · rw [List.getElem?_append_left h1] at hy
      rw [List.getElem?_append_left (by rw [← h.1]; exact h1)] at hf
      simp only []
      rw [if_pos (show j ≤ k by omega), if_pos (show j + 1 ≤ k by omega)]
      exact h.2 j y f hy hf
    · obtain rfl : j = P.length := by omega
      rw [List.getElem?_append_right (Nat.le_refl _), Nat.sub_self] at hy
      rw [List.getElem?_append_right (by rw [h.1]; exact Nat.le_refl _), h.1, Nat.sub_self] at hf
      simp only [List.getElem?_cons_zero, Option.some.injEq] at hy hf
      subst hy; subst hf
      simp only []
      rw [if_pos (show P.length ≤ k by omega), if_neg (show ¬ P.length + 1 ≤ k by omega)]
      refine ⟨s, hx, own_weaken hs (by rw [hk]; exact hZ.top), fun j hj => ?_⟩
      obtain ⟨_, cur, hc⟩ := owns_block hs j hj
      exact (Array.getElem?_eq_some_iff.1 hc).1
set_option maxHeartbeats 4000000 in
set_option maxRecDepth 100000 in
theorem piecesZ_any {B1 B2 : Nat} (v : Value) (E : List Op5) (w : World) (h : DelV w B1 B2 v E) (hg : ∀ o ∈ E, opE o = 0) (hA : ∀ o ∈ E, o.A.length ≤ 2097152) (hl : E.length ≤ 4194304) :
    Calls Tryz.prog 119 #[v] w fun e w' => ∃ v', e = .returned v' ∧ (∃ P, OwnI w' w.heap.size v' P ∧ ∃ Z, MonZ w.heap.size w'.heap.size E.length Z ∧ PieZ w' Z P E) ∧ Below w.heap.size w w' := by
  obtain ⟨q, pv, PL, rfl, _, hq, hrow, hpie⟩ := h
  have c0 : w.cell? ⟨q, 0, none⟩ = some pv := by rw [cell_of_heap hq]; rfl
  obtain ⟨p, cap, rfl, hrd⟩ := del_read (q := q) hrow hpie
  have HV : Hid (∀ k, k < E.length → ∃ ga e s, p = some ⟨ga, 0, none⟩ ∧ E[k]? = some e ∧ w.cell? ⟨ga, k, none⟩ = some (pieceQ e s) ∧ OwnA w B2 s e.A) := hrd
  have HG : Hid (∀ o ∈ E, opE o = 0 ∧ o.A.length ≤ 2097152) := fun o ho => ⟨hg o ho, hA o ho⟩
  obtain ⟨n, hn⟩ : ∃ n, E.length = n := ⟨_, rfl⟩
  have HN : Hid (E.length = n) := hn
  rw [hn] at c0 hl HV
  clear hq hrow hpie hrd hg hA hn
  go_enter Tryz.func119, Tryz.ntmps119
  go_wp2_with (at_make; refine wpList_make_pi2 _ rfl _ _ rfl w.heap.size .i64 .i64 _ n rfl rfl rfl (by omega) (Nat.le_refl _) ?_; intro v0 w1 hown hgr; have hb1 : Below w.heap.size w w1 := (Below.refl _ _).grown hgr (Nat.le_refl _) (fun k hk => by cases hk); have c1 := (hb1.cell (lt_of_cell c0)).trans c0; clear hgr)
  go_loopw [3, 17] (fun al i wr => ∃ (k : Nat) (D : List Value), k ≤ n ∧ i = .int .i64 k ∧ D.length = k ∧ OwnI wr w.heap.size al D ∧ Hid (∃ Z, MonZ w.heap.size wr.heap.size k Z ∧ PieZ wr Z D (E.take k)) ∧ Below w.heap.size w wr) (fun _ i _ => n - (RowKit.intOf i).toNat)
  case atStart => exact ⟨0, [], Nat.zero_le _, rfl, rfl, hown, ⟨fun _ => w.heap.size, ⟨fun _ => Nat.le_refl _, rfl, hb1.size⟩, by rw [List.take_zero]; exact ⟨rfl, fun k x e h => by simp at h⟩⟩, hb1⟩
  case round =>
    clear hown hb1 c1
    obtain ⟨k, D, hk, rfl, hDl, hown, hsp, hbw⟩ := hrel
    by_cases hlt : k < n
    · have hltI : (k : Int) < n := by omega
      obtain ⟨ga, e, s, rfl, he, hc, hs⟩ := HV.out k hlt
      have c2 := (hbw.cell (lt_of_cell hc)).trans hc
      have hs2 := owns_below hs hbw
      obtain ⟨hg1, hA1⟩ := HG.out e (List.mem_of_getElem? he)
      have HT : Hid (E.take (k + 1) = E.take k ++ [e]) := by show _ = _; rw [List.take_add_one, he]; rfl
      have hge : Hid (∀ j, u3.ownBlock = some j → w.heap.size ≤ j) := fun j hj => (owns_block hown j hj).1
      have HO : Hid (OwnI wr w.heap.size u3 D) := hown
      have hlen : D.length ≤ 8388608 := by omega
      have hlz : w.heap.size ≤ wr.heap.size := hbw.size
      have cO := ownP_any e s wr hg1 (own_RN hs2) hA1
      obtain ⟨u, x, hux⟩ := pieceQ_if e s
      have hq := fun s' => pieceQ_if e s'
      obtain ⟨PQ, hPQ⟩ : ∃ f : Value → Value, pieceQ e = f := ⟨_, rfl⟩
      have HPQ : Hid (pieceQ e = PQ) := hPQ
      rw [hPQ] at cO hux hq
      rw [hPQ] at c2
      rw [hux] at c2 cO
      have HSP : Hid _ := hsp.out
      clear he hc hs hs2 hown hsp hg1 hA1 hux hPQ
      go_wp2_with fail
      refine cO.mono ?_; rintro r w5 ⟨s', rfl, own5, hb5⟩
      obtain ⟨u', x', hux'⟩ := hq s'
      have HU : Hid (PQ s' = .iface u' x') := hux'
      rw [hux']
      have bw5 : Below w.heap.size w w5 := hbw.trans (hb5.mono hlz)
      have ba : Below w5.heap.size w5 (w5.alloc (.cells #[.iface u' x'] 102)) := (Below.refl _ _).alloc (Nat.le_refl _) _
      have hu6 : (w5.alloc (.cells #[.iface u' x'] 102)).cell? ⟨w5.heap.size, 0, none⟩ = some (.iface u' x') := by simp
      have HO7 : Hid (OwnI (w5.alloc (.cells #[.iface u' x'] 102)) w.heap.size u3 D) := owns_below (owns_below HO.out hb5) ba
      have HP7 : Hid (∃ Z, MonZ w.heap.size (w5.alloc (.cells #[.iface u' x'] 102)).heap.size (k + 1) Z ∧ PieZ (w5.alloc (.cells #[.iface u' x'] 102)) Z (D ++ [.iface u' x']) (E.take (k + 1))) := by
        show ∃ Z, _
        rw [HT.out]
        obtain ⟨Z, hZ, hP⟩ := HSP.out
        have hlk : D.length = k := hDl
        obtain ⟨a1, a2⟩ := PieZ.snoc (lo := wr.heap.size) (s := s') (x := .iface u' x') (e := e) hZ ((hP.below hb5).below ba) hlk (by rw [HPQ.out, HU.out]) (owns_below own5 ba) (Nat.le_trans hb5.size ba.size)
        exact ⟨_, a1, a2⟩
      have bw7 := bw5.trans (ba.mono bw5.size)
      clear own5 hb5 bw5 ba HO HT cO c2 hux' hq HSP
      go_wp2_with (at_builtin; refine wpList_append_piAt rfl (.tmp 21) (.tmp 24) rfl w.heap.size u3 D rfl HO7.out w5.heap.size 1 (.iface u' x') rfl hu6 rfl hlen bw7.size ?_; intro v8 w8 own8 gr8 hat8; have hsp8 : Hid (∃ Z, MonZ w.heap.size w8.heap.size (k + 1) Z ∧ PieZ w8 Z _ _) := (by obtain ⟨Z, h1, h2⟩ := HP7.out; exact ⟨Z, h1.up gr8.size, h2.keep (keepA_grownI HO7.out gr8)⟩); have b8 := bw7.grown gr8 bw7.size (fun j hj => hge.out j hj); have HO8 : Hid (OwnI w8 w.heap.size v8 _) := own8; clear own8 gr8 hat8 HO7 HP7 hu6)
      go_roundw
      case rel => exact ⟨k + 1, _, by omega, by go_num, by simp [hDl], HO8.out, hsp8, b8⟩
      case measure => simp [RowKit.intOf]; omega
    · have hltI : ¬ (k : Int) < n := by omega
      have hE : E.take k = E := List.take_of_length_le (by rw [HN.out]; omega)
      have hkn : k = n := by omega
      rw [hE] at hsp; have hsp := hsp.out
      have HX : Hid (∃ P, OwnI wr w.heap.size u3 P ∧ ∃ Z, MonZ w.heap.size wr.heap.size E.length Z ∧ PieZ wr Z P E) := by obtain ⟨Z, h1, h2⟩ := hsp; exact ⟨D, hown, Z, by rw [HN.out, ← hkn]; exact h1, h2⟩
      clear hown hsp
      go_wp2
      go_ret
      exact ⟨u3, rfl, HX.out, hbw⟩
end Go.Proofs.YthfpmhnnjjikcabGreatDoor

/- What Each's function hands over, for whatever loop body. -/
namespace Go.Proofs.YthfpmhnnjjikcabGreatDoor
open Go Go.RowKit Go.Lib Go.Shelf
set_option linter.unusedVariables false
attribute [local go_sem] Oper.semAt_some
/-- A delta in a box. -/
def BoxD (w : World) (x : Nat) (B1 B2 : Nat) (E : List Op5) : Prop := ∃ v, w.cell? ⟨x, 0, none⟩ = some v ∧ DelV w B1 B2 v E
theorem BoxD.below {w w' : World} {x B1 B2 : Nat} {E : List Op5} (h : BoxD w x B1 B2 E) (b : Below w.heap.size w w') : BoxD w' x B1 B2 E := by
  obtain ⟨v, h1, h2⟩ := h
  exact ⟨v, (b.cell (lt_of_cell h1)).trans h1, h2.below b⟩
theorem each7_call {B1 B2 : Nat} (v : Value) (E : List Op5) (w : World) (h : DelV w B1 B2 v E) :
    Calls Tryz.prog 89 #[v] w fun r w' => ∃ x, r = .returned (.func (.func 118) #[] #[.pointer (some ⟨x, 0, none⟩)]) ∧ BoxD w' x B1 B2 E ∧ w.heap.size ≤ x ∧ Below w.heap.size w w' := by
  have bA : Below w.heap.size w (w.alloc (.cells #[v] 25)) := (Below.refl _ _).alloc (Nat.le_refl _) _
  have HD : Hid (DelV (w.alloc (.cells #[v] 25)) B1 B2 v E) := h.below bA
  obtain ⟨q, pv, PL, rfl, _⟩ := h
  go_enter Tryz.func89, Tryz.ntmps89
  go_wp2
  go_ret
  exact ⟨_, rfl, ⟨_, by simp, HD.out⟩, Nat.le_refl _, bA⟩

/-- A piece that is handed over, the blocks among which its list lies. -/
abbrev PZ : Type := Value × Nat × Nat
abbrev encZ (x : PZ) : Array Value := #[x.1]
def GZ (E : List Op5) (B0 : Nat) (pre : List PZ) (x : PZ) (W : World) : Prop := ∃ e s, E[pre.length]? = some e ∧ x.1 = pieceQ e s ∧ InA W x.2.1 x.2.2 s e.A ∧ B0 ≤ x.2.1 ∧ x.2.2 ≤ W.heap.size
/-- What a round keeps: the pieces, and all lists but the one that was handed over. -/
structure KZ (pre : List PZ) (x : PZ) (A A' : World) : Prop where
  size : A.heap.size ≤ A'.heap.size
  pie : ∀ (k : Nat) (cs : Array Value), A.heap[k]? = some (.cells cs 102 (0, 0)) → A'.heap[k]? = some (.cells cs 102 (0, 0))
  att : ∀ (k : Nat) (cs : Array Value), A.heap[k]? = some (.cells cs 45 (0, 0)) → (k < x.2.1 ∨ x.2.2 ≤ k) → A'.heap[k]? = some (.cells cs 45 (0, 0))
theorem ina_same {w w' : World} {lo hi : Nat} {v : Value} {A : List A2} (h : InA w lo hi v A) (hk : ∀ (k : Nat) (cs : Array Value), w.heap[k]? = some (.cells cs 45 (0, 0)) → lo ≤ k → k < hi → w'.heap[k]? = some (.cells cs 45 (0, 0))) : InA w' lo hi v A := by
  obtain ⟨h1, h2⟩ := h
  refine ⟨owns_same h1 fun k e => ?_, h2⟩
  obtain ⟨b1, cs, b2⟩ := owns_block h1 k e
  rw [b2]
  exact hk k cs b2 b1 (h2 k e)
theorem GZ.bk {E : List Op5} {B0 B : Nat} {pre : List PZ} {x : PZ} {A A' : World} (h : GZ E B0 pre x A) (k : Bk7 B A A') : GZ E B0 pre x A' := by
  obtain ⟨e, s, h1, h2, h3, h4, h5⟩ := h
  exact ⟨e, s, h1, h2, ina_same h3 fun j cs hj _ _ => k.kept j _ hj (.inr rfl), h4, Nat.le_trans h5 k.size⟩
theorem KZ.bk {B : Nat} {pre : List PZ} {x : PZ} {A A' C C' : World} (k1 : Bk7 B A A') (h : KZ pre x A' C) (k2 : Bk7 B C C') : KZ pre x A C' :=
  ⟨Nat.le_trans k1.size (Nat.le_trans h.size k2.size), fun k cs hk => k2.kept k _ (h.pie k cs (k1.kept k _ hk (.inr rfl))) (.inr rfl), fun k cs hk ho => k2.kept k _ (h.att k cs (k1.kept k _ hk (.inr rfl)) ho) (.inr rfl)⟩
set_option maxHeartbeats 4000000 in
set_option maxRecDepth 100000 in
theorem each7_seq (E : List Op5) (w0 : World) (x B1 B2 : Nat) (hT : BoxD w0 x B1 B2 E) (hg : ∀ o ∈ E, opE o = 0) (hA : ∀ o ∈ E, o.A.length ≤ 2097152) (hl : E.length ≤ 4194304) (n : Nat) (hn : 2 ≤ n) :
    SeqG Fence.wide n Tryz.prog 118 #[.pointer (some ⟨x, 0, none⟩)] encZ (fun _ => False) (GZ E w0.heap.size) KZ (fun xs => xs.length = E.length) w0 := fun l J Jx W hW hJ hJx hY h0 => by
  obtain ⟨v, hx, hd⟩ := hT
  have c0 : W.cell? ⟨x, 0, none⟩ = some v := (hW.cell (lt_of_cell hx)).trans hx
  have cP := piecesZ_any v E W (hd.below hW) hg hA hl
  have hz0 : w0.heap.size ≤ W.heap.size := hW.size
  obtain ⟨m, hm⟩ : ∃ m, E.length = m := ⟨_, rfl⟩
  have HM : Hid (E.length = m) := hm
  have HJ : Hid (∀ p W1 W2, J p W1 → Below W1.heap.size W1 W2 → J p W2) := fun p W1 W2 h1 h2 => hJ p W1 W2 h1 (It7.of_below h2)
  have HY : Hid (∀ pre x W1, J pre W1 → GZ E w0.heap.size pre x W1 → YieldAt Fence.wide (n - 1) Tryz.prog l (encZ x) W1 fun e W' =>
      (e = .returned (.bool true) ∧ J (pre ++ [x]) W' ∧ KZ pre x W1 W') ∨ (e = .returned (.bool false) ∧ Jx (pre ++ [x]) W')) := hY
  rw [hm] at hl ⊢
  clear hY hJ hJx hx hd hg hA hW hm
  refine callsIn_of_wp Tryz.func118 rfl trivial ?_ rfl
  simp only [Tryz.ntmps118, List.size_toArray, List.length_cons, List.length_nil, Nat.reduceAdd, Nat.reduceSub, Array.replicate_succ, Array.replicate_zero, List.push_toArray, List.append_toArray, List.nil_append, List.cons_append]
  gi_wp2
  refine ⟨trivial, (fun _ => Nat.le_trans (by decide) hn), (callsIn_wide.2 cP).mono ?_⟩
  rintro r w2 ⟨v', rfl, ⟨P, own, Z, hZ, hP⟩, hb2⟩
  have hPE : P.length = m := hP.1.trans HM.out
  obtain ⟨p, cap, hv⟩ := own_slice own
  have H2 : Hid (OwnI w2 W.heap.size v' P ∧ ∀ (j : Nat) (x : Value) (e : Op5), 0 ≤ j → P[j]? = some x → E[j]? = some e → ∃ s, x = pieceQ e s ∧ InA w2 (Z j) (Z (j + 1)) s e.A) := ⟨own, fun j x e _ h1 h2 => hP.2 j x e h1 h2⟩
  have HZ : Hid (MonZ W.heap.size w2.heap.size m Z ∧ w0.heap.size ≤ W.heap.size) := (by rw [HM.out] at hZ; exact ⟨hZ, hz0⟩)
  have HPL : Hid (P.length = m) := hPE
  have hJ2 := HJ.out _ _ _ h0 hb2
  rw [hPE] at hv
  subst hv
  have hN : Hid (2 ≤ n) := hn
  clear cP c0 own hZ hP hb2 h0 hPE hz0 hn
  gi_wp2
  gi_loopw [4, 8] (fun _ i wr => ∃ (k : Nat) (xs : List PZ), k ≤ m ∧ i = .int .i64 (k : Nat) ∧ xs.length = k ∧ J xs wr ∧ w2.heap.size ≤ wr.heap.size ∧ Hid (OwnI wr W.heap.size (.slice p m cap) P ∧ ∀ (j : Nat) (x : Value) (e : Op5), k ≤ j → P[j]? = some x → E[j]? = some e → ∃ s, x = pieceQ e s ∧ InA wr (Z j) (Z (j + 1)) s e.A)) (fun _ i _ => m - (RowKit.intOf i).toNat)
  case atStart => exact ⟨0, [], Nat.zero_le _, rfl, rfl, hJ2, Nat.le_refl _, H2⟩
  case round =>
    clear hJ2 H2
    obtain ⟨k, xs, hk, rfl, hxs, hJk, hsz, H⟩ := hrel
    by_cases hlt : k < m
    · have hltI : (k : Int) < (m : Int) := by omega
      obtain ⟨gP, cP, xv, hv', _, hxv, hcx⟩ := own_cell H.out.1 k (by rw [HPL.out]; exact hlt)
      simp only [Value.slice.injEq] at hv'
      obtain ⟨rfl, -, rfl⟩ := hv'
      obtain ⟨e, he⟩ : ∃ e, E[k]? = some e := ⟨_, List.getElem?_eq_getElem (by rw [HM.out]; exact hlt)⟩
      obtain ⟨s, hxs', hin⟩ := H.out.2 k xv e (Nat.le_refl _) hxv he
      have hG : GZ E w0.heap.size xs (xv, Z k, Z (k + 1)) wr := ⟨e, s, by rw [hxs]; exact he, hxs', hin, by
        have := HZ.out.1.le (Nat.zero_le k); rw [HZ.out.1.zero] at this; have := HZ.out.2; show _ ≤ Z k; omega, by
        have := HZ.out.1.le (show k + 1 ≤ m from hlt); have := HZ.out.1.top; show Z (k + 1) ≤ _; omega⟩
      have hYk := HY.out xs (xv, Z k, Z (k + 1)) wr hJk hG
      obtain ⟨u, y, hux⟩ := pieceQ_if e s
      rw [hux] at hxs'
      subst hxs'
      have HQ : Hid (xs.length = k ∧ k + 1 ≤ m ∧ w2.heap.size ≤ wr.heap.size) := ⟨hxs, hlt, hsz⟩
      obtain ⟨fn, tm, asg, bo, hy, hR⟩ := hYk
      clear hJk hxv he hin hG hux hxs hk hlt hsz
      gi_wp2
      refine ⟨(fun _ => Nat.le_trans (by decide) hN.out), hR.mono ?_⟩
      rintro e' W3 (⟨rfl, hJ3, hk3⟩ | ⟨rfl, hJx3⟩)
      · have H3 : Hid (OwnI W3 W.heap.size (.slice (some ⟨gP, 0, none⟩) m cap) P ∧ ∀ (j : Nat) (x : Value) (e : Op5), k + 1 ≤ j → P[j]? = some x → E[j]? = some e → ∃ s, x = pieceQ e s ∧ InA W3 (Z j) (Z (j + 1)) s e.A) := by
          refine ⟨owns_same H.out.1 fun b hb => ?_, fun j x e' hj h1 h2 => ?_⟩
          · obtain ⟨_, cs, hcs⟩ := owns_block H.out.1 b hb
            rw [hcs]; exact hk3.pie b cs hcs
          · obtain ⟨s', e1, e2⟩ := H.out.2 j x e' (by omega) h1 h2
            exact ⟨s', e1, ina_same e2 fun b cs hb hlo _ => hk3.att b cs hb (.inr (Nat.le_trans (HZ.out.1.le hj) hlo))⟩
        have HS3 : Hid (w2.heap.size ≤ W3.heap.size) := Nat.le_trans HQ.out.2.2 hk3.size
        clear hk3 H
        gi_wp2
        go_roundw
        case rel => exact ⟨k + 1, xs ++ [(.iface u y, Z k, Z (k + 1))], HQ.out.2.1, by go_num, by rw [List.length_append, HQ.out.1]; rfl, hJ3, HS3.out, H3⟩
        case measure => simp [RowKit.intOf]; have := HQ.out.2.1; omega
      · gi_wp2
        refine bodyPost_ret (results_none rfl _ _ _) rfl ?_
        exact ⟨⟨_, rfl⟩, .inr ⟨_, hJx3⟩⟩
    · have hltI : ¬ (k : Int) < (m : Int) := by omega
      have hkm : xs.length = m := by omega
      clear H
      gi_wp2
      go_end0
      exact ⟨⟨_, rfl⟩, .inl ⟨xs, hkm, hJk⟩⟩
end Go.Proofs.YthfpmhnnjjikcabGreatDoor

/- What cellsOf's function hands over, for whatever loop body: the cells of a text. -/
namespace Go.Proofs.YthfpmhnnjjikcabGreatDoor
open Go Go.RowKit Go.Lib Go.Shelf
set_option linter.unusedVariables false
attribute [local go_sem] Oper.semAt_some
/-- A cell that is handed over, the blocks among which its list lies. -/
abbrev CZ : Type := CV × Nat × Nat
abbrev encC9 (x : CZ) : Array Value := #[ceV x.1]
def GC9 (L : List C5) (B0 : Nat) (pre : List CZ) (x : CZ) (W : World) : Prop := ∃ e, L[pre.length]? = some e ∧ x.1.1 = e.1 ∧ x.1.2.1 = e.2.1 ∧ x.1.2.2.1 = e.2.2.1 ∧ InA W x.2.1 x.2.2 (slV x.1.2.2.2) e.2.2.2 ∧ B0 ≤ x.2.1 ∧ x.2.2 ≤ W.heap.size ∧ ∀ y ∈ pre, y.2.2 ≤ x.2.1
/-- What a round keeps. -/
structure KC9 (pre : List CZ) (x : CZ) (A A' : World) : Prop where
  size : A.heap.size ≤ A'.heap.size
  own : ∀ (k : Nat) (cs : Array Value) (t : TypeId), A.heap[k]? = some (.cells cs t (0, 0)) → (t = 184 ∨ t = 189) → A'.heap[k]? = some (.cells cs t (0, 0))
  ite : ∀ (k : Nat) (t : ByteArray) (p : Nat), A.heap[k]? = some (.stringIter t p) → A'.heap[k]? = some (.stringIter t p)
  att : ∀ (k : Nat) (cs : Array Value), A.heap[k]? = some (.cells cs 45 (0, 0)) → (k < x.2.1 ∨ x.2.2 ≤ k) → A'.heap[k]? = some (.cells cs 45 (0, 0))
theorem GC9.bk {L : List C5} {B0 B C : Nat} {pre : List CZ} {x : CZ} {A A' : World} (h : GC9 L B0 pre x A) (k : Bk9 B C A A') : GC9 L B0 pre x A' := by
  obtain ⟨e, h1, h2, h3, h4, h5, h6, h7, h8⟩ := h
  exact ⟨e, h1, h2, h3, h4, ina_same h5 fun j cs hj _ _ => k.cells hj, h6, Nat.le_trans h7 k.size, h8⟩
theorem KC9.bk {B Z : Nat} {pre : List CZ} {x : CZ} {A A' C C' : World} (k1 : Bk9 B Z A A') (h : KC9 pre x A' C) (k2 : Bk9 B Z C C') : KC9 pre x A C' :=
  ⟨Nat.le_trans k1.size (Nat.le_trans h.size k2.size), fun k cs t hk ht => k2.cells (h.own k cs t (k1.cells hk) ht), fun k t p hk => k2.ite (h.ite k t p (k1.ite hk)), fun k cs hk ho => k2.cells (h.att k cs (k1.cells hk) ho)⟩
theorem it9_iterAt {T : TypeId → Prop} {B K : Nat} {W : World} {t : ByteArray} {p : Nat} (p2 : Nat) (hB : B ≤ K) (hk : W.heap[K]? = some (.stringIter t p)) : It9 T B W (W.iterAt K t p2) :=
  ⟨rfl, rfl, rfl, by simp [World.iterAt], fun k o ho hc => by
    have hne : k ≠ K := fun e => by
      subst e; rw [hk] at ho; cases ho
      rcases hc with hc | ⟨_, hc⟩
      · omega
      · exact hc ⟨_, _, rfl⟩
    simpa [World.iterAt, Ne.symm hne] using ho⟩

theorem cellsOf_call (u : TypeId) (y : Value) (w : World) :
    Calls Tryz.prog 90 #[.iface u y] w fun r w' => r = .returned (.func (.func 120) #[] #[.pointer (some ⟨w.heap.size, 0, none⟩)]) ∧ w'.cell? ⟨w.heap.size, 0, none⟩ = some (.iface u y) ∧ Below w.heap.size w w' := by
  have bA : Below w.heap.size w (w.alloc (.cells #[.iface u y] 102)) := (Below.refl _ _).alloc (Nat.le_refl _) _
  go_enter Tryz.func90, Tryz.ntmps90
  go_wp2
  go_ret
  exact ⟨rfl, by simp, bA⟩

set_option maxHeartbeats 4000000 in
set_option maxRecDepth 100000 in
theorem text9_seq (e : Op5) (s : Value) (w0 : World) (x lo hi : Nat) (hk1 : e.k = 1) (hx : w0.cell? ⟨x, 0, none⟩ = some (pieceQ e s)) (hR : InA w0 lo hi s e.A) (hh : hi ≤ w0.heap.size) (hu : brk e.t.data.toList = e.t.size) (hn2 : e.A.length ≤ 2097152) (n : Nat) (hn : 2 ≤ n) :
    SeqG9 Fence.wide n Tryz.prog 120 #[.pointer (some ⟨x, 0, none⟩)] encC9 (fun _ => False) (GC9 (mkC e.A (scs e.t.data.toList)) w0.heap.size) (fun _ => KC9) (fun xs => xs.length = (scs e.t.data.toList).length) w0 := fun l J Jx W hW hJ hJx hY h0 => by
  obtain ⟨h1, h2, h3⟩ := valid_text e.t hu
  obtain ⟨p, c, rfl⟩ := own_slice hR.own
  rw [pieceQ_1 hk1] at hx
  obtain ⟨k, t, vv, cc, A⟩ := e
  simp only at hk1 hx hR hu hn2 h1 h2 h3 ⊢
  have HY : Hid (∀ pre x W1, J pre W1 → GC9 (mkC A (scs t.data.toList)) w0.heap.size pre x W1 → YieldAt Fence.wide (n - 1) Tryz.prog l (encC9 x) W1 fun e W' =>
      (e = .returned (.bool true) ∧ J (pre ++ [x]) W' ∧ KC9 pre x W1 W') ∨ (e = .returned (.bool false) ∧ Jx (pre ++ [x]) W')) := fun pre x W1 a b => yieldAt_mono (hY pre x W1 a b) fun e w' h => h.imp (fun h => ⟨h.1, h.2.1, h.2.2.1⟩) (fun h => ⟨h.1, h.2.1⟩)
  obtain ⟨rs, hrs⟩ : ∃ rs, scs t.data.toList = rs := ⟨_, rfl⟩
  rw [hrs] at h1 h2 h3 HY hx ⊢
  obtain ⟨m, hm⟩ : ∃ m, rs.length = m := ⟨_, rfl⟩
  rw [hm] at h3 hx ⊢
  have HM : Hid (rs.length = m ∧ t.data.toList = encs rs ∧ (∀ r ∈ rs, scal r)) := ⟨hm, h2, h1⟩
  have c0 : W.cell? ⟨x, 0, none⟩ = some (.iface 184 (.agg #[.slice p A.length c, .string t, .int .i64 m])) := (hW.cell (lt_of_cell hx)).trans hx
  have hz0 : w0.heap.size ≤ W.heap.size := hW.size
  have HJ : Hid (∀ q W1 W2, J q W1 → Tr7 (fun _ => False) W.heap.size W1 W2 → J q W2) := hJ
  have HA : Hid (InA W lo hi (.slice p A.length c) A ∧ hi ≤ W.heap.size ∧ A.length ≤ 2097152) := ⟨hR.below hW, by omega, hn2⟩
  have HH0 : Hid (hi ≤ w0.heap.size ∧ w0.heap.size ≤ W.heap.size) := ⟨hh, hz0⟩
  have HN : Hid (2 ≤ n) := hn
  have as1 := as_i_i
  have hJ0 := h0
  clear hY hJ hJx hx hR hW hrs hm h1 h2 hu hn2 hk1 hz0 hh hn h0
  refine callsIn_of_wp Tryz.func120 rfl trivial ?_ rfl
  simp only [Tryz.ntmps120, List.size_toArray, List.length_cons, List.length_nil, Nat.reduceAdd, Nat.reduceSub, Array.replicate_succ, Array.replicate_zero, List.push_toArray, List.append_toArray, List.nil_append, List.cons_append]
  gi_wp2
  have bI : Below W.heap.size W (W.alloc (.cells #[.slice p A.length c, .string t, .int .i64 m] 184)) := (Below.refl _ _).alloc (Nat.le_refl _) _
  have bi : Below W.heap.size W ((W.alloc (.cells #[.slice p A.length c, .string t, .int .i64 m] 184)).iter t 0) := bI.trans (((Below.refl _ _).alloc (Nat.le_refl _) _ : Below (W.alloc (.cells #[.slice p A.length c, .string t, .int .i64 m] 184)).heap.size _ ((W.alloc (.cells #[.slice p A.length c, .string t, .int .i64 m] 184)).iter t 0)).mono bI.size)
  have hI0 : ((W.alloc (.cells #[.slice p A.length c, .string t, .int .i64 m] 184)).iter t 0).heap[W.heap.size]? = some (.cells #[.slice p A.length c, .string t, .int .i64 m] 184 (0, 0)) := heap_below ((Below.refl _ _).alloc (Nat.le_refl _) _) (heap_alloc_new W _)
  have hK0 : ((W.alloc (.cells #[.slice p A.length c, .string t, .int .i64 m] 184)).iter t 0).heap[W.heap.size + 1]? = some (.stringIter t 0) := by
    have := World.iter_heap (W.alloc (.cells #[.slice p A.length c, .string t, .int .i64 m] 184)) t 0
    rwa [World.size_alloc] at this
  obtain ⟨wi, hwi⟩ : ∃ wi, wi = (W.alloc (.cells #[.slice p A.length c, .string t, .int .i64 m] 184)).iter t 0 := ⟨_, rfl⟩
  rw [← hwi] at bi hI0 hK0 ⊢
  have HS : Hid (J [] wi ∧ wi.heap[W.heap.size]? = some (.cells #[.slice p A.length c, .string t, .int .i64 m] 184 (0, 0)) ∧ wi.heap[W.heap.size + 1]? = some (.stringIter t (pos rs 0)) ∧ InA wi lo hi (.slice p A.length c) A ∧ ∀ y ∈ ([] : List CZ), y.2.2 ≤ wi.heap.size) := ⟨HJ.out _ _ _ hJ0 (Tr7.of_below bi), hI0, hK0, HA.out.1.below bi, fun y hy => by cases hy⟩
  clear bI bi hI0 hK0 hwi hJ0 c0 as1
  gi_loopw [5] (fun _ wr => ∃ (k : Nat) (xs : List CZ), k ≤ m ∧ xs.length = k ∧ Hid (J xs wr ∧ wr.heap[W.heap.size]? = some (.cells #[.slice p A.length c, .string t, .int .i64 m] 184 (0, 0)) ∧ wr.heap[W.heap.size + 1]? = some (.stringIter t (pos rs k)) ∧ InA wr lo hi (.slice p A.length c) A ∧ ∀ y ∈ xs, y.2.2 ≤ wr.heap.size)) (fun _ wr => t.size - wr.iterPos (W.heap.size + 1))
  case atStart => exact ⟨0, [], Nat.zero_le _, rfl, HS.out⟩
  case round =>
    clear HS
    obtain ⟨k, xs, hk, hxs, H⟩ := hrel
    by_cases hlt : k < m
    · obtain ⟨hJk, hIk, hit, hin, hasc⟩ := H.out
      obtain ⟨hd, hp⟩ := decode_pos t rs HM.out.2.1 HM.out.2.2 k (by rw [HM.out.1]; exact hlt)
      have hps := pos_succ rs k (by rw [HM.out.1]; exact hlt)
      have hpl := enc_pos (HM.out.2.2 _ (List.getElem_mem (show k < rs.length by rw [HM.out.1]; exact hlt)))
      have hget : (mkC A rs)[k]? = some (((rs[k]'(by rw [HM.out.1]; exact hlt) : Nat) : Int), ⟨#[]⟩, z0, A) := by
        unfold mkC
        rw [List.getElem?_map, List.getElem?_eq_getElem (by rw [HM.out.1]; exact hlt)]
        rfl
      obtain ⟨R, hRR⟩ : ∃ R, rs[k]'(by rw [HM.out.1]; exact hlt) = R := ⟨_, rfl⟩
      rw [hRR] at hd hps hpl hget
      have hnx : ∀ ty, (Instr.next (.pointer (some ⟨W.heap.size + 1, 0, none⟩)) true ty).run Tryz.prog wr = .ok (.tuple #[.bool true, .int .i64 (pos rs k), .int .i32 R]) (wr.iterAt (W.heap.size + 1) t (pos rs (k + 1))) := fun ty => by
        have := run_next_any_at (P := Tryz.prog) wr (W.heap.size + 1) t (pos rs k) ty hit hp
        rw [hd] at this
        rw [this, hps]
      obtain ⟨P, hP⟩ : ∃ P, pos rs k = P := ⟨_, rfl⟩
      obtain ⟨P2, hP2⟩ : ∃ P, pos rs (k + 1) = P := ⟨_, rfl⟩
      have HQ : Hid (pos rs (k + 1) = P2 ∧ P < P2 ∧ P < t.size ∧ xs.length = k ∧ wr.iterPos (W.heap.size + 1) = P ∧ (mkC A rs)[k]? = some ((R : Int), ⟨#[]⟩, z0, A)) := ⟨hP2, by omega, by omega, hxs, by simp [World.iterPos, hit, hP], hget⟩
      rw [hP] at hnx hit
      rw [hP2] at hnx
      have hI1 : (wr.iterAt (W.heap.size + 1) t P2).heap[W.heap.size]? = some (.cells #[.slice p A.length c, .string t, .int .i64 m] 184 (0, 0)) := by
        simpa [World.iterAt] using hIk
      have hit1 := iterAt_heap wr (W.heap.size + 1) t P P2 hit
      have hJ1 := HJ.out _ _ _ hJk ((it9_iterAt P2 (Nat.le_succ _) hit).tr (Nat.le_refl _))
      have hin1 : InA (wr.iterAt (W.heap.size + 1) t P2) lo hi (.slice p A.length c) A := ina_same hin fun b cs hb _ _ => (keepA_iterAt hit P2 b cs hb).trans hb
      obtain ⟨W1, hW1⟩ : ∃ W1, W1 = wr.iterAt (W.heap.size + 1) t P2 := ⟨_, rfl⟩
      rw [← hW1] at hI1 hit1 hJ1 hin1 hnx
      have cA := attributes_any _ A W1 (own_rowA hin1.own) (own_nil hin1.own) HA.out.2.2
      have i0 : W1.cell? ⟨W.heap.size, 0, none⟩ = some (.slice p A.length c) := by rw [cell_of_heap hI1]; rfl
      have hz1 : W1.heap.size = wr.heap.size := by rw [hW1]; simp [World.iterAt]
      have H1 : Hid (J xs W1 ∧ W1.heap[W.heap.size]? = some (.cells #[.slice p A.length c, .string t, .int .i64 m] 184 (0, 0)) ∧ W1.heap[W.heap.size + 1]? = some (.stringIter t P2) ∧ InA W1 lo hi (.slice p A.length c) A ∧ ∀ y ∈ xs, y.2.2 ≤ W1.heap.size) := ⟨hJ1, hI1, hit1, hin1, fun y hy => by rw [hz1]; exact hasc y hy⟩
      clear H hJk hIk hit hin hd hp hps hpl hget hRR hP hP2 hI1 hit1 hJ1 hin1 hW1 hxs hz1 hasc
      gi_wp2
      refine ⟨trivial, (fun _ => Nat.le_trans (by decide) HN.out), (callsIn_wide.2 cA).mono ?_⟩
      rintro r w5 ⟨v5, rfl, own5, hb5⟩
      obtain ⟨p5, c5, rfl⟩ := own_slice own5
      have hYk := HY.out xs (((R : Int), ⟨#[]⟩, z0, p5, A.length, c5), W1.heap.size, w5.heap.size) w5 (HJ.out _ _ _ H1.out.1 (Tr7.of_below hb5)) ⟨_, by rw [HQ.out.2.2.2.1]; exact HQ.out.2.2.2.2.2, rfl, rfl, rfl, InA.new own5, by
        have h1 := (Array.getElem?_eq_some_iff.1 H1.out.2.1).1
        have h2 := HH0.out.2
        show w0.heap.size ≤ W1.heap.size
        omega, Nat.le_refl _, fun y hy => H1.out.2.2.2.2 y hy⟩
      have H5 : Hid (w5.heap[W.heap.size]? = some (.cells #[.slice p A.length c, .string t, .int .i64 m] 184 (0, 0)) ∧ w5.heap[W.heap.size + 1]? = some (.stringIter t P2) ∧ InA w5 lo hi (.slice p A.length c) A ∧ W.heap.size ≤ W1.heap.size ∧ ∀ y ∈ xs ++ [(((R : Int), ⟨#[]⟩, z0, p5, A.length, c5), W1.heap.size, w5.heap.size)], y.2.2 ≤ w5.heap.size) := ⟨heap_below hb5 H1.out.2.1, heap_below hb5 H1.out.2.2.1, H1.out.2.2.2.1.below hb5, by have h1 := (Array.getElem?_eq_some_iff.1 H1.out.2.1).1; omega, fun y hy => by
        rcases List.mem_append.1 hy with hy | hy
        · exact Nat.le_trans (H1.out.2.2.2.2 y hy) hb5.size
        · rw [List.mem_singleton.1 hy]; exact Nat.le_refl _⟩
      simp only [encC9, ceV, slV, z0] at hYk
      obtain ⟨fn, tm, asg, bo, hy, hR⟩ := hYk
      clear cA own5 hb5 H1 hnx i0
      gi_wp2
      refine ⟨(fun _ => Nat.le_trans (by decide) HN.out), hR.mono ?_⟩
      rintro e' W3 (⟨rfl, hJ3, hk3⟩ | ⟨rfl, hJx3⟩)
      · have H3 : Hid (W3.heap[W.heap.size]? = some (.cells #[.slice p A.length c, .string t, .int .i64 m] 184 (0, 0)) ∧ W3.heap[W.heap.size + 1]? = some (.stringIter t P2) ∧ InA W3 lo hi (.slice p A.length c) A ∧ ∀ y ∈ xs ++ [(((R : Int), ⟨#[]⟩, z0, p5, A.length, c5), W1.heap.size, w5.heap.size)], y.2.2 ≤ W3.heap.size) := ⟨hk3.own _ _ _ H5.out.1 (.inl rfl), hk3.ite _ _ _ H5.out.2.1, ina_same H5.out.2.2.1 fun b cs hb _ hlt => hk3.att b cs hb (.inl (by have := H5.out.2.2.2.1; have := HA.out.2.1; show b < W1.heap.size; omega)), fun y hy => Nat.le_trans (H5.out.2.2.2.2 y hy) hk3.size⟩
        have HJ3 : Hid (J (xs ++ [(((R : Int), ⟨#[]⟩, z0, p5, A.length, c5), W1.heap.size, w5.heap.size)]) W3) := hJ3
        clear hk3 hJ3 hR hy H5
        gi_wp2
        go_roundw
        case rel => exact ⟨k + 1, _, by omega, by rw [List.length_append, HQ.out.2.2.2.1]; rfl, HJ3.out, H3.out.1, by rw [HQ.out.1]; exact H3.out.2.1, H3.out.2.2⟩
        case measure =>
          have h1 : W3.iterPos (W.heap.size + 1) = P2 := by simp [World.iterPos, H3.out.2.1]
          have h2 := HQ.out
          rw [h1]
          omega
      · gi_wp2
        refine bodyPost_ret (results_none rfl _ _ _) rfl ?_
        exact ⟨⟨_, rfl⟩, .inr ⟨_, hJx3⟩⟩
    · have he : k = m := by omega
      obtain ⟨hJk, hIk, hit, hin, -⟩ := H.out
      have hpe : ¬ pos rs k < t.size := by
        rw [he, ← HM.out.1, pos_all, ← HM.out.2.1, size_toList]; omega
      have hnx : ∀ ty, (Instr.next (.pointer (some ⟨W.heap.size + 1, 0, none⟩)) true ty).run Tryz.prog wr = _ := fun ty => run_next_end_at wr (W.heap.size + 1) t _ ty hit hpe
      clear H hIk hin hpe hit
      gi_wp2
      go_end0
      exact ⟨⟨_, rfl⟩, .inl ⟨xs, by omega, hJk⟩⟩
end Go.Proofs.YthfpmhnnjjikcabGreatDoor

/- What cellsOf's function hands over, for whatever loop body: the cell of an embed. -/
namespace Go.Proofs.YthfpmhnnjjikcabGreatDoor
open Go Go.RowKit Go.Lib Go.Shelf
set_option linter.unusedVariables false
attribute [local go_sem] Oper.semAt_some
set_option maxHeartbeats 8000000 in
set_option maxRecDepth 100000 in
theorem emb9_seq (u : TypeId) (y : Value) (fp : FuncId) (za zb : Int) (zq : ByteArray) (hmet : ∀ W : World, (method 359 u y "Plain").run Tryz.prog W = .ok (fp, y) W) (hcf : ∀ W : World, (callFunc fp #[y]).run Tryz.prog W = .ok (.enter fp #[y]) W) (hPl : ∀ W, Calls Tryz.prog fp #[y] W fun r w' => r = .returned (.agg #[.int .i64 za, .int .i64 zb, .string zq]) ∧ Below W.heap.size W w') (t : ByteArray) (A : List A2) (p : Option Addr) (c : Nat) (w0 : World) (x lo hi : Nat) (hx : w0.cell? ⟨x, 0, none⟩ = some (.iface 189 (.agg #[.slice p A.length c, .string t, .iface u y]))) (hR : InA w0 lo hi (.slice p A.length c) A) (hh : hi ≤ w0.heap.size) (hn2 : A.length ≤ 2097152) (n : Nat) (hn : 2 ≤ n) :
    SeqG9 Fence.wide n Tryz.prog 120 #[.pointer (some ⟨x, 0, none⟩)] encC9 (fun _ => False) (GC9 [(-1, t, (za, zb, zq), A)] w0.heap.size) (fun _ => KC9) (fun xs => xs.length = 1) w0 := fun l J Jx W hW hJ hJx hY h0 => by
  have c0 : W.cell? ⟨x, 0, none⟩ = some (.iface 189 (.agg #[.slice p A.length c, .string t, .iface u y])) := (hW.cell (lt_of_cell hx)).trans hx
  have bI : Below W.heap.size W (W.alloc (.cells #[.slice p A.length c, .string t, .iface u y] 189)) := (Below.refl _ _).alloc (Nat.le_refl _) _
  have bd : Below W.heap.size W (W.alloc (.cells #[.slice p A.length c, .string t, .iface u y] 189)).drew := bI.drew
  have hE0 := heap_alloc_new W (.cells #[.slice p A.length c, .string t, .iface u y] 189)
  obtain ⟨W3, hW3⟩ : ∃ W3, W3 = W.alloc (.cells #[.slice p A.length c, .string t, .iface u y] 189) := ⟨_, rfl⟩
  rw [← hW3] at bI bd hE0
  have HV : Hid (∀ w', Below W3.drew.heap.size W3.drew w' → w'.cell? ⟨W.heap.size, 0, none⟩ = some (.slice p A.length c) ∧ w'.cell? ⟨W.heap.size, 1, none⟩ = some (.string t) ∧ w'.cell? ⟨W.heap.size, 2, none⟩ = some (.iface u y)) := fun w' hb => by
    have h := heap_below hb (show W3.drew.heap[W.heap.size]? = some _ from hE0)
    exact ⟨by rw [cell_of_heap h]; rfl, by rw [cell_of_heap h]; rfl, by rw [cell_of_heap h]; rfl⟩
  have HP : Hid (∀ w', Below W3.drew.heap.size W3.drew w' → Calls Tryz.prog fp #[y] w' fun r w4 => r = .returned (.agg #[.int .i64 za, .int .i64 zb, .string zq]) ∧ Below w'.heap.size w' w4 ∧ Below W3.drew.heap.size W3.drew w4) := fun w' hb => (hPl w').mono fun r w4 h => ⟨h.1, h.2, hb.trans (h.2.mono hb.size)⟩
  have HA : Hid (∀ w', Below W3.drew.heap.size W3.drew w' → Calls Tryz.prog 121 #[.agg #[.slice p A.length c]] w' fun r w4 => ∃ p5 c5, r = .returned (.slice p5 A.length c5) ∧ OwnA w4 W3.drew.heap.size (.slice p5 A.length c5) A ∧ Below w'.heap.size w' w4 ∧ Below W3.drew.heap.size W3.drew w4) := fun w' hb => by
    have hin := (hR.below hW).below (bd.trans (hb.mono bd.size))
    refine (attributes_any _ A w' (own_rowA hin.own) (own_nil hin.own) hn2).mono ?_
    rintro r w4 ⟨v5, rfl, own5, hb5⟩
    obtain ⟨p5, c5, rfl⟩ := own_slice own5
    exact ⟨p5, c5, rfl, own_weaken own5 hb.size, hb5, hb.trans (hb5.mono hb.size)⟩
  have HY : Hid (∀ w5 p5 c5, Below W3.drew.heap.size W3.drew w5 → OwnA w5 W3.drew.heap.size (.slice p5 A.length c5) A → YieldAt Fence.wide (n - 1) Tryz.prog l #[.agg #[.int .i32 (-1), .string t, .int .i64 za, .int .i64 zb, .string zq, .slice p5 A.length c5]] w5 fun e W' =>
      ∃ bb, e = .returned (.bool bb) ∧ ((∃ xs : List CZ, xs.length = 1 ∧ J xs W') ∨ ∃ pre, Jx pre W')) := fun w5 p5 c5 hb ho => by
    have := hY [] (((-1 : Int), t, (za, zb, zq), p5, A.length, c5), W3.drew.heap.size, w5.heap.size) w5 (hJ _ _ _ h0 (Tr7.of_below (bd.trans (hb.mono bd.size)))) ⟨_, rfl, rfl, rfl, rfl, InA.new ho, Nat.le_trans hW.size bd.size, Nat.le_refl _, fun y hy => by cases hy⟩
    obtain ⟨fn, tm, asg, bo, hy, hR⟩ := this
    exact ⟨fn, tm, asg, bo, hy, hR.mono fun e W' h => h.elim (fun h => ⟨true, h.1, .inl ⟨_, rfl, h.2.1⟩⟩) (fun h => ⟨false, h.1, .inr ⟨_, h.2.1⟩⟩)⟩
  have HN : Hid (2 ≤ n) := hn
  have as1 := as_e_i
  have hmix : Tryz.prog.follows .mixedOrders = true := by kernel_rfl
  have as2 := as_e_e
  clear hY hJ hJx hx hR hW hn2 hn h0 bd bI hE0 hh hPl
  refine callsIn_of_wp Tryz.func120 rfl trivial ?_ rfl
  simp only [Tryz.ntmps120, List.size_toArray, List.length_cons, List.length_nil, Nat.reduceAdd, Nat.reduceSub, Array.replicate_succ, Array.replicate_zero, List.push_toArray, List.append_toArray, List.nil_append, List.cons_append]
  gi_wp2
  rw [← hW3]
  clear hW3 c0 as1 as2
  have b0 : Below W3.drew.heap.size W3.drew W3.drew := Below.refl _ _
  obtain ⟨j0, j1, j2⟩ := HV.out _ b0
  gi_region_with_o (first
    | (go_simp; refine ⟨trivial, (fun _ => Nat.le_trans (by decide) HN.out), (callsIn_wide.2 (HP.out _ ?_)).mono ?_⟩; (· with_reducible assumption); rintro r w4 ⟨rfl, b4', b4⟩; obtain ⟨j0, j1, j2⟩ := HV.out _ b4; (try have own6 := owns_below own5 b4'))
    | (go_simp; refine ⟨trivial, (fun _ => Nat.le_trans (by decide) HN.out), (callsIn_wide.2 (HA.out _ ?_)).mono ?_⟩; (· with_reducible assumption); rintro r w5 ⟨p5, c5, rfl, own5, b5', b5⟩; obtain ⟨j0, j1, j2⟩ := HV.out _ b5)
    | (obtain ⟨fn, tm, asg, bo, hy, hR⟩ := HY.out _ p5 c5 (by with_reducible assumption) (by with_reducible first | exact own6 | exact own5); go_simp; refine ⟨(fun _ => Nat.le_trans (by decide) HN.out), hR.mono ?_⟩; rintro e' W4 ⟨bb, rfl, hq⟩))
  all_goals
    clear HV HP HA HY
    gi_wp2
    go_end0
    exact ⟨⟨_, rfl⟩, hq⟩
end Go.Proofs.YthfpmhnnjjikcabGreatDoor

/- What cellsOf's function hands over, for whatever loop body: an insert's cells; cells.Each. -/
namespace Go.Proofs.YthfpmhnnjjikcabGreatDoor
open Go Go.RowKit Go.Lib Go.Shelf
set_option linter.unusedVariables false
set_option maxHeartbeats 1000000 in
theorem one9_seq (e : Op5) (s : Value) (w0 : World) (x lo hi : Nat) (hO : Ins e) (hx : w0.cell? ⟨x, 0, none⟩ = some (pieceQ e s)) (hR : InA w0 lo hi s e.A) (hh : hi ≤ w0.heap.size) (hn2 : e.A.length ≤ 2097152) (n : Nat) (hn : 2 ≤ n) :
    SeqG9 Fence.wide n Tryz.prog 120 #[.pointer (some ⟨x, 0, none⟩)] encC9 (fun _ => False) (GC9 (cellsOf e) w0.heap.size) (fun _ => KC9) (fun xs => xs.length = (cellsOf e).length) w0 := by
  rcases hO.kind with ⟨h, _⟩ | ⟨h, _⟩
  · have hc : cellsOf e = mkC e.A (scs e.t.data.toList) := by unfold cellsOf; rw [if_pos h]
    have := text9_seq e s w0 x lo hi h hx hR hh hO.utf hn2 n hn
    rw [hc, mkC_len]
    exact this
  · have hc : cellsOf e = [(-1, e.t, e.v, e.A)] := by unfold cellsOf; rw [if_neg (by omega)]
    rw [hc]
    obtain ⟨p, c, rfl⟩ := own_slice hR.own
    rw [pieceQ_2 h] at hx
    obtain ⟨k, t, ⟨za, zb, zq⟩, cc, A⟩ := e
    simp only at hx hR hn2 ⊢
    rcases good_cases hO.val with ⟨h0, h1, h2⟩ | ⟨h0, h1, h2⟩ | ⟨h0, h1, h2⟩ | ⟨h0, h2⟩ | ⟨h0, h1, _⟩
    · simp only at h0 h1 h2; subst h0; subst h1; subst h2
      exact emb9_seq 236 (.agg #[]) 213 0 0 ⟨#[]⟩ (fun W => by kernel_rfl) (fun W => by kernel_rfl) (fun W => plain_n W) t A p c w0 x lo hi hx hR hh hn2 n hn
    · simp only at h0 h1 h2; subst h0; subst h1; subst h2
      exact emb9_seq 232 (.bool false) 207 1 0 ⟨#[]⟩ (fun W => by kernel_rfl) (fun W => by kernel_rfl) (fun W => plain_f false W) t A p c w0 x lo hi hx hR hh hn2 n hn
    · simp only at h0 h1 h2; subst h0; subst h1; subst h2
      exact emb9_seq 232 (.bool true) 207 1 1 ⟨#[]⟩ (fun W => by kernel_rfl) (fun W => by kernel_rfl) (fun W => plain_f true W) t A p c w0 x lo hi hx hR hh hn2 n hn
    · simp only at h0 h2; subst h0; subst h2
      exact emb9_seq 233 (.int .i64 zb) 209 2 zb ⟨#[]⟩ (fun W => by kernel_rfl) (fun W => by kernel_rfl) (fun W => plain_d zb W) t A p c w0 x lo hi hx hR hh hn2 n hn
    · simp only at h0 h1; subst h0; subst h1
      exact emb9_seq 234 (.string zq) 211 3 0 zq (fun W => by kernel_rfl) (fun W => by kernel_rfl) (fun W => plain_t zq W) t A p c w0 x lo hi hx hR hh hn2 n hn
theorem eachC_call {B1 B2 : Nat} (v : Value) (E : List Op5) (w : World) (h : DelV w B1 B2 v E) :
    Calls Tryz.prog 50 #[v] w fun r w' => ∃ x, r = .returned (.func (.func 88) #[] #[.pointer (some ⟨x, 0, none⟩)]) ∧ BoxD w' x B1 B2 E ∧ w.heap.size ≤ x ∧ Below w.heap.size w w' := by
  have bA : Below w.heap.size w (w.alloc (.cells #[v] 25)) := (Below.refl _ _).alloc (Nat.le_refl _) _
  have HD : Hid (DelV (w.alloc (.cells #[v] 25)) B1 B2 v E) := h.below bA
  obtain ⟨q, pv, PL, rfl, _⟩ := h
  go_enter Tryz.func50, Tryz.ntmps50
  go_wp2
  go_ret
  exact ⟨_, rfl, ⟨_, by simp, HD.out⟩, Nat.le_refl _, bA⟩
end Go.Proofs.YthfpmhnnjjikcabGreatDoor

/- measure: gathered: pieces of deltas put into one. -/
namespace Go.Proofs.YthfpmhnnjjikcabGreatDoor
open Go Go.RowKit Go.Lib
set_option linter.unusedVariables false
/-- Do the lengths of all together keep the bound? -/
def Fits8 (E : List Op5) : Prop := sumB E ≤ 1099511627776 ∧ sumR E ≤ 1099511627776
theorem fits_front {E F : List Op5} (hw : ∀ o ∈ F, Wel o) (h : Fits8 (E ++ F)) : Fits8 E := by
  have := sums_nn hw
  unfold Fits8 at h ⊢
  rw [sumB_append, sumR_append] at h
  omega
set_option maxHeartbeats 4000000 in
set_option maxRecDepth 100000 in
theorem gath8_any {I : List Nat} {a : Nat → Addr} {B1 B2 : Nat} (v : Value) (PL : List Value) (E : List Op5) (w : World) (hI : ∀ i ∈ IxO, i ∈ I) (hS : Std I a w) (hv : OwnI w B1 v PL) (hp : PieD w B2 PL E) (hg : ∀ o ∈ E, opE o = 0) (hF : ∀ o ∈ E, FitA o) (hl : E.length ≤ 2097152) (ht : txtS E ≤ 8388608) :
    Calls Tryz.prog 94 #[v] w fun r w' => ∃ dv er, r = .returned (.tuple #[dv, er]) ∧ (Fits8 E → er = .nilIface ∧ DelV w' w.heap.size w.heap.size dv (canonL E)) ∧ (¬ Fits8 E → er = errV a 10 ∧ dv = .pointer none) ∧ Below w.heap.size w w' := by
  obtain ⟨p, cap, rfl, hrd⟩ := del_read (q := 0) hv hp
  have cN := new_any (B := w.heap.size) (D := fun k => k < w.heap.size) w (Nat.le_refl _) (by omega)
  have HR : Hid (∀ k, k < E.length → ∃ ga e s, p = some ⟨ga, 0, none⟩ ∧ E[k]? = some e ∧ w.cell? ⟨ga, k, none⟩ = some (pieceQ e s) ∧ OwnA w B2 s e.A) := hrd
  have HF : Hid ((∀ o ∈ E, opE o = 0) ∧ (∀ o ∈ E, FitA o) ∧ txtS E ≤ 8388608 ∧ ∀ o ∈ E, Wel o) := ⟨hg, hF, ht, fun o ho => wel_of (hg o ho)⟩
  have hfit := fitA_all hF ht
  have HK : Hid (∀ W (k : Nat) e v5, Below w.heap.size w W → E[k]? = some e → RN W v5 e.A → (∃ p c, v5 = .slice p e.A.length c) → ∀ g F, Gath W w.heap.size (fun k => k < w.heap.size) g F → (OkE F → (1099511627776 < sumB F + baseO e ∨ 1099511627776 < sumR F + resO e) → Calls Tryz.prog 73 #[.pointer (some ⟨g, 0, none⟩), opV e v5] W fun r w' => r = .returned (errV a 10) ∧ Below W.heap.size W w') ∧ (OkE (F ++ [e]) → Calls Tryz.prog 73 #[.pointer (some ⟨g, 0, none⟩), opV e v5] W fun r w' => r = .returned .nilIface ∧ Gath w' w.heap.size (fun k => k < w.heap.size) g (F ++ [e]) ∧ FrB w.heap.size (fun k => k < w.heap.size) W w')) := fun W k e v5 hW he hR ⟨p, c, e5⟩ g F hG => by
    subst e5
    have fe := hfit e (List.mem_of_getElem? he)
    exact ⟨fun h0 hov => pushB_long e _ _ _ W hI (hS.below hW) hR fe (hg e (List.mem_of_getElem? he)) hG h0 hov, fun hO => pushB_ok e _ _ _ W hI (hS.below hW) hR fe hG hO (fun k hk => Nat.lt_of_lt_of_le hk hW.size)⟩
  obtain ⟨n, hn⟩ : ∃ n, E.length = n := ⟨_, rfl⟩
  have HN : Hid (E.length = n) := hn
  obtain ⟨g, hgs⟩ : ∃ g, w.heap.size = g := ⟨_, rfl⟩
  have HGS : Hid (w.heap.size = g) := hgs
  have cN' : Calls Tryz.prog 43 #[] w fun e w' => e = .returned (.pointer (some ⟨g, 0, none⟩)) ∧ Gath w' w.heap.size (fun k => k < w.heap.size) g [] ∧ Below w.heap.size w w' := by rw [← hgs]; exact cN
  rw [hn] at hl HR ⊢
  clear hn hv hp hg hF hS ht cN hgs hrd hfit
  go_enter Tryz.func94, Tryz.ntmps94
  go_wp2_with fail
  refine cN'.mono ?_; rintro r w1 ⟨rfl, hg1, hb1⟩
  have HG1 : Hid (Gath w1 w.heap.size (fun k => k < w.heap.size) g []) := hg1
  clear cN' hg1
  go_wp2
  go_loopw [11] (fun i wr => ∃ (k : Nat), k ≤ n ∧ i = .int .i64 k ∧ Hid (Gath wr w.heap.size (fun k => k < w.heap.size) g (E.take k)) ∧ Hid (OkE (E.take k)) ∧ Below w.heap.size w wr) (fun i _ => n - (RowKit.intOf i).toNat)
  case atStart => exact ⟨0, Nat.zero_le _, rfl, by rw [List.take_zero]; exact HG1, by rw [List.take_zero]; exact OkE.nil, hb1⟩
  case round =>
    clear HG1 hb1
    obtain ⟨k, hk, rfl, HG, HO, hbw⟩ := hrel
    by_cases hlt : k < n
    · have hltI : (k : Int) < n := by omega
      obtain ⟨ga, e, s, rfl, he, hc, hs⟩ := HR.out k hlt
      have c2 := (hbw.cell (lt_of_cell hc)).trans hc
      have hR2 := own_RN (owns_below hs hbw)
      have hmem := List.mem_of_getElem? he
      have hge := HF.out.1 e hmem
      have hA2 : e.A.length ≤ 2097152 := by have := (HF.out.2.1 e hmem).n; omega
      obtain ⟨u, x, hux⟩ := pieceQ_if e s
      have HU : Hid (pieceQ e s = .iface u x) := hux
      have HT : Hid (E.take (k + 1) = E.take k ++ [e] ∧ E[k]? = some e) := by refine ⟨?_, he⟩; rw [List.take_add_one, he]; rfl
      rw [hux] at c2
      by_cases hov : sumB (E.take k) + baseO e ≤ 1099511627776 ∧ sumR (E.take k) + resO e ≤ 1099511627776
      · have HO2 : Hid (OkE (E.take (k + 1))) := by
          show OkE _
          have htk := txtS_take E (k + 1)
          rw [HT.out.1] at htk ⊢
          exact okE_snoc HO.out (refE_zero.2 ⟨hge, hov⟩) (HF.out.2.1 e hmem) (Nat.le_trans htk HF.out.2.2.1) (by simp; omega)
        have HP : Hid (∀ v5 w5, OwnA w5 wr.heap.size v5 e.A → Below wr.heap.size wr w5 → Calls Tryz.prog 73 #[.pointer (some ⟨g, 0, none⟩), opV e v5] w5 fun r w' => r = .returned .nilIface ∧ Hid (Gath w' w.heap.size (fun k => k < w.heap.size) g (E.take (k + 1))) ∧ Below w.heap.size w w') := fun v5 w5 o5 b5 => by
          have b := hbw.trans (b5.mono hbw.size)
          have := (HK.out w5 k e v5 b HT.out.2 (own_RN o5) (own_slice o5) g (E.take k) (BldE.below HG.out b5)).2 (by rw [← HT.out.1]; exact HO2.out)
          rw [← HT.out.1] at this
          exact this.mono fun r w' ⟨h1, h2, h3⟩ => ⟨h1, h2, b.trans h3.below⟩
        clear HG HO he hc hs hux HT hov hmem hbw
        go_wp2_with (refine wpList_opP rfl (.tmp 16) rfl e s HU.out.symm hge hR2 hA2 ?_; intro v5 w5 own5 hb5)
        refine (HP.out v5 w5 own5 hb5).mono ?_; rintro r w6 ⟨rfl, HG6, b6⟩
        clear HP own5 hb5 c2
        go_wp2
        go_roundw
        case rel => exact ⟨k + 1, by omega, by go_num, HG6, HO2, b6⟩
        case measure => simp [RowKit.intOf]; omega
      · have HB : Hid (¬ Fits8 E) := fun h => hov (by
          have h2 := fits_front (E := E.take (k + 1)) (F := E.drop (k + 1)) (fun o ho => HF.out.2.2.2 o (List.mem_of_mem_drop ho)) (by rw [List.take_append_drop]; exact h)
          unfold Fits8 at h2
          rw [HT.out.1, sumB_append, sumB_one, sumR_append, sumR_one] at h2
          exact h2)
        have HP : Hid (∀ v5 w5, OwnA w5 wr.heap.size v5 e.A → Below wr.heap.size wr w5 → Calls Tryz.prog 73 #[.pointer (some ⟨g, 0, none⟩), opV e v5] w5 fun r w' => r = .returned (errV a 10) ∧ Below w.heap.size w w') := fun v5 w5 o5 b5 => by
          have b := hbw.trans (b5.mono hbw.size)
          have := (HK.out w5 k e v5 b HT.out.2 (own_RN o5) (own_slice o5) g (E.take k) (BldE.below HG.out b5)).1 HO.out (by omega)
          exact this.mono fun r w' ⟨h1, h2⟩ => ⟨h1, b.trans (h2.mono b.size)⟩
        clear HG HO he hc hs hux HT hov hmem hbw
        go_wp2_with (refine wpList_opP rfl (.tmp 16) rfl e s HU.out.symm hge hR2 hA2 ?_; intro v5 w5 own5 hb5)
        refine (HP.out v5 w5 own5 hb5).mono ?_; rintro r w6 ⟨rfl, b6⟩
        clear HP own5 hb5 c2
        go_wp2
        go_ret2
        exact ⟨.pointer none, errV a 10, rfl, fun h => absurd h HB.out, fun _ => ⟨rfl, rfl⟩, b6⟩
    · have hltI : ¬ (k : Int) < n := by omega
      have hE : E.take k = E := List.take_of_length_le (by rw [HN.out]; omega)
      rw [hE] at HG HO
      have HB : Hid (Fits8 E) := ⟨HO.out.base, HO.out.res⟩
      have cD := delta_any wr HG.out HO.out
      clear hE HG HO
      go_wp2_with fail
      refine cD.mono ?_; rintro r w5 ⟨dv, rfl, h5, hb5⟩
      have H5 : Hid (DelV w5 w.heap.size w.heap.size dv (canonL E)) := by
        obtain ⟨q, pv, PL, x1, x2, x3, x4, x5⟩ := h5
        exact ⟨q, pv, PL, x1, Nat.le_trans hbw.size x2, x3, own_weaken x4 hbw.size, x5⟩
      have b5 := hbw.trans (hb5.mono hbw.size)
      clear cD h5 hb5
      go_wp2
      go_ret2
      exact ⟨dv, .nilIface, rfl, fun _ => ⟨rfl, H5.out⟩, fun h => absurd HB.out h, b5⟩
end Go.Proofs.YthfpmhnnjjikcabGreatDoor

/- One list behind another, in canonical form, by units: sums, brackets, what a cut takes. -/
namespace Go.Proofs.YthfpmhnnjjikcabGreatDoor
open Go Go.RowKit Go.Lib
set_option linter.unusedVariables false
/-- A canonical list. -/
structure CanO (E : List Op5) : Prop where
  wel : ∀ o ∈ E, Wel o
  chain : chainB E = true
  last : lastP E = true
theorem CanO.of {E : List Op5} (h : ∀ o ∈ E, Wel o) : CanO (canonL E) := by
  obtain ⟨h1, h2, h3, _⟩ := canon_spec h
  exact ⟨h1, h2, h3⟩
theorem CanO.inj {E F : List Op5} (hE : CanO E) (hF : CanO F) (h : units E = units F) : E = F := units_inj hE.wel hF.wel hE.chain hF.chain h
def insO8 (o : Op5) : Int := if o.k = 1 ∨ o.k = 2 then len5 o else 0
def dlO8 (o : Op5) : Int := if o.k = 4 then len5 o else 0
def kpO8 (o : Op5) : Int := if o.k = 3 then len5 o else 0
def sumI8 (E : List Op5) : Int := (E.map insO8).sum
def sumD8 (E : List Op5) : Int := (E.map dlO8).sum
def sumK8 (E : List Op5) : Int := (E.map kpO8).sum
theorem three_sums {o : Op5} (h : Wel o) : baseO o = kpO8 o + dlO8 o ∧ resO o = kpO8 o + insO8 o ∧ 0 ≤ kpO8 o ∧ 0 ≤ dlO8 o ∧ 0 ≤ insO8 o := by
  have h1 := base_nn h
  have h2 := res_nn h
  have hl := len5_units h
  unfold baseO resO kpO8 dlO8 insO8 at *
  rcases h.kinds with hk | hk | hk | hk
  · simp only [hk] at *; simp at *; omega
  · simp only [hk] at *; simp at *; omega
  · simp only [hk] at *; simp at *; omega
  · simp only [hk] at *; simp at *; omega
theorem sums_three : ∀ {E : List Op5}, (∀ o ∈ E, Wel o) → sumB E = sumK8 E + sumD8 E ∧ sumR E = sumK8 E + sumI8 E ∧ 0 ≤ sumK8 E ∧ 0 ≤ sumD8 E ∧ 0 ≤ sumI8 E
  | [], _ => by decide
  | o :: r, h => by
    have ih := sums_three fun x hx => h x (List.mem_cons_of_mem _ hx)
    have h1 := three_sums (h o (List.mem_cons_self ..))
    have e : sumB (o :: r) = baseO o + sumB r ∧ sumR (o :: r) = resO o + sumR r ∧ sumK8 (o :: r) = kpO8 o + sumK8 r ∧ sumD8 (o :: r) = dlO8 o + sumD8 r ∧ sumI8 (o :: r) = insO8 o + sumI8 r := ⟨rfl, rfl, rfl, rfl, rfl⟩
    omega
end Go.Proofs.YthfpmhnnjjikcabGreatDoor

/- measure: count: how many cells a delta keeps, makes and takes away; Base, Result, Inserted, Deleted, Document. -/
namespace Go.Proofs.YthfpmhnnjjikcabGreatDoor
open Go Go.RowKit Go.Lib Go.Shelf
set_option linter.unusedVariables false
attribute [local go_sem] Oper.semAt_some
abbrev cnt8 (k i d : Int) : Array Value := #[.int .i64 k, .int .i64 i, .int .i64 d]
theorem tr_below8 {T : TypeId → Prop} {n B : Nat} {w A A' : World} (h : Below n w A) (hn : n ≤ w.heap.size) (hB : n ≤ B) (k : Tr7 T B A A') : Below n w A' :=
  ⟨k.os.trans h.os, k.tape.trans h.tape, k.output.trans h.output, Nat.le_trans h.size k.size, fun j hj => by
    have hl : j < A.heap.size := by have := h.size; omega
    rw [k.kept j A.heap[j] (Array.getElem?_eq_getElem hl) (.inl (by omega)), ← h.block j hj, Array.getElem?_eq_getElem hl]⟩
theorem count_leave (n0 W : World) (D r : Nat) (tmps : Array Value) (k i d : Int) (hp : tmps[2]? = some (.pointer (some ⟨r, 0, none⟩))) (hr : W.heap[r]? = some (.cells (cnt8 k i d) 144 (0, 0)))
    (hK : W.heap[D]? = some (.deferred (some []))) (h1 : n0.heap.size ≤ D) (hb : Below n0.heap.size n0 W) :
    bodyPostM Fence.wide 5 Tryz.prog Tryz.f86 (fun e w' => e = .returned (.agg (cnt8 k i d)) ∧ Below n0.heap.size n0 w') Exit.ret
      { tmps := tmps, defers := [{ target := .collected D, args := #[] }] } W := by
  have hne : r ≠ D := fun e => by subst e; rw [hr] at hK; cases hK
  have hr' : (W.putObj D (.deferred none)).heap[r]? = some (.cells (cnt8 k i d) 144 (0, 0)) := (World.putObj_heap_other hne).trans hr
  have c0 : (W.putObj D (.deferred none)).cell? ⟨r, 0, none⟩ = some (.int .i64 k) := by rw [cell_of_heap hr']; rfl
  have c1 : (W.putObj D (.deferred none)).cell? ⟨r, 1, none⟩ = some (.int .i64 i) := by rw [cell_of_heap hr']; rfl
  have c2 : (W.putObj D (.deferred none)).cell? ⟨r, 2, none⟩ = some (.int .i64 d) := by rw [cell_of_heap hr']; rfl
  refine ⟨by simp, .inl ⟨_, _, rfl, run_takeDeferred hK, ?_⟩⟩
  refine ⟨.agg (cnt8 k i d), ?_, rfl, ?_⟩
  · simp [results, Tryz.results86, go_sem, hp, c0, c1, c2]
  · exact hb.trans (belowK_b (w := n0) (Nat.le_refl _) _ D _ _ h1 hK rfl rfl)
theorem KZ.set8 {pre : List PZ} {x : PZ} {W W' : World} {N j : Nat} {v : Array Value} (b : Below W.heap.size W W') (h : W.heap[N]? = some (.cells v 144 (0, 0))) (u : Value) : KZ pre x W (W'.setCell ⟨N, j, none⟩ u) := by
  have key : ∀ (k : Nat) (o : Obj), W.heap[k]? = some o → k ≠ N → (W'.setCell ⟨N, j, none⟩ u).heap[k]? = some o := fun k o hk n2 => by
    rw [Below.heap_setCell _ _ _ _ (by exact n2), b.block k (Array.getElem?_eq_some_iff.1 hk).1, hk]
  exact ⟨by simp only [World.setCell, Array.size_modify]; exact b.size, fun k cs hk => key k _ hk (fun e => by subst e; rw [h] at hk; cases hk), fun k cs hk _ => key k _ hk (fun e => by subst e; rw [h] at hk; cases hk)⟩
theorem set3_heap8 {W : World} {r : Nat} (h : W.heap[r]? = some (.cells (cnt8 0 0 0) 144 (0, 0))) (a b c : Value) :
    (((W.setCell ⟨r, 0, none⟩ a).setCell ⟨r, 1, none⟩ b).setCell ⟨r, 2, none⟩ c).heap[r]? = some (.cells #[a, b, c] 144 (0, 0)) ∧ (∀ (k : Nat) (o : Obj), W.heap[k]? = some o → k ≠ r → (((W.setCell ⟨r, 0, none⟩ a).setCell ⟨r, 1, none⟩ b).setCell ⟨r, 2, none⟩ c).heap[k]? = some o) ∧ Below r W (((W.setCell ⟨r, 0, none⟩ a).setCell ⟨r, 1, none⟩ b).setCell ⟨r, 2, none⟩ c) := by
  have h1 := heap_set_at W r 0 a _ _ _ h
  have h2 := heap_set_at _ r 1 b _ _ _ h1
  have h3 := heap_set_at _ r 2 c _ _ _ h2
  refine ⟨h3, fun k o hk hn => ?_, (((Below.refl _ _).setCell (p := ⟨r, 0, none⟩) (Nat.le_refl _) _).setCell (p := ⟨r, 1, none⟩) (Nat.le_refl _) _).setCell (p := ⟨r, 2, none⟩) (Nat.le_refl _) _⟩
  rw [Below.heap_setCell _ _ _ _ (by exact hn), Below.heap_setCell _ _ _ _ (by exact hn), Below.heap_setCell _ _ _ _ (by exact hn), hk]
/-- What count has behind some pieces. -/
def CI8 (E : List Op5) (w : World) (r N : Nat) (pre : List PZ) (W : World) : Prop := W.heap[N]? = some (.cells (cnt8 (sumK8 (E.take pre.length)) (sumI8 (E.take pre.length)) (sumD8 (E.take pre.length))) 144 (0, 0)) ∧ W.heap[r]? = some (.cells (cnt8 0 0 0) 144 (0, 0)) ∧ Below w.heap.size w W
theorem sumK8_append (E F : List Op5) : sumK8 (E ++ F) = sumK8 E + sumK8 F := by unfold sumK8; rw [List.map_append, List.sum_append]
theorem sumI8_append (E F : List Op5) : sumI8 (E ++ F) = sumI8 E + sumI8 F := by unfold sumI8; rw [List.map_append, List.sum_append]
theorem sumD8_append (E F : List Op5) : sumD8 (E ++ F) = sumD8 E + sumD8 F := by unfold sumD8; rw [List.map_append, List.sum_append]
theorem others8 {w w' : World} (h : Below w.heap.size w w') : KeepsOthers w w' :=
  ⟨h.size, fun k o hk _ => (h.block k (Array.getElem?_eq_some_iff.1 hk).1).trans hk⟩
/-- Behind a round. -/
theorem ci_step {E : List Op5} {w W W' : World} {r N B j : Nat} {pre : List PZ} {x : PZ} {e : Op5} {u : Int} (hI : CI8 E w r N pre W) (he : E[pre.length]? = some e) (hN : w.heap.size ≤ N) (hrN : r ≠ N) (b : Below W.heap.size W W')
    (hu : (cnt8 (sumK8 (E.take pre.length)) (sumI8 (E.take pre.length)) (sumD8 (E.take pre.length))).setIfInBounds j (.int .i64 u) = cnt8 (sumK8 (E.take pre.length) + kpO8 e) (sumI8 (E.take pre.length) + insO8 e) (sumD8 (E.take pre.length) + dlO8 e)) :
    KeepsFrom B W (W'.setCell ⟨N, j, none⟩ (.int .i64 u)) ∧ KZ pre x W (W'.setCell ⟨N, j, none⟩ (.int .i64 u)) ∧ CI8 E w r N (pre ++ [x]) (W'.setCell ⟨N, j, none⟩ (.int .i64 u)) := by
  obtain ⟨h1, h2, h3⟩ := hI
  have h1' := heap_below b h1
  have hT : E.take (pre ++ [x]).length = E.take pre.length ++ [e] := by rw [List.length_append, List.length_singleton, List.take_add_one, he]; rfl
  refine ⟨((others8 b).trans (KeepsOthers.setCell _ _ _)).from _, KZ.set8 b h1 _, ?_, ?_, (h3.trans (b.mono h3.size)).setCell (p := ⟨N, j, none⟩) hN _⟩
  · rw [heap_set_at W' _ j _ _ _ _ h1', hT, sumK8_append, sumI8_append, sumD8_append]
    have e1 : sumK8 [e] = kpO8 e := by simp [sumK8]
    have e2 : sumI8 [e] = insO8 e := by simp [sumI8]
    have e3 : sumD8 [e] = dlO8 e := by simp [sumD8]
    rw [e1, e2, e3, hu]
  · rw [Below.heap_setCell _ _ _ _ (by exact hrN)]
    exact heap_below b h2
theorem fits_pre8 {E : List Op5} (hw : ∀ o ∈ E, Wel o) (hf : sumB E ≤ 1099511627776 ∧ sumR E ≤ 1099511627776) (k : Nat) : (0 ≤ sumK8 (E.take k) ∧ sumK8 (E.take k) ≤ 1099511627776) ∧ (0 ≤ sumI8 (E.take k) ∧ sumI8 (E.take k) ≤ 1099511627776) ∧ 0 ≤ sumD8 (E.take k) ∧ sumD8 (E.take k) ≤ 1099511627776 := by
  have h1 := sums_three (E := E.take k) fun o ho => hw o (List.mem_of_mem_take ho)
  have h2 := sums_three (E := E.drop k) fun o ho => hw o (List.mem_of_mem_drop ho)
  have h3 := sums_three hw
  have e1 := sumK8_append (E.take k) (E.drop k)
  have e2 := sumI8_append (E.take k) (E.drop k)
  have e3 := sumD8_append (E.take k) (E.drop k)
  rw [List.take_append_drop] at e1 e2 e3
  omega
theorem len_pre8 {E : List Op5} (hg : ∀ o ∈ E, opE o = 0) (hf : sumB E ≤ 1099511627776 ∧ sumR E ≤ 1099511627776) {e : Op5} (he : e ∈ E) : 1 ≤ len5 e ∧ len5 e ≤ 1099511627776 := by
  have hw : ∀ o ∈ E, Wel o := fun o ho => wel_of (hg o ho)
  obtain ⟨h1, h2⟩ := mem_sums hw he
  have hp := len5_pos (hg e he)
  refine ⟨hp, ?_⟩
  unfold baseO resO at *
  rcases (hw e he).kinds with hk | hk | hk | hk <;> simp [hk] at h1 h2 <;> omega
set_option maxHeartbeats 4000000 in
set_option maxRecDepth 100000 in
theorem count8_any {B1 B2 : Nat} (v : Value) (E : List Op5) (w : World) (h : DelV w B1 B2 v E) (hg : ∀ o ∈ E, opE o = 0) (hA : ∀ o ∈ E, o.A.length ≤ 2097152) (hl : E.length ≤ 4194304) (hf : sumB E ≤ 1099511627776 ∧ sumR E ≤ 1099511627776) :
    Calls Tryz.prog 86 #[v] w fun e w' => e = .returned (.agg (cnt8 (sumK8 E) (sumI8 E) (sumD8 E))) ∧ Below w.heap.size w w' := by
  have b1 : Below w.heap.size w ((w.alloc (.cells (cnt8 0 0 0) 144)).alloc (.cells (cnt8 0 0 0) 144)) := ((Below.refl _ _).alloc (Nat.le_refl _) _).alloc (by simp) _
  have n1 : ((w.alloc (.cells (cnt8 0 0 0) 144)).alloc (.cells (cnt8 0 0 0) 144)).heap[w.heap.size + 1]? = some (.cells (cnt8 0 0 0) 144 (0, 0)) := by
    have := heap_alloc_new (w.alloc (.cells (cnt8 0 0 0) 144)) (.cells (cnt8 0 0 0) 144)
    rwa [World.size_alloc] at this
  have n2 : ((w.alloc (.cells (cnt8 0 0 0) 144)).alloc (.cells (cnt8 0 0 0) 144)).heap[w.heap.size]? = some (.cells (cnt8 0 0 0) 144 (0, 0)) :=
    heap_below ((Below.refl _ _).alloc (Nat.le_refl _) _) (heap_alloc_new w _)
  have cE := each7_call v E _ (h.below b1)
  have hw : ∀ o ∈ E, Wel o := fun o ho => wel_of (hg o ho)
  have HE : Hid ((∀ o ∈ E, opE o = 0) ∧ (∀ o ∈ E, o.A.length ≤ 2097152) ∧ E.length ≤ 4194304 ∧ (sumB E ≤ 1099511627776 ∧ sumR E ≤ 1099511627776) ∧ ∀ o ∈ E, Wel o) := ⟨hg, hA, hl, hf, hw⟩
  have H1 : Hid (CI8 E w w.heap.size (w.heap.size + 1) [] ((w.alloc (.cells (cnt8 0 0 0) 144)).alloc (.cells (cnt8 0 0 0) 144))) := ⟨n1, n2, b1⟩
  obtain ⟨q, pv, PL, rfl, _⟩ := h
  clear hg hA hl hf hw b1 n1 n2
  refine (callsIn_wide (n := 5)).1 ?_
  refine callsIn_of_wp_marks Tryz.func86 rfl trivial ?_ rfl
  simp only [Tryz.ntmps86, List.size_toArray, List.length_cons, List.length_nil, Nat.reduceAdd, Nat.reduceSub, Array.replicate_succ, Array.replicate_zero, List.push_toArray, List.append_toArray, List.nil_append, List.cons_append]
  rw [wpIn_wide]
  go_wp2_with fail
  refine cE.mono ?_; rintro r w2 ⟨x, rfl, hx, -, b2⟩
  have H2 : Hid (CI8 E w w.heap.size (w.heap.size + 1) [] w2 ∧ BoxD w2 x B1 B2 E) := ⟨⟨heap_below b2 H1.out.1, heap_below b2 H1.out.2.1, H1.out.2.2.trans (b2.mono H1.out.2.2.size)⟩, hx⟩
  have hsz : w.heap.size + 1 < w2.heap.size := (Array.getElem?_eq_some_iff.1 H2.out.1.1).1
  clear cE hx b2 H1
  go_wp2_with fail
  refine (wpIn_wide (n := 5)).1 ?_
  refine wpIn_rangeFunc_G (encs := encZ) rfl (by decide) (gf := 118) (lb := #[.pointer (some ⟨x, 0, none⟩)]) rfl trivial (enters_of Tryz.func118 (by kernel_rfl) rfl)
    (each7_seq E w2 x B1 B2 H2.out.2 HE.out.1 HE.out.2.1 HE.out.2.2.1 4 (by decide)) (Below.refl _ _) (fun _ => rfl) (fun pre x A A' h k => h.bk k) (fun pre x A A' B B' k1 h k2 => KZ.bk k1 h k2)
    (CI8 E w w.heap.size (w.heap.size + 1)) (fun _ _ _ => False)
    (fun s A A' h k => ⟨k.kept _ _ h.1 (.inl hsz), k.kept _ _ h.2.1 (.inl (by omega)), tr_below8 h.2.2 (Nat.le_refl _) (by omega) k⟩) (fun _ _ _ _ h _ => h) H2.out.1 ?a1 ?assign ?body ?done ?stop
  case assign =>
    intro l x W K hK
    gi_wp2
    exact hK
  case body =>
    rintro l pre x W hI ⟨e, s', he, hx, _⟩
    obtain ⟨x1, xlo, xhi⟩ := x
    simp only at hx
    subst hx
    have HI : Hid (CI8 E w w.heap.size (w.heap.size + 1) pre W ∧ E[pre.length]? = some e) := ⟨hI, he⟩
    have hge := HE.out.1 e (List.mem_of_getElem? he)
    obtain ⟨K, hK⟩ : ∃ x, sumK8 (E.take pre.length) = x := ⟨_, rfl⟩
    obtain ⟨I, hI'⟩ : ∃ x, sumI8 (E.take pre.length) = x := ⟨_, rfl⟩
    obtain ⟨D, hD⟩ : ∃ x, sumD8 (E.take pre.length) = x := ⟨_, rfl⟩
    have hc := HI.out.1.1
    rw [hK, hI', hD] at hc
    have c0 : W.cell? ⟨w.heap.size + 1, 0, none⟩ = some (.int .i64 K) := by rw [cell_of_heap hc]; rfl
    have c1 : W.cell? ⟨w.heap.size + 1, 1, none⟩ = some (.int .i64 I) := by rw [cell_of_heap hc]; rfl
    have c2 : W.cell? ⟨w.heap.size + 1, 2, none⟩ = some (.int .i64 D) := by rw [cell_of_heap hc]; rfl
    have HC : Hid (∀ W', Below W.heap.size W W' → (W'.cell? ⟨w.heap.size + 1, 0, none⟩ = some (.int .i64 K) ∧ W'.cell? ⟨w.heap.size + 1, 1, none⟩ = some (.int .i64 I) ∧ W'.cell? ⟨w.heap.size + 1, 2, none⟩ = some (.int .i64 D)) ∧ W'.frozen? ⟨w.heap.size + 1, 0, none⟩ = false ∧ W'.frozen? ⟨w.heap.size + 1, 1, none⟩ = false ∧ W'.frozen? ⟨w.heap.size + 1, 2, none⟩ = false) := fun W' hb => ⟨⟨(hb.cell (lt_of_cell c0)).trans c0, (hb.cell (lt_of_cell c1)).trans c1, (hb.cell (lt_of_cell c2)).trans c2⟩, frozen_of_heap (heap_below hb hc) 0, frozen_of_heap (heap_below hb hc) 1, frozen_of_heap (heap_below hb hc) 2⟩
    have bd : Below W.heap.size W W.drew := (Below.refl _ _).drew
    have md := HC.out _ bd
    obtain ⟨L, hL⟩ : ∃ x, len5 e = x := ⟨_, rfl⟩
    have hr : ((0 ≤ K ∧ K ≤ 1099511627776) ∧ (0 ≤ I ∧ I ≤ 1099511627776) ∧ (0 ≤ D ∧ D ≤ 1099511627776)) ∧ 1 ≤ L ∧ L ≤ 1099511627776 := by
      have h1 := fits_pre8 HE.out.2.2.2.2 HE.out.2.2.2.1 pre.length
      have h2 := len_pre8 HE.out.1 HE.out.2.2.2.1 (List.mem_of_getElem? he)
      rw [hK, hI', hD] at h1
      rw [hL] at h2
      exact ⟨h1, h2⟩
    replace hK : Hid (sumK8 (E.take pre.length) = K ∧ sumI8 (E.take pre.length) = I ∧ sumD8 (E.take pre.length) = D ∧ len5 e = L) := ⟨hK, hI', hD, hL⟩
    clear hI he hc c0 c1 c2 hI' hD
    rcases kinds_of hge with hk | hk | hk | hk
    · have hu : Hid (kpO8 e = 0 ∧ insO8 e = len5 e ∧ dlO8 e = 0) := by show _ ∧ _ ∧ _; unfold kpO8 dlO8 insO8; simp [hk]
      have hl := (len5_1 hk).symm.trans hL
      rw [pieceQ_1 hk]
      have a0 := as_i_r
      have a1 := as_i_d
      rw [hl]
      have hz : IntKind.i64.wrap (I + L) = I + L := by rw [IntKind.wrap_i64]; omega
      have hm : ∀ W : World, (method 359 184 (.agg #[s', .string e.t, .int .i64 L]) "Len").run Tryz.prog W = .ok (202, .agg #[s', .string e.t, .int .i64 L]) W := fun _ => by kernel_rfl
      have cLen : Hid (∀ W', Below W.heap.size W W' → Calls Tryz.prog 202 #[.agg #[s', .string e.t, .int .i64 L]] W' fun r w' => r = .returned (.int .i64 L) ∧ Below W.heap.size W w') := fun W' hW => from_below hW (ilen_any s' e.t L W')
      clear hk hl
      gi_wp2
      gi_region_with (refine ⟨trivial, (CallsIn.inRound l (callsIn_wide.2 (cLen.out _ bd))).mono ?_⟩; rintro r wA ⟨rfl, bA⟩; have mA := HC.out wA bA)
      all_goals (gi_wp2)
      all_goals exact ci_step HI.out.1 HI.out.2 (by omega) (by omega) bA (by rw [hK.out.1, hK.out.2.1, hK.out.2.2.1, hu.out.1, hu.out.2.1, hu.out.2.2, hK.out.2.2.2]; simp)
    · have hu : Hid (kpO8 e = 0 ∧ insO8 e = len5 e ∧ dlO8 e = 0) := by show _ ∧ _ ∧ _; unfold kpO8 dlO8 insO8; simp [hk]
      have hl := (len5_2 hk).symm.trans hL
      rw [pieceQ_2 hk]
      have a0 := as_e_r
      have a1 := as_e_d
      obtain ⟨V, hV⟩ : ∃ V, valP e.v = V := ⟨_, rfl⟩
      rw [hV]
      have hz : IntKind.i64.wrap (I + L) = I + L := by rw [IntKind.wrap_i64]; omega
      have hm : ∀ W : World, (method 359 189 (.agg #[s', .string e.t, V]) "Len").run Tryz.prog W = .ok (204, .agg #[s', .string e.t, V]) W := fun _ => by kernel_rfl
      have cLen : Hid (∀ W', Below W.heap.size W W' → Calls Tryz.prog 204 #[.agg #[s', .string e.t, V]] W' fun r w' => r = .returned (.int .i64 L) ∧ Below W.heap.size W w') := fun W' hW => from_below hW (by have := elen_any V s' e.t W'; rw [hl] at this; exact this)
      clear hk hl
      gi_wp2
      gi_region_with (refine ⟨trivial, (CallsIn.inRound l (callsIn_wide.2 (cLen.out _ bd))).mono ?_⟩; rintro r wA ⟨rfl, bA⟩; have mA := HC.out wA bA)
      all_goals (gi_wp2)
      all_goals exact ci_step HI.out.1 HI.out.2 (by omega) (by omega) bA (by rw [hK.out.1, hK.out.2.1, hK.out.2.2.1, hu.out.1, hu.out.2.1, hu.out.2.2, hK.out.2.2.2]; simp)
    · have hu : Hid (kpO8 e = len5 e ∧ insO8 e = 0 ∧ dlO8 e = 0) := by show _ ∧ _ ∧ _; unfold kpO8 dlO8 insO8; simp [hk]
      have hl := (len5_3 (.inl hk)).symm.trans hL
      rw [pieceQ_3 hk]
      have a0 := as_r_r
      have a1 := as_r_d
      rw [hl]
      have hz : IntKind.i64.wrap (K + L) = K + L := by rw [IntKind.wrap_i64]; omega
      have hm : ∀ W : World, (method 359 115 (.agg #[s', .int .i64 L]) "Len").run Tryz.prog W = .ok (200, .agg #[s', .int .i64 L]) W := fun _ => by kernel_rfl
      have cLen : Hid (∀ W', Below W.heap.size W W' → Calls Tryz.prog 200 #[.agg #[s', .int .i64 L]] W' fun r w' => r = .returned (.int .i64 L) ∧ Below W.heap.size W w') := fun W' hW => from_below hW (rlen_any s' L W')
      clear hk hl
      gi_wp2
      gi_region_with (refine ⟨trivial, (CallsIn.inRound l (callsIn_wide.2 (cLen.out _ bd))).mono ?_⟩; rintro r wA ⟨rfl, bA⟩; have mA := HC.out wA bA)
      all_goals (gi_wp2)
      all_goals exact ci_step HI.out.1 HI.out.2 (by omega) (by omega) bA (by rw [hK.out.1, hK.out.2.1, hK.out.2.2.1, hu.out.1, hu.out.2.1, hu.out.2.2, hK.out.2.2.2]; simp)
    · have hu : Hid (kpO8 e = 0 ∧ insO8 e = 0 ∧ dlO8 e = len5 e) := by show _ ∧ _ ∧ _; unfold kpO8 dlO8 insO8; simp [hk]
      have hl := (len5_3 (.inr hk)).symm.trans hL
      rw [pieceQ_4 hk]
      have a0 := as_d_r
      have a1 := as_d_d
      rw [hl]
      have hz : IntKind.i64.wrap (D + L) = D + L := by rw [IntKind.wrap_i64]; omega
      have hm : ∀ W : World, (method 359 111 (.agg #[.int .i64 L]) "Len").run Tryz.prog W = .ok (198, .agg #[.int .i64 L]) W := fun _ => by kernel_rfl
      have cLen : Hid (∀ W', Below W.heap.size W W' → Calls Tryz.prog 198 #[.agg #[.int .i64 L]] W' fun r w' => r = .returned (.int .i64 L) ∧ Below W.heap.size W w') := fun W' hW => from_below hW (dlen_any L W')
      clear hk hl
      gi_wp2
      gi_region_with (refine ⟨trivial, (CallsIn.inRound l (callsIn_wide.2 (cLen.out _ bd))).mono ?_⟩; rintro r wA ⟨rfl, bA⟩; have mA := HC.out wA bA)
      all_goals (gi_wp2)
      all_goals exact ci_step HI.out.1 HI.out.2 (by omega) (by omega) bA (by rw [hK.out.1, hK.out.2.1, hK.out.2.2.1, hu.out.1, hu.out.2.1, hu.out.2.2, hK.out.2.2.2]; simp)
  case stop => intro D c pre W _ h; exact h.elim
  case done =>
    rintro D xs W hD hS ⟨hN, hR, hB⟩ hK
    rw [hS, List.take_length] at hN
    have c0 : W.cell? ⟨w.heap.size + 1, 0, none⟩ = some (.int .i64 (sumK8 E)) := by rw [cell_of_heap hN]; rfl
    have c1 : W.cell? ⟨w.heap.size + 1, 1, none⟩ = some (.int .i64 (sumI8 E)) := by rw [cell_of_heap hN]; rfl
    have c2 : W.cell? ⟨w.heap.size + 1, 2, none⟩ = some (.int .i64 (sumD8 E)) := by rw [cell_of_heap hN]; rfl
    have r0 : W.cell? ⟨w.heap.size, 0, none⟩ = some (.int .i64 0) := by rw [cell_of_heap hR]; rfl
    have r1 : W.cell? ⟨w.heap.size, 1, none⟩ = some (.int .i64 0) := by rw [cell_of_heap hR]; rfl
    have r2 : W.cell? ⟨w.heap.size, 2, none⟩ = some (.int .i64 0) := by rw [cell_of_heap hR]; rfl
    have f0 := frozen_of_heap hR 0
    have f1 := frozen_of_heap hR 1
    have f2 := frozen_of_heap hR 2
    have HF : Hid (w.heap.size ≤ D ∧ W.heap[D]? = some (.deferred (some [])) ∧ W.heap[w.heap.size]? = some (.cells (cnt8 0 0 0) 144 (0, 0)) ∧ Below w.heap.size w W) := ⟨by omega, hK, hR, hB⟩
    clear hN hS hR hB hK hD
    gi_wp2
    go_wp2
    obtain ⟨z1, z2, z3, z4⟩ := HF.out
    obtain ⟨y1, y2, y3⟩ := set3_heap8 z3 (.int .i64 (sumK8 E)) (.int .i64 (sumI8 E)) (.int .i64 (sumD8 E))
    exact count_leave w _ D w.heap.size _ _ _ _ rfl y1 (y2 D _ z2 (fun e => by subst e; rw [z3] at z2; cases z2)) z1 (z4.trans y3)
end Go.Proofs.YthfpmhnnjjikcabGreatDoor

/- measure: Base, Result, Inserted, Deleted, Document, Concat, Shift. -/
namespace Go.Proofs.YthfpmhnnjjikcabGreatDoor
open Go Go.RowKit Go.Lib
set_option linter.unusedVariables false
theorem cbase_any (k i d : Int) (w : World) (h : (0 ≤ k ∧ k ≤ 1099511627776) ∧ 0 ≤ d ∧ d ≤ 1099511627776) :
    Calls Tryz.prog 91 #[.agg (cnt8 k i d)] w fun e w' => e = .returned (.int .i64 (k + d)) ∧ Below w.heap.size w w' := by
  have hz : IntKind.i64.wrap (k + d) = k + d := by rw [IntKind.wrap_i64]; omega
  go_enter Tryz.func91, Tryz.ntmps91
  go_wp2
  go_ret
  exact ⟨rfl, (Below.refl _ _).alloc (Nat.le_refl _) _⟩
theorem cresult_any (k i d : Int) (w : World) (h : (0 ≤ k ∧ k ≤ 1099511627776) ∧ 0 ≤ i ∧ i ≤ 1099511627776) :
    Calls Tryz.prog 87 #[.agg (cnt8 k i d)] w fun e w' => e = .returned (.int .i64 (k + i)) ∧ Below w.heap.size w w' := by
  have hz : IntKind.i64.wrap (k + i) = k + i := by rw [IntKind.wrap_i64]; omega
  go_enter Tryz.func87, Tryz.ntmps87
  go_wp2
  go_ret
  exact ⟨rfl, (Below.refl _ _).alloc (Nat.le_refl _) _⟩
/-- What is known of a delta's list. -/
structure DlE (w : World) (B1 B2 : Nat) (v : Value) (E : List Op5) : Prop where
  d : DelV w B1 B2 v E
  g : ∀ o ∈ E, opE o = 0
  fit : ∀ o ∈ E, FitA o
  len : E.length ≤ 2097152
  txt : txtS E ≤ 4194304
  fits : Fits8 E
theorem DlE.below {w w' : World} {B1 B2 : Nat} {v : Value} {E : List Op5} (h : DlE w B1 B2 v E) (b : Below w.heap.size w w') : DlE w' B1 B2 v E := ⟨h.d.below b, h.g, h.fit, h.len, h.txt, h.fits⟩
theorem DlE.wel {w : World} {B1 B2 : Nat} {v : Value} {E : List Op5} (h : DlE w B1 B2 v E) : ∀ o ∈ E, Wel o := fun o ho => wel_of (h.g o ho)
theorem DlE.n {w : World} {B1 B2 : Nat} {v : Value} {E : List Op5} (h : DlE w B1 B2 v E) : ∀ o ∈ E, o.A.length ≤ 2097152 := fun o ho => by have := (h.fit o ho).n; omega
theorem DlE.sums {w : World} {B1 B2 : Nat} {v : Value} {E : List Op5} (h : DlE w B1 B2 v E) : (0 ≤ sumK8 E ∧ sumK8 E ≤ 1099511627776) ∧ (0 ≤ sumI8 E ∧ sumI8 E ≤ 1099511627776) ∧ (0 ≤ sumD8 E ∧ sumD8 E ≤ 1099511627776) ∧ sumB E = sumK8 E + sumD8 E ∧ sumR E = sumK8 E + sumI8 E := by
  have h1 := sums_three h.wel
  have h2 := h.fits
  unfold Fits8 at h2
  omega
theorem count_any8 {B1 B2 : Nat} (v : Value) (E : List Op5) (w : World) (h : DlE w B1 B2 v E) :
    Calls Tryz.prog 86 #[v] w fun e w' => e = .returned (.agg (cnt8 (sumK8 E) (sumI8 E) (sumD8 E))) ∧ Below w.heap.size w w' :=
  count8_any v E w h.d h.g h.n (Nat.le_trans h.len (by decide)) h.fits
theorem base8_any {B1 B2 : Nat} (v : Value) (E : List Op5) (w : World) (h : DlE w B1 B2 v E) :
    Calls Tryz.prog 85 #[v] w fun e w' => e = .returned (.int .i64 (sumB E)) ∧ Below w.heap.size w w' := by
  have c := count_any8 v E w h
  have hs := h.sums
  have c2 := fun W => cbase_any (sumK8 E) (sumI8 E) (sumD8 E) W ⟨hs.1, hs.2.2.1⟩
  rw [← hs.2.2.2.1] at c2
  obtain ⟨q, pv, PL, rfl, _⟩ := h.d
  clear hs h
  go_enter Tryz.func85, Tryz.ntmps85
  go_wp2_with fail
  refine c.mono ?_; rintro r w2 ⟨rfl, b2⟩
  go_wp2_with fail
  refine (c2 _).mono ?_; rintro r w3 ⟨rfl, b3⟩
  have b := b2.trans (b3.mono b2.size)
  go_wp2
  go_ret
  exact ⟨rfl, b⟩
theorem result8_any {B1 B2 : Nat} (v : Value) (E : List Op5) (w : World) (h : DlE w B1 B2 v E) :
    Calls Tryz.prog 49 #[v] w fun e w' => e = .returned (.int .i64 (sumR E)) ∧ Below w.heap.size w w' := by
  have c := count_any8 v E w h
  have hs := h.sums
  have c2 := fun W => cresult_any (sumK8 E) (sumI8 E) (sumD8 E) W ⟨hs.1, hs.2.1⟩
  rw [← hs.2.2.2.2] at c2
  obtain ⟨q, pv, PL, rfl, _⟩ := h.d
  clear hs h
  go_enter Tryz.func49, Tryz.ntmps49
  go_wp2_with fail
  refine c.mono ?_; rintro r w2 ⟨rfl, b2⟩
  go_wp2_with fail
  refine (c2 _).mono ?_; rintro r w3 ⟨rfl, b3⟩
  have b := b2.trans (b3.mono b2.size)
  go_wp2
  go_ret
  exact ⟨rfl, b⟩
theorem doc8_any {B1 B2 : Nat} (v : Value) (E : List Op5) (w : World) (h : DlE w B1 B2 v E) :
    Calls Tryz.prog 48 #[v] w fun e w' => e = .returned (.bool (sumB E == 0)) ∧ Below w.heap.size w w' := by
  have c := base8_any v E w h
  obtain ⟨q, pv, PL, rfl, _⟩ := h.d
  clear h
  go_enter Tryz.func48, Tryz.ntmps48
  go_wp2_with fail
  refine c.mono ?_; rintro r w2 ⟨rfl, b2⟩
  go_wp2
  go_ret
  exact ⟨rfl, b2⟩
theorem delV_low {w : World} {B1 B2 C : Nat} {v : Value} {E : List Op5} (h : DelV w B1 B2 v E) (h1 : C ≤ B1) (h2 : C ≤ B2) : DelV w C C v E := by
  obtain ⟨q, pv, PL, x1, x2, x3, x4, x5⟩ := h
  exact ⟨q, pv, PL, x1, Nat.le_trans h1 x2, x3, own_weaken x4 h1, x5.weaken h2⟩
end Go.Proofs.YthfpmhnnjjikcabGreatDoor
