/- What the methods Op of pieces answer. build: what a delta tells: Count, Ops, Pieces, Same. vellumhand.Make, Is; vellumlaw06's gone, text, large, lives. vellumlaw06.lives answers true. Canonical lists of operations in order are in order. The canonical list while it is made: sizes. The document's deltas: Canonical. The document's answers for ops: empty, Check, Length, apart. The document's deltas: Of. The document's deltas: Lengths, Long. -/
import Derived.Test.YtfllomfjhkgaoaaGreatDoorMgd
import Derived.Test.YtfllomfjhkgaoaaGreatDoorMgb

/- What the methods Op of pieces answer. -/
namespace Go.Proofs.YtfllomfjhkgaoaaGreatDoor
open Go Go.RowKit Go.Lib
set_option linter.unusedVariables false

set_option maxHeartbeats 1000000 in
set_option maxRecDepth 100000 in
theorem retOp (s : Value) (A : List A2) (n : Int) (w : World) (hR : RN w s A) (hl : A.length ≤ 2097152) :
    Calls Tryz.prog 143 #[.agg #[s, .int .i64 n]] w fun r w' => ∃ v', r = .returned (opV ⟨3, ⟨#[]⟩, z0, n, []⟩ v') ∧ OwnA w' w.heap.size v' A ∧ Below w.heap.size w w' := by
  have HC : Hid (∀ W, Below w.heap.size w W → Calls Tryz.prog 141 #[.agg #[s]] W fun r w' => ∃ v', r = .returned v' ∧ OwnA w' W.heap.size v' A ∧ Below W.heap.size W w') := fun W hW => attributes_any s A W (hR.row.below hW) hR.nz hl
  obtain ⟨p, l, cc, rfl⟩ : ∃ p l c, s = .slice p l c := by obtain ⟨p, c, h, _⟩ := hR.row.val; exact ⟨_, _, _, h⟩
  clear hR hl
  obtain ⟨W1, hW1⟩ : ∃ W, W = (w.alloc (.cells #[.slice p l cc, .int .i64 n] 117)).alloc (.cells #[.int .i64 0, .string ⟨#[]⟩, .int .i64 0, .int .i64 0, .string ⟨#[]⟩, .int .i64 0, .slice none 0 0] 48) := ⟨_, rfl⟩
  have b0 : Below w.heap.size w W1 := by rw [hW1]; exact ((Below.refl _ _).alloc (Nat.le_refl _) _).alloc (by simp) _
  have e0 : W1.cell? ⟨w.heap.size, 0, none⟩ = some (.slice p l cc) := by rw [hW1]; simp
  have e1 : W1.cell? ⟨w.heap.size, 1, none⟩ = some (.int .i64 n) := by rw [hW1]; simp
  have hB : BoxO W1 (w.heap.size + 1) opZ nilS ∧ FrO W1 (w.heap.size + 1) := by
    have q1 := BoxO.new (w.alloc (.cells #[.slice p l cc, .int .i64 n] 117)) opZ nilS
    have q2 := FrO.new (w.alloc (.cells #[.slice p l cc, .int .i64 n] 117)) opZ nilS
    rw [World.size_alloc] at q1 q2
    rw [hW1]
    exact ⟨q1, q2⟩
  go_enter Tryz.func143, Tryz.ntmps143
  go_upto_region 1 with fail
  rw [← hW1]
  clear hW1
  have HB : Hid (BoxO W1.drew (w.heap.size + 1) opZ nilS ∧ FrO W1.drew (w.heap.size + 1)) := ⟨hB.1.drew, hB.2.drew⟩
  have b1 : Below w.heap.size w W1.drew := b0.drew
  have hz1 : w.heap.size ≤ W1.drew.heap.size := b1.size
  have hz2 : w.heap.size + 1 < W1.drew.heap.size := lt_of_cell hB.1.d0
  have cA := HC.out W1.drew b1
  have n1 : w.heap.size ≠ w.heap.size + 1 := by omega
  have hs1 : w.heap.size ≤ w.heap.size + 1 := by omega
  have HU : Hid (∀ W : World, (∀ i, W.cell? ⟨w.heap.size, i, none⟩ = W1.drew.cell? ⟨w.heap.size, i, none⟩) → W.cell? ⟨w.heap.size, 0, none⟩ = some (.slice p l cc) ∧ W.cell? ⟨w.heap.size, 1, none⟩ = some (.int .i64 n)) := fun W h => ⟨(h 0).trans e0, (h 1).trans e1⟩
  have M0 := HU.out W1.drew (fun _ => rfl)
  have HW : Hid (∀ W, Below W1.drew.heap.size W1.drew W → ∀ i, W.cell? ⟨w.heap.size, i, none⟩ = W1.drew.cell? ⟨w.heap.size, i, none⟩) := fun W h i => World.cell?_of_block (a := ⟨w.heap.size, i, none⟩) (h.block w.heap.size (by omega))
  have HS : Hid (∀ W, Below W1.drew.heap.size W1.drew W → (∀ u0 u1 u2 u3 u4 u5 u6 : Value, ((((((((W.setCell ⟨w.heap.size + 1, 0, none⟩ u0).setCell ⟨w.heap.size + 1, 1, none⟩ u1).setCell ⟨w.heap.size + 1, 2, none⟩ u2).setCell ⟨w.heap.size + 1, 3, none⟩ u3).setCell ⟨w.heap.size + 1, 4, none⟩ u4).setCell ⟨w.heap.size + 1, 5, none⟩ u5).setCell ⟨w.heap.size + 1, 6, none⟩ u6).cell? ⟨w.heap.size, 0, none⟩ = some (.slice p l cc) ∧ (((((((W.setCell ⟨w.heap.size + 1, 0, none⟩ u0).setCell ⟨w.heap.size + 1, 1, none⟩ u1).setCell ⟨w.heap.size + 1, 2, none⟩ u2).setCell ⟨w.heap.size + 1, 3, none⟩ u3).setCell ⟨w.heap.size + 1, 4, none⟩ u4).setCell ⟨w.heap.size + 1, 5, none⟩ u5).setCell ⟨w.heap.size + 1, 6, none⟩ u6).cell? ⟨w.heap.size, 1, none⟩ = some (.int .i64 n)) ∧ Below w.heap.size w (((((((W.setCell ⟨w.heap.size + 1, 0, none⟩ u0).setCell ⟨w.heap.size + 1, 1, none⟩ u1).setCell ⟨w.heap.size + 1, 2, none⟩ u2).setCell ⟨w.heap.size + 1, 3, none⟩ u3).setCell ⟨w.heap.size + 1, 4, none⟩ u4).setCell ⟨w.heap.size + 1, 5, none⟩ u5).setCell ⟨w.heap.size + 1, 6, none⟩ u6))) := fun W h u0 u1 u2 u3 u4 u5 u6 => ⟨HU.out _ (fun i => (cell_set7 (B := w.heap.size + 1) (j := i) W n1 u0 u1 u2 u3 u4 u5 u6).trans (HW.out W h i)), below_set7 (B := w.heap.size + 1) (b1.trans (h.mono hz1)) hs1 u0 u1 u2 u3 u4 u5 u6⟩
  clear hB e0 e1 b0
  go_region_held3 (fun w' => (w'.cell? ⟨w.heap.size, 0, none⟩ = some (.slice p l cc) ∧ w'.cell? ⟨w.heap.size, 1, none⟩ = some (.int .i64 n)) ∧ Below w.heap.size w w')
    (first | exact ⟨by with_reducible first | assumption | exact M0 | exact MS _ _ _ _ _ _ _, by with_reducible first | assumption | exact b1 | exact BS _ _ _ _ _ _ _⟩)
    (first
      | (go_at_call 141; refine cA.mono ?_; rintro r wA ⟨vA, rfl, oA, hA⟩; obtain ⟨pA, cA', rfl⟩ := own_slice oA; have HA' := hA; have bA := b1.trans (HA'.mono hz1); have mA := HU.out wA (HW.out wA HA'); have OA : Hid (OwnA wA W1.drew.heap.size (.slice pA A.length cA') A) := oA; clear oA; obtain ⟨q0, q1, q2, q3, q4, q5, q6⟩ := HB.out.1.below HA'; obtain ⟨h0, h1, h2, h3, h4, h5, h6⟩ := HB.out.2.below HB.out.1 HA'; simp only [z0] at q0 q1 q2 q3 q4 q5 q6; have MS := fun u0 u1 u2 u3 u4 u5 u6 => (HS.out wA HA' u0 u1 u2 u3 u4 u5 u6).1; have BS := fun u0 u1 u2 u3 u4 u5 u6 => (HS.out wA HA' u0 u1 u2 u3 u4 u5 u6).2))
  · have same : ∀ (u0 u1 u2 u3 u4 u5 u6 : Value) (v : Value) (hv : OwnA wA W1.drew.heap.size v A), OwnA (((((((wA.setCell ⟨w.heap.size + 1, 0, none⟩ u0).setCell ⟨w.heap.size + 1, 1, none⟩ u1).setCell ⟨w.heap.size + 1, 2, none⟩ u2).setCell ⟨w.heap.size + 1, 3, none⟩ u3).setCell ⟨w.heap.size + 1, 4, none⟩ u4).setCell ⟨w.heap.size + 1, 5, none⟩ u5).setCell ⟨w.heap.size + 1, 6, none⟩ u6) w.heap.size v A := fun u0 u1 u2 u3 u4 u5 u6 v hv =>
      own_weaken (owns_same hv fun k hk => by
        have := (owns_block hv k hk).1
        exact heap_set7 _ (by omega) _ _ _ _ _ _ _) hz1
    go_wp2
    exact bodyPost_ret (v := opV ⟨3, ⟨#[]⟩, z0, n, []⟩ (.slice pA A.length cA')) (by simp [results, Tryz.results143, go_sem, z0, q0, q1, q2, q3, q4, q5, q6]) rfl ⟨_, rfl, same _ _ _ _ _ _ _ _ OA.out, BS _ _ _ _ _ _ _⟩

set_option maxHeartbeats 1000000 in
theorem delOp (n : Int) (w : World) :
    Calls Tryz.prog 140 #[.agg #[.int .i64 n]] w fun r w' => r = .returned (opV ⟨4, ⟨#[]⟩, z0, n, []⟩ (.slice none 0 0)) ∧ Below w.heap.size w w' := by
  go_enter Tryz.func140, Tryz.ntmps140
  go_wp2
  exact bodyPost_ret (v := opV ⟨4, ⟨#[]⟩, z0, n, []⟩ (.slice none 0 0)) (by simp [results, Tryz.results140, go_sem, z0]) rfl ⟨rfl, by go_grown⟩
theorem embOp_any (s : Value) (A : List A2) (t : ByteArray) (v : P3) (w : World) (hv : chkP v = 0) (hR : RN w s A) (hl : A.length ≤ 2097152) :
    Calls Tryz.prog 147 #[.agg #[s, .string t, valP v]] w fun r w' => ∃ v', r = .returned (opV ⟨2, t, v, 0, []⟩ v') ∧ OwnA w' w.heap.size v' A ∧ Below w.heap.size w w' := by
  obtain ⟨x, z, u⟩ := v
  rcases good_cases hv with ⟨rfl, rfl, rfl⟩ | ⟨rfl, rfl, rfl⟩ | ⟨rfl, rfl, rfl⟩ | ⟨rfl, rfl⟩ | ⟨rfl, rfl, _⟩
  · exact embOp_null s A t w hR hl
  · exact embOp_flag0 s A t w hR hl
  · exact embOp_flag1 s A t w hR hl
  · exact embOp_num z s A t w hR hl
  · exact embOp_text u s A t w hR hl
theorem opQ_1 {e : Op5} (hg : opE e = 0) (hk : e.k = 1) (s : Value) (w : World) (hR : RN w s e.A) (hl : e.A.length ≤ 2097152) :
    Calls Tryz.prog 145 #[.agg #[s, .string e.t, .int .i64 (scs e.t.data.toList).length]] w fun r w' => ∃ v', r = .returned (opV e v') ∧ OwnA w' w.heap.size v' e.A ∧ Below w.heap.size w w' := by
  refine (insOp s e.A e.t _ w hR hl).mono fun r w' ⟨v', h1, h2, h3⟩ => ⟨v', ?_, h2, h3⟩
  rw [h1]
  rcases op_good hg with ⟨hi, _⟩ | ⟨_, _, h⟩ | ⟨_, _, h⟩
  · have hc := hi.count
    rcases hi.kind with ⟨_, hv⟩ | ⟨h2, _⟩
    · obtain ⟨k, t, v, c, A⟩ := e
      simp only at hk hv hc
      subst hk hv hc
      rfl
    · omega
  · omega
  · omega
theorem opQ_2 {e : Op5} (hg : opE e = 0) (hk : e.k = 2) (s : Value) (w : World) (hR : RN w s e.A) (hl : e.A.length ≤ 2097152) :
    Calls Tryz.prog 147 #[.agg #[s, .string e.t, valP e.v]] w fun r w' => ∃ v', r = .returned (opV e v') ∧ OwnA w' w.heap.size v' e.A ∧ Below w.heap.size w w' := by
  rcases op_good hg with ⟨hi, _⟩ | ⟨_, _, h⟩ | ⟨_, _, h⟩
  · refine (embOp_any s e.A e.t e.v w hi.val hR hl).mono fun r w' ⟨v', h1, h2, h3⟩ => ⟨v', ?_, h2, h3⟩
    rw [h1]
    have hc := hi.count
    obtain ⟨k, t, v, c, A⟩ := e
    simp only at hk hc
    subst hk hc
    rfl
  · omega
  · omega
theorem cnt_flds {e : Op5} (h : Cnt e) : e.t = ⟨#[]⟩ ∧ e.v = z0 := by
  refine ⟨?_, h.val⟩
  have := h.text
  have h0 : e.t.toList = [] := List.isEmpty_iff.1 this
  rw [toList_data] at h0
  exact ByteArray.ext (Array.ext' h0)
theorem opQ_3 {e : Op5} (hg : opE e = 0) (hk : e.k = 3) (s : Value) (w : World) (hR : RN w s e.A) (hl : e.A.length ≤ 2097152) :
    Calls Tryz.prog 143 #[.agg #[s, .int .i64 e.c]] w fun r w' => ∃ v', r = .returned (opV e v') ∧ OwnA w' w.heap.size v' e.A ∧ Below w.heap.size w w' := by
  refine (retOp s e.A e.c w hR hl).mono fun r w' ⟨v', h1, h2, h3⟩ => ⟨v', ?_, h2, h3⟩
  rw [h1]
  rcases op_good hg with ⟨_, h⟩ | ⟨hc, _, _⟩ | ⟨_, _, h⟩
  · omega
  · obtain ⟨ht, hv⟩ := cnt_flds hc
    obtain ⟨k, t, v, c, A⟩ := e
    simp only at hk ht hv
    subst hk ht hv
    rfl
  · omega
theorem opQ_4 {e : Op5} (hg : opE e = 0) (hk : e.k = 4) (w : World) :
    Calls Tryz.prog 140 #[.agg #[.int .i64 e.c]] w fun r w' => ∃ v', r = .returned (opV e v') ∧ OwnA w' w.heap.size v' e.A ∧ Below w.heap.size w w' := by
  refine (delOp e.c w).mono fun r w' ⟨h1, h3⟩ => ⟨.slice none 0 0, ?_, ?_, h3⟩
  · rw [h1]
    rcases op_good hg with ⟨_, h⟩ | ⟨_, _, h⟩ | ⟨hc, _, _⟩
    · omega
    · omega
    · obtain ⟨ht, hv⟩ := cnt_flds hc
      obtain ⟨k, t, v, c, A⟩ := e
      simp only at hk ht hv
      subst hk ht hv
      rfl
  · rw [drop_A hg hk]; exact ⟨rfl, Or.inl ⟨rfl, rfl⟩⟩
end Go.Proofs.YtfllomfjhkgaoaaGreatDoor

/- build: what a delta tells: Count, Ops, Pieces, Same. -/
namespace Go.Proofs.YtfllomfjhkgaoaaGreatDoor
open Go Go.RowKit Go.Lib
set_option linter.unusedVariables false

theorem count_any5 {B1 B2 : Nat} (v : Value) (E : List Op5) (w : World) (h : DelV w B1 B2 v E) :
    Calls Tryz.prog 40 #[v] w fun e w' => e = .returned (.int .i64 E.length) ∧ Below w.heap.size w w' := by
  obtain ⟨q, pv, PL, rfl, _, hq, hrow, hpie⟩ := h
  have c0 : w.cell? ⟨q, 0, none⟩ = some pv := by rw [cell_of_heap hq]; rfl
  obtain ⟨p, c, rfl⟩ := own_slice hrow
  have hl := forall2_len hpie
  rw [← hl]
  clear hq hrow hpie hl
  go_enter Tryz.func40, Tryz.ntmps40
  go_wp2
  go_ret
  exact ⟨rfl, Below.refl _ _⟩
theorem wpList_make_op (w : World) {ops : Array Oper} {rest : List Oper} {o : Oper} {a : Act} {Q : Exit → Act → World → Prop}
    (hg : o.guard = none) (l c : Operand) (hop : o.op = Op.makeSlice 22 l c) (base : Nat)
    (kl kc : IntKind) (C : Int) (n : Nat) (hl : a.eval l = .int kl 0) (hc : a.eval c = .int kc C) (hC : C = (n : Int)) (b2 : n ≤ 8388608) (b4 : base ≤ w.heap.size)
    (hK : ∀ v w', OwnO w' base v [] → w.grownBy w' none → wpList Tryz.prog ops Q rest (a.put o.dst v) w') :
    wpList Tryz.prog ops Q (o :: rest) a w := by
  obtain ⟨i, z, hi, hz, hz1, hz2, hz3⟩ := infoOp
  exact wpList_make_own w hg l c _ hop base 48 i z 7 Tryz.underlying22 hi hz hz1 kl kc C n hl hc hC (by rw [hz2]; omega) (by unfold maxLen; omega) b4 fun w' h1 h2 => hK _ w' h1 h2
theorem wpList_make_pi2 (w : World) {ops : Array Oper} {rest : List Oper} {o : Oper} {a : Act} {Q : Exit → Act → World → Prop}
    (hg : o.guard = none) (l c : Operand) (hop : o.op = Op.makeSlice 78 l c) (base : Nat)
    (kl kc : IntKind) (C : Int) (n : Nat) (hl : a.eval l = .int kl 0) (hc : a.eval c = .int kc C) (hC : C = (n : Int)) (b2 : n ≤ 8388608) (b4 : base ≤ w.heap.size)
    (hK : ∀ v w', OwnI w' base v [] → w.grownBy w' none → wpList Tryz.prog ops Q rest (a.put o.dst v) w') :
    wpList Tryz.prog ops Q (o :: rest) a w := by
  obtain ⟨i, z, hi, hz, hz1, hz2, hz3⟩ := infoPi
  exact wpList_make_own w hg l c _ hop base 87 i z 1 Tryz.underlying78 hi hz hz1 kl kc C n hl hc hC (by rw [hz2]; omega) (by unfold maxLen; omega) b4 fun w' h1 h2 => hK _ w' h1 h2
/-- What a loop over a delta's pieces reads. -/
theorem del_read {w : World} {B1 B2 q : Nat} {pv : Value} {PL : List Value} {E : List Op5} (hrow : OwnI w B1 pv PL) (hpie : PieD w B2 PL E) : ∃ p cap, pv = .slice p E.length cap ∧ ∀ k, k < E.length → ∃ ga e s, p = some ⟨ga, 0, none⟩ ∧ E[k]? = some e ∧ w.cell? ⟨ga, k, none⟩ = some (pieceQ e s) ∧ OwnA w B2 s e.A := by
  have hl := forall2_len hpie
  obtain ⟨p, cap, e⟩ := own_slice hrow
  refine ⟨p, cap, by rw [e, hl], fun k hk => ?_⟩
  obtain ⟨g, c, x, hv', hB, hx, hc⟩ := own_cell hrow k (by omega)
  obtain ⟨e', s, he, rfl, hs⟩ := oneI hpie hx
  rw [e] at hv'
  simp only [Value.slice.injEq] at hv'
  exact ⟨g, e', s, hv'.1, he, hc, hs⟩
set_option maxHeartbeats 4000000 in
set_option maxRecDepth 100000 in
theorem ops_any {B1 B2 : Nat} (v : Value) (E : List Op5) (w : World) (h : DelV w B1 B2 v E) (hg : ∀ o ∈ E, opE o = 0) (hA : ∀ o ∈ E, o.A.length ≤ 2097152) (hl : E.length ≤ 4194304) :
    Calls Tryz.prog 23 #[v] w fun e w' => ∃ v', e = .returned v' ∧ CoO w' w.heap.size v' E ∧ Below w.heap.size w w' := by
  obtain ⟨q, pv, PL, rfl, _, hq, hrow, hpie⟩ := h
  have c0 : w.cell? ⟨q, 0, none⟩ = some pv := by rw [cell_of_heap hq]; rfl
  obtain ⟨p, cap, rfl, hrd⟩ := del_read (q := q) hrow hpie
  have HV : Hid (∀ k, k < E.length → ∃ ga e s, p = some ⟨ga, 0, none⟩ ∧ E[k]? = some e ∧ w.cell? ⟨ga, k, none⟩ = some (pieceQ e s) ∧ OwnA w B2 s e.A) := hrd
  have HG : Hid (∀ o ∈ E, opE o = 0 ∧ o.A.length ≤ 2097152) := fun o ho => ⟨hg o ho, hA o ho⟩
  obtain ⟨n, hn⟩ : ∃ n, E.length = n := ⟨_, rfl⟩
  have HN : Hid (E.length = n) := hn
  rw [hn] at c0 hl HV
  clear hq hrow hpie hrd hg hA hn
  go_enter Tryz.func23, Tryz.ntmps23
  go_wp2_with (at_make; refine wpList_make_op _ rfl _ _ rfl w.heap.size .i64 .i64 _ n rfl rfl rfl (by omega) (Nat.le_refl _) ?_; intro v0 w1 hown hgr; have hb1 : Below w.heap.size w w1 := (Below.refl _ _).grown hgr (Nat.le_refl _) (fun k hk => by cases hk); have c1 := (hb1.cell (lt_of_cell c0)).trans c0; clear hgr)
  go_loopw [3, 17] (fun al i wr => ∃ (k : Nat) (D : List OV), k ≤ n ∧ i = .int .i64 k ∧ D.length = k ∧ OwnO wr w.heap.size al D ∧ OwD wr w.heap.size D (E.take k) ∧ Below w.heap.size w wr) (fun _ i _ => n - (RowKit.intOf i).toNat)
  case atStart => exact ⟨0, [], Nat.zero_le _, rfl, rfl, hown, .nil, hb1⟩
  case round =>
    clear hown hb1 c1
    obtain ⟨k, D, hk, rfl, hDl, hown, hsp, hbw⟩ := hrel
    by_cases hlt : k < n
    · have hltI : (k : Int) < n := by omega
      obtain ⟨ga, e, s, rfl, he, hc, hs⟩ := HV.out k hlt
      have c2 := (hbw.cell (lt_of_cell hc)).trans hc
      have hs2 := owns_below hs hbw
      obtain ⟨hg1, hA1⟩ := HG.out e (List.mem_of_getElem? he)
      have HT : Hid (E.take (k + 1) = E.take k ++ [e]) := by show _ = _; rw [List.take_add_one, he]; rfl
      have hge : Hid (∀ j, u3.ownBlock = some j → w.heap.size ≤ j) := fun j hj => (owns_block hown j hj).1
      have HO : Hid (OwnO wr w.heap.size u3 D ∧ OwD wr w.heap.size D (E.take k)) := ⟨hown, hsp⟩
      have hlen : D.length ≤ 8388608 := by omega
      have hlz : w.heap.size ≤ wr.heap.size := hbw.size
      have hkk := kinds_of hg1
      rcases hkk with hkk | hkk | hkk | hkk
      · have cO := opQ_1 hg1 hkk s wr (own_RN hs2) hA1
        obtain ⟨nn, hnn⟩ : ∃ x : Int, ((scs e.t.data.toList).length : Int) = x := ⟨_, rfl⟩
        rw [pieceQ_1 hkk] at c2
        rw [hnn] at c2 cO
        clear he hc hs hs2 hown hsp hg1 hA1 hkk hnn
        go_wp2_with fail
        refine cO.mono ?_; rintro r w5 ⟨v', rfl, own5, hb5⟩
        obtain ⟨p5, c5, rfl⟩ := own_slice own5
        have bw5 : Below w.heap.size w w5 := hbw.trans (hb5.mono hlz)
        obtain ⟨ek, et, ⟨ex, en, eu⟩, ec, eA⟩ := e
        have ba : Below w5.heap.size w5 (w5.alloc (.cells #[.int .i64 ek, .string et, .int .i64 ex, .int .i64 en, .string eu, .int .i64 ec, .slice p5 eA.length c5] 48)) := (Below.refl _ _).alloc (Nat.le_refl _) _
        have hat : OpAt (w5.alloc (.cells #[.int .i64 ek, .string et, .int .i64 ex, .int .i64 en, .string eu, .int .i64 ec, .slice p5 eA.length c5] 48)) w5.heap.size 0 (ek, et, (ex, en, eu), ec, p5, eA.length, c5) := ⟨by simp, by simp, by simp, by simp, by simp, by simp, by simp⟩
        have HO7 : Hid (OwnO (w5.alloc (.cells #[.int .i64 ek, .string et, .int .i64 ex, .int .i64 en, .string eu, .int .i64 ec, .slice p5 eA.length c5] 48)) w.heap.size u3 D ∧ OpAt (w5.alloc (.cells #[.int .i64 ek, .string et, .int .i64 ex, .int .i64 en, .string eu, .int .i64 ec, .slice p5 eA.length c5] 48)) w5.heap.size 0 (ek, et, (ex, en, eu), ec, p5, eA.length, c5)) := ⟨owns_below (owns_below HO.out.1 hb5) ba, hat⟩
        have HP7 : Hid (OwD (w5.alloc (.cells #[.int .i64 ek, .string et, .int .i64 ex, .int .i64 en, .string eu, .int .i64 ec, .slice p5 eA.length c5] 48)) w.heap.size (D ++ [(ek, et, (ex, en, eu), ec, p5, eA.length, c5)]) (E.take (k + 1))) := by
          show OwD _ _ _ _
          rw [HT.out]
          exact forall2_append ((HO.out.2.below hb5).below ba) (.cons ⟨rfl, rfl, rfl, rfl, own_weaken (owns_below own5 ba) hlz⟩ .nil)
        have bw7 := bw5.trans (ba.mono bw5.size)
        have hl33 : D.length ≤ 33554432 := by omega
        clear own5 hb5 bw5 ba hat HO HT cO c2
        go_wp2_with (at_builtin; refine wpList_append_ops rfl (.tmp 21) (.tmp 24) rfl w.heap.size u3 D rfl HO7.out.1 w5.heap.size 1 _ rfl HO7.out.2 hl33 bw7.size ?_; intro v8 w8 own8 gr8 hat8; have hsp8 : Hid (OwD w8 w.heap.size _ _) := HP7.out.keep (keepA_grownO HO7.out.1 gr8); have b8 := bw7.grown gr8 bw7.size (fun j hj => hge.out j hj); have HO8 : Hid (OwnO w8 w.heap.size v8 _) := own8; clear own8 gr8 hat8 HO7 HP7)
        go_roundw
        case rel => exact ⟨k + 1, _, by omega, by go_num, by simp [hDl], HO8.out, hsp8.out, b8⟩
        case measure => simp [RowKit.intOf]; omega
      · have cO := opQ_2 hg1 hkk s wr (own_RN hs2) hA1
        obtain ⟨V, hV⟩ : ∃ V, valP e.v = V := ⟨_, rfl⟩
        rw [pieceQ_2 hkk] at c2
        rw [hV] at c2 cO
        clear he hc hs hs2 hown hsp hg1 hA1 hkk hV
        go_wp2_with fail
        refine cO.mono ?_; rintro r w5 ⟨v', rfl, own5, hb5⟩
        obtain ⟨p5, c5, rfl⟩ := own_slice own5
        have bw5 : Below w.heap.size w w5 := hbw.trans (hb5.mono hlz)
        obtain ⟨ek, et, ⟨ex, en, eu⟩, ec, eA⟩ := e
        have ba : Below w5.heap.size w5 (w5.alloc (.cells #[.int .i64 ek, .string et, .int .i64 ex, .int .i64 en, .string eu, .int .i64 ec, .slice p5 eA.length c5] 48)) := (Below.refl _ _).alloc (Nat.le_refl _) _
        have hat : OpAt (w5.alloc (.cells #[.int .i64 ek, .string et, .int .i64 ex, .int .i64 en, .string eu, .int .i64 ec, .slice p5 eA.length c5] 48)) w5.heap.size 0 (ek, et, (ex, en, eu), ec, p5, eA.length, c5) := ⟨by simp, by simp, by simp, by simp, by simp, by simp, by simp⟩
        have HO7 : Hid (OwnO (w5.alloc (.cells #[.int .i64 ek, .string et, .int .i64 ex, .int .i64 en, .string eu, .int .i64 ec, .slice p5 eA.length c5] 48)) w.heap.size u3 D ∧ OpAt (w5.alloc (.cells #[.int .i64 ek, .string et, .int .i64 ex, .int .i64 en, .string eu, .int .i64 ec, .slice p5 eA.length c5] 48)) w5.heap.size 0 (ek, et, (ex, en, eu), ec, p5, eA.length, c5)) := ⟨owns_below (owns_below HO.out.1 hb5) ba, hat⟩
        have HP7 : Hid (OwD (w5.alloc (.cells #[.int .i64 ek, .string et, .int .i64 ex, .int .i64 en, .string eu, .int .i64 ec, .slice p5 eA.length c5] 48)) w.heap.size (D ++ [(ek, et, (ex, en, eu), ec, p5, eA.length, c5)]) (E.take (k + 1))) := by
          show OwD _ _ _ _
          rw [HT.out]
          exact forall2_append ((HO.out.2.below hb5).below ba) (.cons ⟨rfl, rfl, rfl, rfl, own_weaken (owns_below own5 ba) hlz⟩ .nil)
        have bw7 := bw5.trans (ba.mono bw5.size)
        have hl33 : D.length ≤ 33554432 := by omega
        clear own5 hb5 bw5 ba hat HO HT cO c2
        go_wp2_with (at_builtin; refine wpList_append_ops rfl (.tmp 21) (.tmp 24) rfl w.heap.size u3 D rfl HO7.out.1 w5.heap.size 1 _ rfl HO7.out.2 hl33 bw7.size ?_; intro v8 w8 own8 gr8 hat8; have hsp8 : Hid (OwD w8 w.heap.size _ _) := HP7.out.keep (keepA_grownO HO7.out.1 gr8); have b8 := bw7.grown gr8 bw7.size (fun j hj => hge.out j hj); have HO8 : Hid (OwnO w8 w.heap.size v8 _) := own8; clear own8 gr8 hat8 HO7 HP7)
        go_roundw
        case rel => exact ⟨k + 1, _, by omega, by go_num, by simp [hDl], HO8.out, hsp8.out, b8⟩
        case measure => simp [RowKit.intOf]; omega
      · have cO := opQ_3 hg1 hkk s wr (own_RN hs2) hA1
        rw [pieceQ_3 hkk] at c2
        clear he hc hs hs2 hown hsp hg1 hA1 hkk
        go_wp2_with fail
        refine cO.mono ?_; rintro r w5 ⟨v', rfl, own5, hb5⟩
        obtain ⟨p5, c5, rfl⟩ := own_slice own5
        have bw5 : Below w.heap.size w w5 := hbw.trans (hb5.mono hlz)
        obtain ⟨ek, et, ⟨ex, en, eu⟩, ec, eA⟩ := e
        have ba : Below w5.heap.size w5 (w5.alloc (.cells #[.int .i64 ek, .string et, .int .i64 ex, .int .i64 en, .string eu, .int .i64 ec, .slice p5 eA.length c5] 48)) := (Below.refl _ _).alloc (Nat.le_refl _) _
        have hat : OpAt (w5.alloc (.cells #[.int .i64 ek, .string et, .int .i64 ex, .int .i64 en, .string eu, .int .i64 ec, .slice p5 eA.length c5] 48)) w5.heap.size 0 (ek, et, (ex, en, eu), ec, p5, eA.length, c5) := ⟨by simp, by simp, by simp, by simp, by simp, by simp, by simp⟩
        have HO7 : Hid (OwnO (w5.alloc (.cells #[.int .i64 ek, .string et, .int .i64 ex, .int .i64 en, .string eu, .int .i64 ec, .slice p5 eA.length c5] 48)) w.heap.size u3 D ∧ OpAt (w5.alloc (.cells #[.int .i64 ek, .string et, .int .i64 ex, .int .i64 en, .string eu, .int .i64 ec, .slice p5 eA.length c5] 48)) w5.heap.size 0 (ek, et, (ex, en, eu), ec, p5, eA.length, c5)) := ⟨owns_below (owns_below HO.out.1 hb5) ba, hat⟩
        have HP7 : Hid (OwD (w5.alloc (.cells #[.int .i64 ek, .string et, .int .i64 ex, .int .i64 en, .string eu, .int .i64 ec, .slice p5 eA.length c5] 48)) w.heap.size (D ++ [(ek, et, (ex, en, eu), ec, p5, eA.length, c5)]) (E.take (k + 1))) := by
          show OwD _ _ _ _
          rw [HT.out]
          exact forall2_append ((HO.out.2.below hb5).below ba) (.cons ⟨rfl, rfl, rfl, rfl, own_weaken (owns_below own5 ba) hlz⟩ .nil)
        have bw7 := bw5.trans (ba.mono bw5.size)
        have hl33 : D.length ≤ 33554432 := by omega
        clear own5 hb5 bw5 ba hat HO HT cO c2
        go_wp2_with (at_builtin; refine wpList_append_ops rfl (.tmp 21) (.tmp 24) rfl w.heap.size u3 D rfl HO7.out.1 w5.heap.size 1 _ rfl HO7.out.2 hl33 bw7.size ?_; intro v8 w8 own8 gr8 hat8; have hsp8 : Hid (OwD w8 w.heap.size _ _) := HP7.out.keep (keepA_grownO HO7.out.1 gr8); have b8 := bw7.grown gr8 bw7.size (fun j hj => hge.out j hj); have HO8 : Hid (OwnO w8 w.heap.size v8 _) := own8; clear own8 gr8 hat8 HO7 HP7)
        go_roundw
        case rel => exact ⟨k + 1, _, by omega, by go_num, by simp [hDl], HO8.out, hsp8.out, b8⟩
        case measure => simp [RowKit.intOf]; omega
      · have cO := opQ_4 hg1 hkk wr
        rw [pieceQ_4 hkk] at c2
        clear he hc hs hs2 hown hsp hg1 hA1 hkk
        go_wp2_with fail
        refine cO.mono ?_; rintro r w5 ⟨v', rfl, own5, hb5⟩
        obtain ⟨p5, c5, rfl⟩ := own_slice own5
        have bw5 : Below w.heap.size w w5 := hbw.trans (hb5.mono hlz)
        obtain ⟨ek, et, ⟨ex, en, eu⟩, ec, eA⟩ := e
        have ba : Below w5.heap.size w5 (w5.alloc (.cells #[.int .i64 ek, .string et, .int .i64 ex, .int .i64 en, .string eu, .int .i64 ec, .slice p5 eA.length c5] 48)) := (Below.refl _ _).alloc (Nat.le_refl _) _
        have hat : OpAt (w5.alloc (.cells #[.int .i64 ek, .string et, .int .i64 ex, .int .i64 en, .string eu, .int .i64 ec, .slice p5 eA.length c5] 48)) w5.heap.size 0 (ek, et, (ex, en, eu), ec, p5, eA.length, c5) := ⟨by simp, by simp, by simp, by simp, by simp, by simp, by simp⟩
        have HO7 : Hid (OwnO (w5.alloc (.cells #[.int .i64 ek, .string et, .int .i64 ex, .int .i64 en, .string eu, .int .i64 ec, .slice p5 eA.length c5] 48)) w.heap.size u3 D ∧ OpAt (w5.alloc (.cells #[.int .i64 ek, .string et, .int .i64 ex, .int .i64 en, .string eu, .int .i64 ec, .slice p5 eA.length c5] 48)) w5.heap.size 0 (ek, et, (ex, en, eu), ec, p5, eA.length, c5)) := ⟨owns_below (owns_below HO.out.1 hb5) ba, hat⟩
        have HP7 : Hid (OwD (w5.alloc (.cells #[.int .i64 ek, .string et, .int .i64 ex, .int .i64 en, .string eu, .int .i64 ec, .slice p5 eA.length c5] 48)) w.heap.size (D ++ [(ek, et, (ex, en, eu), ec, p5, eA.length, c5)]) (E.take (k + 1))) := by
          show OwD _ _ _ _
          rw [HT.out]
          exact forall2_append ((HO.out.2.below hb5).below ba) (.cons ⟨rfl, rfl, rfl, rfl, own_weaken (owns_below own5 ba) hlz⟩ .nil)
        have bw7 := bw5.trans (ba.mono bw5.size)
        have hl33 : D.length ≤ 33554432 := by omega
        clear own5 hb5 bw5 ba hat HO HT cO c2
        go_wp2_with (at_builtin; refine wpList_append_ops rfl (.tmp 21) (.tmp 24) rfl w.heap.size u3 D rfl HO7.out.1 w5.heap.size 1 _ rfl HO7.out.2 hl33 bw7.size ?_; intro v8 w8 own8 gr8 hat8; have hsp8 : Hid (OwD w8 w.heap.size _ _) := HP7.out.keep (keepA_grownO HO7.out.1 gr8); have b8 := bw7.grown gr8 bw7.size (fun j hj => hge.out j hj); have HO8 : Hid (OwnO w8 w.heap.size v8 _) := own8; clear own8 gr8 hat8 HO7 HP7)
        go_roundw
        case rel => exact ⟨k + 1, _, by omega, by go_num, by simp [hDl], HO8.out, hsp8.out, b8⟩
        case measure => simp [RowKit.intOf]; omega
    · have hltI : ¬ (k : Int) < n := by omega
      have hE : E.take k = E := List.take_of_length_le (by rw [HN.out]; omega)
      rw [hE] at hsp
      have HX : Hid (CoO wr w.heap.size u3 E) := ⟨D, hown, hsp⟩
      clear hown hsp
      go_wp2
      go_ret
      exact ⟨_, rfl, HX.out, hbw⟩
end Go.Proofs.YtfllomfjhkgaoaaGreatDoor

/- vellumhand.Make, Is; vellumlaw06's gone, text, large, lives. -/
namespace Go.Proofs.YtfllomfjhkgaoaaGreatDoor
open Go Go.RowKit Go.Lib
set_option linter.unusedVariables false

set_option maxHeartbeats 1000000 in
theorem make_any {I : List Nat} {a : Nat → Addr} (v : Value) (E : List Op5) (w : World) (hI : ∀ i ∈ IxO, i ∈ I) (hS : Std I a w) (hv : ReO w v E) (hF : FitL E) (hl : E.length ≤ 1048576) (ht : txtS E ≤ 8388608) :
    Calls Tryz.prog 22 #[v] w fun r w' => ∃ dv, r = .returned dv ∧ ((ofE 0 0 E).2 = 0 → DelV w' w.heap.size w.heap.size dv (canonL E)) ∧ ((ofE 0 0 E).2 ≠ 0 → dv = .pointer none) ∧ Below w.heap.size w w' := by
  have c1 := buildOf_any v E w hI hS hv hF hl ht
  obtain ⟨D, ⟨p, cap, rfl, _, _, _⟩, hre⟩ := hv
  rw [forall2_len hre] at c1 ⊢
  clear hS hI hF hre ht
  obtain ⟨x, hx⟩ : ∃ x, ofE 0 0 E = x := ⟨_, rfl⟩
  rw [hx] at c1 ⊢
  clear hx
  obtain ⟨i, e⟩ := x
  obtain ⟨i1, hi1⟩ : ∃ z : Int, (i : Int) = z := ⟨_, rfl⟩
  simp only at c1 ⊢
  rw [hi1] at c1
  clear hi1
  cases e with
  | zero =>
    rw [errOf_zero] at c1
    go_enter Tryz.func22, Tryz.ntmps22
    go_wp2_with fail
    refine c1.mono ?_; rintro r w2 ⟨dv, rfl, hd, _, hb2⟩
    obtain ⟨q, pv, PL, rfl, hq⟩ := hd (by first | trivial | rfl)
    have HD : Hid (DelV w2 w.heap.size w.heap.size (.pointer (some ⟨q, 0, none⟩)) (canonL E)) := ⟨q, pv, PL, rfl, hq⟩
    clear c1 hd hq
    go_wp2
    go_ret
    exact ⟨_, rfl, fun _ => HD.out, fun h => absurd rfl h, hb2⟩
  | succ e =>
    rw [errOf_succ] at c1
    go_enter Tryz.func22, Tryz.ntmps22
    go_wp2_with fail
    refine c1.mono ?_; rintro r w2 ⟨dv, rfl, _, hd, hb2⟩
    obtain rfl := hd (by omega)
    clear c1 hd
    go_wp2
    go_ret
    exact ⟨_, rfl, fun h => (by cases h), fun _ => rfl, hb2⟩
/-- Lists that the calls read. -/
structure OkR (E : List Op5) : Prop where
  n : ∀ o ∈ E, o.A.length ≤ 1048576
  len : E.length ≤ 2097152
set_option maxHeartbeats 1000000 in
theorem is_any {B1 B2 : Nat} (d v : Value) (E F : List Op5) (w : World) (h : DelV w B1 B2 d E) (hg : ∀ o ∈ E, opE o = 0) (hE : OkR E) (hv : ReO w v F) (hF : OkR F) :
    Calls Tryz.prog 14 #[d, v] w fun r w' => r = .returned (.bool (decide (E = F))) ∧ Below w.heap.size w w' := by
  have c1 := ops_any d E w h hg (fun o ho => by have := hE.n o ho; omega) (by have := hE.len; omega)
  have c2 : Hid (∀ W v', Below w.heap.size w W → ReO W v' E → Calls Tryz.prog 37 #[v', v] W fun r w' => r = .returned (.bool (decide (E = F))) ∧ Below W.heap.size W w') := fun W v' hW h' => same6_any v' v E F W h' (hv.below hW) hE.len hF.len hE.n hF.n
  have c3 : Hid (∀ W, Below w.heap.size w W → Calls Tryz.prog 40 #[d] W fun e w' => e = .returned (.int .i64 E.length) ∧ Below W.heap.size W w') := fun W hW => count_any5 d E W (h.below hW)
  obtain ⟨q, pv, PL, rfl, _⟩ := h
  obtain ⟨D, ⟨p, cap, rfl, _, _, _⟩, hre⟩ := hv
  have hl := forall2_len hre
  rw [hl] at c2 ⊢
  obtain ⟨R, hR⟩ : ∃ x, decide (E = F) = x := ⟨_, rfl⟩
  rw [hR] at c2 ⊢
  have hlen : R = true → ((E.length : Int) == (F.length : Int)) = true := fun h => by
    rw [h] at hR
    rw [of_decide_eq_true hR]; simp
  clear hg hE hF hre hl hR
  go_enter Tryz.func14, Tryz.ntmps14
  go_wp2_with fail
  refine c1.mono ?_; rintro r w2 ⟨v', rfl, hco, hb2⟩
  have c4 := c2.out w2 v' hb2 hco.re
  clear c1 c2 hco
  go_wp2_with fail
  refine c4.mono ?_; rintro r w3 ⟨rfl, hb3⟩
  have b3 := hb2.trans (hb3.mono hb2.size)
  clear c4 hb2 hb3
  cases R with
  | true =>
    have c5 := c3.out w3 b3
    have hl2 := hlen rfl
    clear c3 hlen
    go_wp2_with fail
    refine c5.mono ?_; rintro r w4 ⟨rfl, hb4⟩
    have b4 := b3.trans (hb4.mono b3.size)
    clear c5 b3 hb4
    go_wp2
    go_ret
    exact ⟨rfl, b4⟩
  | false =>
    clear c3 hlen
    go_wp2
    go_ret
    exact ⟨rfl, b3⟩
set_option maxHeartbeats 1000000 in
theorem gone_any (n : Int) (w : World) : Calls Tryz.prog 29 #[.int .i64 n] w fun r w' => r = .returned (opV (delO n) (.slice none 0 0)) ∧ Below w.heap.size w w' := by
  go_enter Tryz.func29, Tryz.ntmps29
  go_wp2
  exact bodyPost_ret (v := opV (delO n) (.slice none 0 0)) (by simp [results, Tryz.results29, go_sem, delO, z0]) rfl ⟨rfl, by go_grown⟩
/-- A text to insert. -/
def txtO (t : ByteArray) : Op5 := ⟨1, t, z0, 0, []⟩
set_option maxHeartbeats 1000000 in
theorem text_any (t : ByteArray) (w : World) : Calls Tryz.prog 30 #[.string t] w fun r w' => r = .returned (opV (txtO t) (.slice none 0 0)) ∧ Below w.heap.size w w' := by
  go_enter Tryz.func30, Tryz.ntmps30
  go_wp2
  exact bodyPost_ret (v := opV (txtO t) (.slice none 0 0)) (by simp [results, Tryz.results30, go_sem, txtO, z0]) rfl ⟨rfl, by go_grown⟩

/-- How large a list is. -/
def larN (E : List Op5) : Int := (E.map fun o => (o.t.size : Int) + 10 * o.A.length + 10).sum
theorem larN_append (E F : List Op5) : larN (E ++ F) = larN E + larN F := by unfold larN; rw [List.map_append, List.sum_append]
theorem larN_one (o : Op5) : larN [o] = (o.t.size : Int) + 10 * o.A.length + 10 := by simp [larN]
theorem larN_le {E : List Op5} (h : FitL E) : 0 ≤ larN E ∧ larN E ≤ 20000000 * E.length := by
  induction E with
  | nil => simp [larN]
  | cons o r ih =>
    obtain ⟨h1, h2⟩ := ih (fun x hx => h x (List.mem_cons_of_mem _ hx))
    have ho := h o (List.mem_cons_self ..)
    have e : larN (o :: r) = (o.t.size : Int) + 10 * o.A.length + 10 + larN r := by simp [larN]
    have a1 := ho.t
    have a2 := ho.n
    rw [e, List.length_cons]
    omega
theorem larN_txt (E : List Op5) : (txtS E : Int) + 10 * E.length ≤ larN E := by
  induction E with
  | nil => simp [larN, txtS]
  | cons o r ih =>
    have e : larN (o :: r) = (o.t.size : Int) + 10 * o.A.length + 10 + larN r := by simp [larN]
    have e2 : txtS (o :: r) = o.t.size + txtS r := by simp [txtS]
    rw [e, e2, List.length_cons]
    omega
theorem larN_mem {E : List Op5} {o : Op5} (h : o ∈ E) : (o.t.size : Int) + 10 * o.A.length + 10 ≤ larN E := by
  induction E with
  | nil => cases h
  | cons x r ih =>
    have e : larN (x :: r) = (x.t.size : Int) + 10 * x.A.length + 10 + larN r := by simp [larN]
    have := larN_txt r
    rcases List.mem_cons.1 h with rfl | h
    · omega
    · have := ih h; omega
set_option maxHeartbeats 2000000 in
set_option maxRecDepth 100000 in
theorem large_any (v : Value) (E : List Op5) (w : World) (hv : ReO w v E) (hF : FitL E) (hl : E.length ≤ 1048576) :
    Calls Tryz.prog 7 #[v] w fun r w' => r = .returned (.bool (decide (60000 < larN E))) ∧ Below w.heap.size w w' := by
  obtain ⟨D0, hrow, hre⟩ := hv
  have hDE := forall2_len hre
  obtain ⟨n, hn⟩ : ∃ n, D0.length = n := ⟨_, rfl⟩
  obtain ⟨p, cap, rfl, hcap, hnz, hc⟩ := hrow
  have HC : Hid (∀ (j : Nat) (d : OV), D0[j]? = some d → ∃ b off, p = some ⟨b, off, none⟩ ∧ OpAt w b (off + j * 7) d) := hc
  have HN : Hid (D0.length = n ∧ E.length = n) := ⟨hn, by rw [← hDE, hn]⟩
  have hl : n ≤ 1048576 := by rw [← hn, hDE]; exact hl
  have HF : Hid (FitL E) := hF
  have HE : Hid (∀ (k : Nat) (d : OV), D0[k]? = some d → ∃ e : Op5, E[k]? = some e ∧ d.2.1 = e.t ∧ d.2.2.2.2.2.1 = e.A.length) := fun k d h => by
    obtain ⟨y, hy, r⟩ := forall2_get hre k d h
    obtain ⟨q, c, e1, _⟩ := r.2.2.2.2.row.val
    refine ⟨y, hy, r.2.1, ?_⟩
    simp only [slV, Value.slice.injEq] at e1
    exact e1.2.1
  rw [hn] at hcap ⊢
  clear hc hn hDE hre hnz hF
  go_enter Tryz.func7, Tryz.ntmps7
  go_wp2
  go_loopw [3, 8] (fun s i wr => ∃ (k : Nat) (z : Int), k ≤ n ∧ i = .int .i64 k ∧ s = .int .i64 z ∧ 0 ≤ z ∧ z ≤ 20000000 * k ∧ Hid (larN (E.take k) = z) ∧ Below w.heap.size w wr) (fun _ i _ => n - (RowKit.intOf i).toNat)
  case atStart => exact ⟨0, 0, Nat.zero_le _, rfl, rfl, by omega, by omega, by show larN (E.take 0) = 0; simp [larN], Below.refl _ _⟩
  case round =>
    obtain ⟨k, z, hk, rfl, rfl, hz0, hz1, HZ, hbw⟩ := hrel
    by_cases hlt : k < n
    · have hltI : (k : Int) < n := by omega
      obtain ⟨d, hd⟩ : ∃ d, D0[k]? = some d := ⟨_, List.getElem?_eq_getElem (by rw [HN.out.1]; exact hlt)⟩
      obtain ⟨e, he, het, hel⟩ := HE.out k d hd
      obtain ⟨b, off, rfl, hp⟩ := HC.out k d hd
      obtain ⟨c0, c1, c2, c3, c4, c5, c6⟩ := hp.below hbw
      have hfe := HF.out e (List.mem_of_getElem? he)
      have hT1 := hfe.t
      have hT2 := hfe.n
      have HS : Hid (larN (E.take (k + 1)) = z + ((e.t.size : Int) + 10 * e.A.length + 10)) := by
        show _ = _
        rw [List.take_add_one, he, Option.toList_some, larN_append, larN_one, HZ.out]
      clear hd he hp HZ hfe
      obtain ⟨dk, dt, ⟨dx, dn, du⟩, dc, ds⟩ := d
      obtain ⟨dp, dl, dcap⟩ := ds
      simp only at het hel
      rw [← het, ← hel] at HS
      rw [← het] at hT1
      rw [← hel] at hT2
      clear het hel
      simp only [slV] at c0 c1 c2 c3 c4 c5 c6
      obtain ⟨s, hs⟩ : ∃ s : Int, (dt.size : Int) = s := ⟨_, rfl⟩
      obtain ⟨L, hL⟩ : ∃ s : Int, (dl : Int) = s := ⟨_, rfl⟩
      have hs1 : 0 ≤ s ∧ s ≤ 8388608 := by omega
      have hL1 : 0 ≤ L ∧ L ≤ 1048576 := by omega
      obtain ⟨hs1, hs2⟩ := hs1
      obtain ⟨hL1, hL2⟩ := hL1
      rw [hs, hL] at HS
      have hk2 : (k : Int) ≤ 1048576 := by omega
      go_wp2
      go_roundw
      case rel => exact ⟨k + 1, z + (s + 10 * L + 10), by omega, by go_num, rfl, by omega, by omega, HS.out, hbw.alloc hbw.size _⟩
      case measure => simp [RowKit.intOf]; omega
    · have hltI : ¬ (k : Int) < n := by omega
      have hE : E.take k = E := List.take_of_length_le (by rw [HN.out.2]; omega)
      rw [hE] at HZ
      go_wp2
      go_ret
      exact ⟨by rw [HZ.out]; rfl, hbw⟩
end Go.Proofs.YtfllomfjhkgaoaaGreatDoor

/- vellumlaw06.lives answers true. -/
namespace Go.Proofs.YtfllomfjhkgaoaaGreatDoor
open Go Go.RowKit Go.Lib
set_option linter.unusedVariables false

/-- A row of operations laid at once. -/
theorem row_blk {w : World} {b : Nat} {D : List OV} (h : w.heap[b]? = some (.cells (cellsO D).toArray 48 (0, 0))) : RowO w (.slice (some ⟨b, 0, none⟩) D.length D.length) D := by
  refine ⟨some ⟨b, 0, none⟩, D.length, rfl, Nat.le_refl _, fun h => (by cases h), fun j d hd => ⟨b, 0, rfl, ?_⟩⟩
  obtain ⟨k0, k1, k2, k3, k4, k5, k6⟩ := cellsO_get D j d hd
  have e : ∀ i u, (cellsO D)[i]? = some u → w.cell? ⟨b, i, none⟩ = some u := fun i u hu => by
    rw [cell_of_heap h]
    rw [List.getElem?_toArray]
    exact hu
  rw [Nat.zero_add]
  exact ⟨e _ _ k0, e _ _ k1, e _ _ k2, e _ _ k3, e _ _ k4, e _ _ k5, e _ _ k6⟩
/-- An operation without attributes, as it lies in memory. -/
abbrev ovN (o : Op5) : OV := (o.k, o.t, o.v, o.c, (none, 0, 0))
theorem re_blk {w : World} {b : Nat} {E : List Op5} (h : w.heap[b]? = some (.cells (cellsO (E.map ovN)).toArray 48 (0, 0))) (hA : ∀ o ∈ E, o.A = []) : ReO w (.slice (some ⟨b, 0, none⟩) E.length E.length) E := by
  refine ⟨E.map ovN, ?_, ?_⟩
  · have := row_blk h
    rw [List.length_map] at this
    exact this
  · clear h
    induction E with
    | nil => exact .nil
    | cons o r ih =>
      refine .cons ⟨rfl, rfl, rfl, rfl, ?_⟩ (ih fun x hx => hA x (List.mem_cons_of_mem _ hx))
      rw [hA o (List.mem_cons_self ..)]
      exact RN.nil w
def live0 : List Op5 := [delO 1, txtO ⟨#[97]⟩, delO 2, txtO ⟨#[98]⟩, ⟨3, ⟨#[]⟩, z0, 3, []⟩]
def live1 : List Op5 := [txtO ⟨#[97, 98]⟩, delO 3]
theorem live0_ok : ofE 0 0 live0 = (0, 0) := by kernel_rfl
theorem live0_canon : canonL live0 = live1 := by kernel_rfl
theorem fit_nil {o : Op5} (h1 : o.t.size ≤ 8388608) (h2 : o.v.2.2.size ≤ 1048576) (h3 : o.A = []) : Fit o := ⟨h1, h2, fun q hq => (by rw [h3] at hq; cases hq), by rw [h3]; simp⟩
theorem live0_nil : ∀ o ∈ live0, o.A = [] := by
  intro o ho
  simp only [live0, List.mem_cons, List.not_mem_nil, or_false] at ho
  rcases ho with rfl | rfl | rfl | rfl | rfl <;> rfl
theorem live1_nil : ∀ o ∈ live1, o.A = [] := by
  intro o ho
  simp only [live1, List.mem_cons, List.not_mem_nil, or_false] at ho
  rcases ho with rfl | rfl <;> rfl
theorem live0_fit : FitL live0 := by
  intro o ho
  refine fit_nil ?_ ?_ (live0_nil o ho)
  all_goals
    simp only [live0, List.mem_cons, List.not_mem_nil, or_false] at ho
    rcases ho with rfl | rfl | rfl | rfl | rfl <;> decide
theorem live1_okR : OkR live1 := ⟨fun o ho => by rw [live1_nil o ho]; simp, by decide⟩
theorem live1_good : ∀ o ∈ live1, opE o = 0 := by
  intro o ho
  simp only [live1, List.mem_cons, List.not_mem_nil, or_false] at ho
  rcases ho with rfl | rfl <;> kernel_rfl
set_option maxHeartbeats 2000000 in
set_option maxRecDepth 100000 in
theorem lives_any {I : List Nat} {a : Nat → Addr} (w : World) (hI : ∀ i ∈ IxO, i ∈ I) (hS : Std I a w) :
    Calls Tryz.prog 6 #[] w fun r w' => r = .returned (.bool true) ∧ Below w.heap.size w w' := by
  have CO : Hid (∀ W b, Below w.heap.size w W → W.heap[b]? = some (.cells (cellsO (live0.map ovN)).toArray 48 (0, 0)) → Calls Tryz.prog 9 #[.slice (some ⟨b, 0, none⟩) 5 5] W fun r w' => ∃ dv, r = .returned (.tuple #[dv, .int .i64 0, .nilIface]) ∧ (∃ q, dv = .pointer (some ⟨q, 0, none⟩)) ∧ DelV w' W.heap.size W.heap.size dv live1 ∧ Below W.heap.size W w') := fun W b hW hb => by
    refine (buildOf_any _ live0 W hI (hS.below hW) (re_blk hb live0_nil) live0_fit (by decide) (by decide)).mono ?_
    rintro r w' ⟨dv, h1, h2, _, h4⟩
    rw [live0_ok] at h1 h2
    rw [live0_canon] at h2
    have h5 := h2 rfl
    obtain ⟨q, pv, PL, e, _⟩ := id h5
    exact ⟨dv, h1, ⟨q, e⟩, h5, h4⟩
  have CI : Hid (∀ W b dv B1 B2, DelV W B1 B2 dv live1 → W.heap[b]? = some (.cells (cellsO (live1.map ovN)).toArray 48 (0, 0)) → Calls Tryz.prog 14 #[dv, .slice (some ⟨b, 0, none⟩) 2 2] W fun r w' => r = .returned (.bool true) ∧ Below W.heap.size W w') := fun W b dv B1 B2 h hb => by
    have := is_any dv (.slice (some ⟨b, 0, none⟩) 2 2) live1 live1 W h live1_good live1_okR (re_blk hb live1_nil) live1_okR
    rw [decide_eq_true rfl] at this
    exact this
  clear hS hI
  go_enter Tryz.func6, Tryz.ntmps6
  go_wp2_with fail
  refine (gone_any _ _).mono ?_; rintro r w1 ⟨rfl, hb1⟩
  go_wp2_with fail
  refine (text_any _ _).mono ?_; rintro r w2 ⟨rfl, hb2⟩
  have b2 := hb1.trans (hb2.mono hb1.size)
  clear hb1 hb2
  go_wp2_with fail
  refine (gone_any _ _).mono ?_; rintro r w3 ⟨rfl, hb3⟩
  have b3 := b2.trans (hb3.mono b2.size)
  clear b2 hb3
  go_wp2_with fail
  refine (text_any _ _).mono ?_; rintro r w4 ⟨rfl, hb4⟩
  have b4 := b3.trans (hb4.mono b3.size)
  clear b3 hb4
  go_wp2_with fail
  refine (CO.out _ _ (b4.alloc b4.size _) (heap_alloc_new w4 _)).mono ?_; rintro r w5 ⟨dv, rfl, ⟨q, rfl⟩, hd5, hb5⟩
  have b5 := (b4.alloc b4.size _).trans (hb5.mono (Nat.le_trans b4.size (by rw [World.size_alloc]; omega)))
  have HD5 : Hid (∃ B1 B2, DelV w5 B1 B2 (.pointer (some ⟨q, 0, none⟩)) live1) := ⟨_, _, hd5⟩
  clear hb5 hd5 CO b4
  go_wp2_with fail
  refine (text_any _ _).mono ?_; rintro r w6 ⟨rfl, hb6⟩
  have b6 := b5.trans (hb6.mono b5.size)
  have HD6 : Hid (∃ B1 B2, DelV w6 B1 B2 (.pointer (some ⟨q, 0, none⟩)) live1) := by obtain ⟨_, _, h⟩ := HD5.out; exact ⟨_, _, h.below hb6⟩
  clear hb6 b5 HD5
  go_wp2_with fail
  refine (gone_any _ _).mono ?_; rintro r w7 ⟨rfl, hb7⟩
  have b7 := b6.trans (hb7.mono b6.size)
  have HD7 : Hid (∃ B1 B2, DelV w7 B1 B2 (.pointer (some ⟨q, 0, none⟩)) live1) := by obtain ⟨_, _, h⟩ := HD6.out; exact ⟨_, _, h.below hb7⟩
  clear hb7 b6 HD6
  obtain ⟨B1, B2, hd7⟩ := HD7.out
  have HD : Hid (DelV w7 B1 B2 (.pointer (some ⟨q, 0, none⟩)) live1) := hd7
  clear hd7 HD7
  go_wp2_with fail
  refine (CI.out _ _ _ B1 B2 (HD.out.below ((Below.refl _ _).alloc (Nat.le_refl _) _)) (heap_alloc_new w7 _)).mono ?_; rintro r w8 ⟨rfl, hb8⟩
  have b8 := (b7.alloc b7.size _).trans (hb8.mono (Nat.le_trans b7.size (by rw [World.size_alloc]; omega)))
  clear hb8 b7 CI HD
  go_wp2_with fail
  refine (empty_any w8).mono ?_; rintro r w9 ⟨v9, rfl, ⟨q9, pv9, PL9, rfl, _⟩, hb9⟩
  have b9 := b8.trans (hb9.mono b8.size)
  clear hb9 b8
  go_wp2_with fail
  refine (new_any (B := 0) (D := fun _ => False) w9 (Nat.zero_le _) (by simp)).mono ?_; rintro r w10 ⟨rfl, _, hb10⟩
  have b10 := b9.trans (hb10.mono b9.size)
  clear hb10 b9
  go_wp2
  go_ret
  exact ⟨rfl, b10⟩
end Go.Proofs.YtfllomfjhkgaoaaGreatDoor

/- Canonical lists of operations in order are in order. -/
namespace Go.Proofs.YtfllomfjhkgaoaaGreatDoor
open Go Go.RowKit Go.Lib
set_option linter.unusedVariables false

theorem trim_sub (P : List Op5) : (∀ x ∈ trimL P, x ∈ P) ∧ txtS (trimL P) ≤ txtS P ∧ (trimL P).length ≤ P.length := by
  rcases List.eq_nil_or_concat P with rfl | ⟨F, x, rfl⟩
  · exact ⟨fun x h => h, Nat.le_refl _, Nat.le_refl _⟩
  · rw [List.concat_eq_append]
    have e : trimL (F ++ [x]) = if plainR x then F else F ++ [x] := by
      unfold trimL
      rw [List.getLast?_concat, List.dropLast_concat]
    rw [e]
    split
    · exact ⟨fun y h => List.mem_append_left _ h, by rw [txtS_append]; omega, by simp⟩
    · exact ⟨fun y h => h, Nat.le_refl _, Nat.le_refl _⟩
/-- The canonical list of operations in order is in order, and no greater. -/
theorem canon_ok {E : List Op5} (h : OkE E) : OkE (canonL E) ∧ txtS (canonL E) ≤ txtS E ∧ (canonL E).length ≤ E.length := by
  have hz : BSz (bldR E) E.length (txtS E) := by
    have := bldR_sz E BSz.nil h.fit
    rw [Nat.zero_add, Nat.zero_add] at this
    exact this
  obtain ⟨c1, c2, c3, c4⟩ := canon_spec h.wel
  obtain ⟨s1, s2⟩ := canon_sums h.wel
  have key : (∀ x ∈ canonL E, FitA x) ∧ txtS (canonL E) ≤ txtS E ∧ (canonL E).length ≤ E.length := by
    rw [← finB_canon h.wel]
    obtain ⟨a, b, c⟩ := hz.set
    have a2 := hz.fit
    have b2 := hz.txt
    have c2 := hz.len
    unfold finB
    by_cases h0 : 0 < (bldR E).2
    · rw [if_pos h0]
      unfold setB at a b c
      rw [if_pos h0] at a b c
      exact ⟨a, b, c⟩
    · rw [if_neg h0]
      obtain ⟨t1, t2, t3⟩ := trim_sub (bldR E).1
      exact ⟨fun x hx => a2 x (t1 x hx), by omega, by omega⟩
  have hb := h.base
  have hr := h.res
  have ht := h.txt
  have hl := h.len
  exact ⟨⟨wel_good c1 (by omega), key.1, by omega, by omega, by omega, by omega⟩, key.2⟩
theorem OkE.okR {E : List Op5} (h : OkE E) (hl : E.length ≤ 2097152) : OkR E := ⟨fun o ho => (h.fit o ho).n, hl⟩
theorem OkE.fitL {E : List Op5} (h : OkE E) : FitL E := fitA_all h.fit h.txt
/-- A list that isn't large. -/
theorem small_of {E : List Op5} (h : decide (60000 < larN E) = false) : txtS E ≤ 60000 ∧ E.length ≤ 6000 ∧ ∀ o ∈ E, o.A.length ≤ 6000 := by
  have h1 := of_decide_eq_false h
  have h2 := larN_txt E
  exact ⟨by omega, by omega, fun o ho => by have := larN_mem ho; omega⟩
/-- What a loop over a list of the call's own and over a row of pieces reads. -/
theorem both_read {w : World} {B1 B2 : Nat} {v1 v2 : Value} {P : List Value} {C : List Op5} (h1 : CoO w B1 v1 C) (h2 : OwnI w B2 v2 P) (h3 : PieD w B2 P C) :
    ∃ p1 c1 p2 c2, v1 = .slice p1 C.length c1 ∧ v2 = .slice p2 C.length c2 ∧ ∀ m, m < C.length → ∃ (e : Op5) (d : OV) (b ga : Nat) (s : Value), C[m]? = some e ∧ p1 = some ⟨b, 0, none⟩ ∧ OpAt w b (0 + m * 7) d ∧ ovV d = opV e (slV d.2.2.2.2) ∧ d.1 = e.k ∧ OwnA w B1 (slV d.2.2.2.2) e.A ∧ p2 = some ⟨ga, 0, none⟩ ∧ w.cell? ⟨ga, m, none⟩ = some (pieceQ e s) ∧ OwnA w B2 s e.A := by
  obtain ⟨D, hD, hO⟩ := h1
  have hl1 := forall2_len hO
  have hl2 := forall2_len h3
  obtain ⟨p1, c1, e1⟩ := own_slice hD
  obtain ⟨p2, c2, e2⟩ := own_slice h2
  refine ⟨p1, c1, p2, c2, by rw [e1, hl1], by rw [e2, hl2], fun m hm => ?_⟩
  obtain ⟨ga, c, x, hv', hB, hx, hc⟩ := own_cell h2 m (by omega)
  obtain ⟨e, s, he, rfl, hs⟩ := oneI h3 hx
  rw [e2] at hv'
  simp only [Value.slice.injEq] at hv'
  have hd : D[m]? = some (D[m]'(by omega)) := List.getElem?_eq_getElem (by omega)
  obtain ⟨y, hy, r⟩ := forall2_get hO m _ hd
  obtain rfl : y = e := Option.some.inj (hy.symm.trans he)
  rcases hD.2 with ⟨_, h0⟩ | ⟨g, cap, cur, e3, _, _, _, _, _, _⟩
  · omega
  · rw [e1] at e3
    simp only [Value.slice.injEq] at e3
    have hD' := hD
    unfold OwnO at hD'
    rw [e1, e3.1] at hD'
    have hat := own_opAt hD' m _ hd
    exact ⟨y, D[m]'(by omega), g, ga, s, he, e3.1, hat, opV_of ⟨r.1, r.2.1, r.2.2.1, r.2.2.2.1, own_RN r.2.2.2.2⟩, r.1, r.2.2.2.2, hv'.1, hc, hs⟩
end Go.Proofs.YtfllomfjhkgaoaaGreatDoor

/- The canonical list while it is made: sizes. -/
namespace Go.Proofs.YtfllomfjhkgaoaaGreatDoor
open Go Go.RowKit Go.Lib
set_option linter.unusedVariables false

theorem base_jn {x o : Op5} (hk : x.k = o.k) : baseO (jnO x o) = baseO x + baseO o ∨ o.k = 1 ∨ o.k = 2 := by
  by_cases h : o.k = 3 ∨ o.k = 4
  · left
    rw [base_3 h, base_3 (o := x) (by omega), base_3 (o := jnO x o) (by show x.k = 3 ∨ x.k = 4; omega)]
    rfl
  · by_cases h1 : o.k = 1
    · exact Or.inr (Or.inl h1)
    · by_cases h2 : o.k = 2
      · exact Or.inr (Or.inr h2)
      · left
        have e : ∀ y : Op5, y.k = o.k → baseO y = 0 := fun y hy => by unfold baseO; rw [if_neg (by omega)]
        rw [e x hk, e o rfl, e (jnO x o) hk]; rfl
/-- Lists of operations put together bit by bit: sizes. -/
structure PQ (P : List Op5) (T : Nat) (S : Int) (L : Nat) : Prop where
  wel : ∀ x ∈ P, Wel x ∧ x.A.length ≤ 1048576
  txt : txtS P ≤ T
  sum : sumB P ≤ S
  len : P.length ≤ L
theorem PQ.push {P : List Op5} {T L : Nat} {S : Int} {o : Op5} (h : PQ P T S L) (ho : Wel o) (hA : o.A.length ≤ 1048576) : PQ (pushL P o) (T + o.t.size) (S + baseO o) (L + 1) := by
  obtain ⟨s1, s2⟩ := push_size P o
  have h1 := h.txt
  have h2 := h.len
  have h3 := h.sum
  refine ⟨?_, by omega, ?_, by omega⟩
  · rcases List.eq_nil_or_concat P with rfl | ⟨F, x, rfl⟩
    · rw [push_nil]; intro y hy; rw [List.mem_singleton.1 hy]; exact ⟨ho, hA⟩
    · rw [List.concat_eq_append] at h ⊢
      by_cases hj : x.k ≠ o.k ∨ o.k = 2 ∨ x.A ≠ o.A
      · rw [push_apart hj]
        intro y hy
        rcases List.mem_append.1 hy with hy | hy
        · exact h.wel y hy
        · rw [List.mem_singleton.1 hy]; exact ⟨ho, hA⟩
      · rw [push_join hj]
        have hx := h.wel x (List.mem_append_right _ (List.mem_singleton.2 rfl))
        have hk : x.k = o.k := Decidable.byContradiction fun e => hj (Or.inl e)
        have h2' : o.k ≠ 2 := fun e => hj (Or.inr (Or.inl e))
        have hA' : x.A = o.A := Decidable.byContradiction fun e => hj (Or.inr (Or.inr e))
        intro y hy
        rcases List.mem_append.1 hy with hy | hy
        · exact h.wel y (List.mem_append_left _ hy)
        · rw [List.mem_singleton.1 hy]
          exact ⟨(join_wel hx.1 ho hk h2' hA').1, hx.2⟩
  · rcases List.eq_nil_or_concat P with rfl | ⟨F, x, rfl⟩
    · rw [push_nil, sumB_one]; have : sumB ([] : List Op5) = 0 := rfl; omega
    · rw [List.concat_eq_append] at h3 ⊢
      by_cases hj : x.k ≠ o.k ∨ o.k = 2 ∨ x.A ≠ o.A
      · rw [push_apart hj, sumB_append, sumB_one]; omega
      · rw [push_join hj, sumB_append, sumB_one]
        rw [sumB_append, sumB_one] at h3
        have hk : x.k = o.k := Decidable.byContradiction fun e => hj (Or.inl e)
        rcases base_jn hk with e | e | e
        · rw [e]; omega
        · rw [base_1 (o := jnO x o) (by show x.k = 1 ∨ x.k = 2; omega), base_1 (o := o) (Or.inl e)]
          rw [base_1 (o := x) (by omega)] at h3
          omega
        · exact absurd (Or.inr (Or.inl e)) hj
theorem PQ.up {P : List Op5} {T T' L L' : Nat} {S S' : Int} (h : PQ P T S L) (h1 : T ≤ T') (h2 : S ≤ S') (h3 : L ≤ L') : PQ P T' S' L' := ⟨h.wel, Nat.le_trans h.txt h1, Int.le_trans h.sum h2, Nat.le_trans h.len h3⟩
theorem PQ.fold : ∀ (G : List Op5) {P : List Op5} {T L : Nat} {S : Int}, PQ P T S L → (∀ o ∈ G, (Wel o ∧ o.A.length ≤ 1048576) ∧ (o.k = 1 ∨ o.k = 2)) → PQ (G.foldl pushL P) (T + txtS G) S (L + G.length)
  | [], P, T, L, S, h, _ => h
  | o :: r, P, T, L, S, h, hG => by
    obtain ⟨⟨h1, h2⟩, h3⟩ := hG o (List.mem_cons_self ..)
    have hp := h.push h1 h2
    rw [base_1 h3, Int.add_zero] at hp
    have := PQ.fold r hp (fun x hx => hG x (List.mem_cons_of_mem _ hx))
    have e : txtS (o :: r) = o.t.size + txtS r := by simp [txtS]
    rw [e, List.length_cons]
    exact this.up (by omega) (Int.le_refl _) (by omega)
/-- The document's state behind some operations: sizes. -/
structure RunQ (F : List Op5) (s : List Op5 × List Op5 × Int) : Prop where
  out : ∃ T S L, PQ s.1 T S L ∧ T + txtS s.2.1 ≤ txtS F ∧ S + s.2.2 ≤ sumB F ∧ L + s.2.1.length + (if 0 < s.2.2 then 1 else 0) ≤ F.length
  gap : ∀ o ∈ s.2.1, (Wel o ∧ o.A.length ≤ 1048576) ∧ (o.k = 1 ∨ o.k = 2)
  nn : 0 ≤ s.2.2
theorem RunQ.nil : RunQ [] ([], [], 0) := ⟨⟨0, 0, 0, ⟨fun x h => (by cases h), by simp [txtS], by simp [sumB], by simp⟩, by simp [txtS], by simp [sumB], by simp⟩, fun o h => (by cases h), Int.le_refl 0⟩
theorem flush_q {F : List Op5} {s : List Op5 × List Op5 × Int} (h : RunQ F s) : PQ (flushL s.1 s.2.1 s.2.2) (txtS F) (sumB F) F.length := by
  obtain ⟨⟨T, S, L, h1, h2, h3, h4⟩, h5, h6⟩ := h
  have hf := PQ.fold s.2.1 h1 h5
  unfold flushL
  split
  · rename_i h0
    rw [if_pos h0] at h4
    have := hf.push (delO_wel (n := s.2.2) (by omega)) (by show (0 : Nat) ≤ _; omega)
    rw [base_3 (o := delO s.2.2) (Or.inr rfl)] at this
    exact this.up (by show T + txtS s.2.1 + 0 ≤ _; omega) (by show S + s.2.2 ≤ _; omega) (by omega)
  · exact hf.up (by omega) (by omega) (by omega)
theorem RunQ.step {F : List Op5} {s : List Op5 × List Op5 × Int} {o : Op5} (h : RunQ F s) (ho : Wel o) (hA : o.A.length ≤ 1048576) : RunQ (F ++ [o]) (stepC s o) := by
  have e1 := txtS_append F [o]
  have e2 := sumB_append F [o]
  rw [txtS_one] at e1
  rw [sumB_one] at e2
  have e3 : (F ++ [o]).length = F.length + 1 := by simp
  have hq := flush_q h
  have hn := h.nn
  unfold stepC
  rcases ho.kinds with hk | hk | hk | hk
  · rw [if_pos (Or.inl hk)]
    rw [base_1 (Or.inl hk)] at e2
    obtain ⟨T, S, L, h1, h2, h3, h4⟩ := h.out
    refine ⟨⟨T, S, L, h1, ?_, by show S + s.2.2 ≤ _; omega, ?_⟩, fun x hx => ?_, hn⟩
    · show T + txtS (s.2.1 ++ [o]) ≤ _; rw [txtS_append, txtS_one]; omega
    · show L + (s.2.1 ++ [o]).length + _ ≤ _; rw [List.length_append]; simp only [List.length_singleton]; omega
    · rcases List.mem_append.1 hx with hx | hx
      · exact h.gap x hx
      · rw [List.mem_singleton.1 hx]; exact ⟨⟨ho, hA⟩, Or.inl hk⟩
  · rw [if_pos (Or.inr hk)]
    rw [base_1 (Or.inr hk)] at e2
    obtain ⟨T, S, L, h1, h2, h3, h4⟩ := h.out
    refine ⟨⟨T, S, L, h1, ?_, by show S + s.2.2 ≤ _; omega, ?_⟩, fun x hx => ?_, hn⟩
    · show T + txtS (s.2.1 ++ [o]) ≤ _; rw [txtS_append, txtS_one]; omega
    · show L + (s.2.1 ++ [o]).length + _ ≤ _; rw [List.length_append]; simp only [List.length_singleton]; omega
    · rcases List.mem_append.1 hx with hx | hx
      · exact h.gap x hx
      · rw [List.mem_singleton.1 hx]; exact ⟨⟨ho, hA⟩, Or.inr hk⟩
  · rw [if_neg (by omega), if_neg (by omega)]
    have hp := hq.push ho hA
    exact ⟨⟨_, _, _, hp, by show txtS F + o.t.size + txtS [] ≤ _; rw [show txtS [] = 0 from rfl]; omega, by show sumB F + baseO o + 0 ≤ _; omega, by show F.length + 1 + 0 + (if (0 : Int) < 0 then 1 else 0) ≤ _; simp⟩, fun x hx => (by cases hx), Int.le_refl 0⟩
  · rw [if_neg (by omega), if_pos hk]
    rw [base_3 (Or.inr hk)] at e2
    have hc := ho.count (Or.inr hk)
    obtain ⟨T, S, L, h1, h2, h3, h4⟩ := h.out
    refine ⟨⟨T, S, L, h1, by show T + txtS s.2.1 ≤ _; omega, by show S + (s.2.2 + o.c) ≤ _; omega, ?_⟩, h.gap, by show 0 ≤ s.2.2 + o.c; omega⟩
    show L + s.2.1.length + (if 0 < s.2.2 + o.c then 1 else 0) ≤ _
    rw [if_pos (by omega)]; omega
theorem runC_snoc (F : List Op5) (o : Op5) : runC (F ++ [o]) = stepC (runC F) o := by unfold runC; rw [List.foldl_append]; rfl
theorem runQ_take {E : List Op5} (h : OkE E) : ∀ k, k ≤ E.length → RunQ (E.take k) (runC (E.take k)) := fun k => by
  induction k with
  | zero => intro _; rw [List.take_zero]; exact RunQ.nil
  | succ k ih =>
    intro hk
    have he : E[k]? = some E[k] := List.getElem?_eq_getElem (by omega)
    have hm : E[k] ∈ E := List.getElem_mem _
    rw [List.take_add_one, he, Option.toList_some, runC_snoc]
    exact (ih (by omega)).step (h.wel _ hm) (h.fit _ hm).n
/-- What push asks of the operations ahead. -/
theorem PQ.ask {P : List Op5} {T L : Nat} {S : Int} (h : PQ P T S L) (hT : T ≤ 8388608) (hS : S ≤ 2199023255552) : ∀ x ∈ P, Wel x ∧ x.A.length ≤ 2097152 ∧ x.t.size ≤ 8388608 ∧ x.c ≤ 2199023255552 := fun x hx => by
  obtain ⟨h1, h2⟩ := h.wel x hx
  have h3 := txtS_mem hx
  have h4 := h.txt
  have h5 := h.sum
  have h6 := cnt_le (fun y hy => (h.wel y hy).1) hx
  exact ⟨h1, by omega, by omega, by omega⟩
end Go.Proofs.YtfllomfjhkgaoaaGreatDoor

/- The document's deltas: Canonical. -/
namespace Go.Proofs.YtfllomfjhkgaoaaGreatDoor
open Go Go.RowKit Go.Lib
set_option linter.unusedVariables false

/-- Two rows of the call's own, apart. -/
structure CanS (w0 wc W : World) (vo vg : Value) (PO PG : List Op5) : Prop where
  out : ∃ D, OwnO W wc.heap.size vo D ∧ ReD w0 D PO
  gap : ∃ D, OwnO W wc.heap.size vg D ∧ ReD w0 D PG
  apart : ∀ k, vo.ownBlock = some k → vg.ownBlock ≠ some k
  below : Below wc.heap.size wc W
  base : Below w0.heap.size w0 wc
theorem CanS.keep {w0 wc W W' : World} {vo vg : Value} {PO PG : List Op5} (h : CanS w0 wc W vo vg PO PG) (b : Below W.heap.size W W') : CanS w0 wc W' vo vg PO PG := by
  obtain ⟨D, a1, a2⟩ := h.out
  obtain ⟨G, b1, b2⟩ := h.gap
  exact ⟨⟨D, owns_below a1 b, a2⟩, ⟨G, owns_below b1 b, b2⟩, h.apart, h.below.trans (b.mono h.below.size), h.base⟩
theorem CanS.pushed {w0 wc W W' : World} {vo vg : Value} {PO PG P : List Op5} {e : Ending} (h : CanS w0 wc W vo vg PO PG) (r : PushR w0 wc.heap.size W W' vo e P) : ∃ v', e = .returned v' ∧ CanS w0 wc W' v' vg P PG := by
  obtain ⟨v', D', rfl, h1, h2, h3, h4⟩ := r
  obtain ⟨D, a1, a2⟩ := h.out
  obtain ⟨G, b1, b2⟩ := h.gap
  have hlt : ∀ k, vg.ownBlock = some k → k < W.heap.size := fun k hk => by
    obtain ⟨_, cur, hc⟩ := owns_block b1 k hk
    exact (Array.getElem?_eq_some_iff.1 hc).1
  refine ⟨v', rfl, ⟨D', h1, h2⟩, ⟨G, owns_same b1 fun k hk => h3.block k (hlt k hk) (fun e => h.apart k e hk), b2⟩, fun k hk hg => ?_, ?_, h.base⟩
  · rcases h4 with h4 | ⟨j, h4, h5⟩
    · exact h.apart k (h4 ▸ hk) hg
    · rw [h4] at hk
      obtain rfl : j = k := Option.some.inj hk
      have := hlt j hg
      omega
  · have := h3.below (B := wc.heap.size) h.below.size (fun k hk => (owns_block a1 k hk).1)
    exact h.below.trans this
theorem CanS.gapped {w0 wc W w8 : World} {vo vg v8 : Value} {PO PG : List Op5} {e : Op5} {sp : Option Addr} {sl sc : Nat} (h : CanS w0 wc W vo vg PO PG) {D : List OV} (hD : ReD w0 D PG) (hr : RN w0 (.slice sp sl sc) e.A) (h1 : OwnO w8 wc.heap.size v8 (D ++ [(e.k, e.t, e.v, e.c, (sp, sl, sc))])) (gr : W.grownBy w8 vg.ownBlock) (hat : v8.ownBlock = vg.ownBlock ∨ v8.ownBlock = some W.heap.size) : CanS w0 wc w8 vo v8 PO (PG ++ [e]) := by
  obtain ⟨DO, a1, a2⟩ := h.out
  obtain ⟨G, b1, b2⟩ := h.gap
  have hlt : ∀ k, vo.ownBlock = some k → k < W.heap.size := fun k hk => by
    obtain ⟨_, cur, hc⟩ := owns_block a1 k hk
    exact (Array.getElem?_eq_some_iff.1 hc).1
  refine ⟨⟨DO, owns_same a1 fun k hk => gr.block k (hlt k hk) (fun e => h.apart k hk e.symm), a2⟩, ⟨_, h1, forall2_append hD (.cons ⟨rfl, rfl, rfl, rfl, hr⟩ .nil)⟩, fun k hk hg => ?_, ?_, h.base⟩
  · rcases hat with e | e
    · exact h.apart k hk (e ▸ hg)
    · rw [e] at hg
      obtain rfl : W.heap.size = k := Option.some.inj hg
      have := hlt _ hk
      omega
  · exact h.below.grown gr h.below.size (fun k hk => (owns_block b1 k hk).1)
theorem CanS.cleared {w0 wc W : World} {vo vg : Value} {PO PG : List Op5} (h : CanS w0 wc W vo vg PO PG) : CanS w0 wc W vo (.slice none 0 0) PO [] :=
  ⟨h.out, ⟨[], ⟨rfl, Or.inl ⟨rfl, rfl⟩⟩, .nil⟩, fun k _ h => (by cases h), h.below, h.base⟩
theorem CanS.len {w0 wc W : World} {vo vg : Value} {PO PG : List Op5} (h : CanS w0 wc W vo vg PO PG) : ∃ p c, vg = .slice p PG.length c := by
  obtain ⟨G, b1, b2⟩ := h.gap
  obtain ⟨p, c, e⟩ := own_slice b1
  exact ⟨p, c, by rw [e, forall2_len b2]⟩
theorem CanS.read {w0 wc W : World} {vo : Value} {PO PG : List Op5} {p : Option Addr} {l c : Nat} (h : CanS w0 wc W vo (.slice p l c) PO PG) (j : Nat) (hj : j < PG.length) : ∃ (e : Op5) (b : Nat) (sp : Option Addr) (sl sc : Nat), PG[j]? = some e ∧ p = some ⟨b, 0, none⟩ ∧ OpAt W b (0 + j * 7) (e.k, e.t, e.v, e.c, (sp, sl, sc)) ∧ RN w0 (.slice sp sl sc) e.A := by
  obtain ⟨G, b1, b2⟩ := h.gap
  have hl := forall2_len b2
  obtain ⟨d, hd⟩ : ∃ d, G[j]? = some d := ⟨_, List.getElem?_eq_getElem (by omega)⟩
  obtain ⟨e, he, h1, h2, h3, h4, h5⟩ := forall2_get b2 j d hd
  obtain ⟨dk, dt, dv, dc, sp, sl, sc⟩ := d
  simp only at h1 h2 h3 h4
  subst h1; subst h2; subst h3; subst h4
  obtain ⟨q, cc, hv⟩ := own_slice b1
  rcases b1.2 with ⟨_, h0⟩ | ⟨g, cap, cur, e1, _⟩
  · omega
  · cases e1
    exact ⟨e, g, sp, sl, sc, he, rfl, own_opAt b1 j _ hd, h5⟩
/-- push on the rows. -/
theorem push_can {w0 wc W : World} {vo vg : Value} {PO PG : List Op5} {T L : Nat} {S : Int} (o : Op5) (sp : Option Addr) (sl sc : Nat) (h : CanS w0 wc W vo vg PO PG) (ho : RN w0 (.slice sp sl sc) o.A) (q : PQ PO T S L) (hT : T ≤ 8388608) (hS : S ≤ 2199023255552) (hL : L ≤ 4194304) (how : Wel o) (hn2 : o.A.length ≤ 1048576) (hot : o.t.size ≤ 8388608) (hoc : o.c ≤ 2199023255552) :
    Calls Tryz.prog 45 #[vo, opV o (.slice sp sl sc)] W fun e w' => ∃ v', e = .returned v' ∧ CanS w0 wc w' v' vg (pushL PO o) PG := by
  obtain ⟨D, a1, a2⟩ := h.out
  have hl := q.len
  exact (push6_any vo D PO o sp sl sc W h.below.size (h.base.trans (h.below.mono h.base.size)) a1 a2 ho (by omega) (q.ask hT hS) how (by omega) hot hoc).mono fun e w' r => h.pushed r
/-- The sizes while a gap is put behind. -/
theorem RunQ.fold {F : List Op5} {s : List Op5 × List Op5 × Int} (h : RunQ F s) (j : Nat) : PQ ((s.2.1.take j).foldl pushL s.1) (txtS F) (sumB F) F.length := by
  obtain ⟨⟨T, S, L, h1, h2, h3, h4⟩, h5, h6⟩ := h
  have hf := PQ.fold (s.2.1.take j) h1 (fun o ho => h5 o (List.mem_of_mem_take ho))
  have e1 := txtS_take s.2.1 j
  have e2 : (s.2.1.take j).length ≤ s.2.1.length := by rw [List.length_take]; omega
  exact hf.up (by omega) (by omega) (by split at h4 <;> omega)
/-- The state ahead of the m-th round. -/
def stA (E : List Op5) (m : Nat) : List Op5 × List Op5 × Int := if m ≤ E.length then runC (E.take m) else (flushL (runC E).1 (runC E).2.1 (runC E).2.2, [], 0)
theorem stA_end (E : List Op5) : stA E (E.length + 1) = (flushL (runC E).1 (runC E).2.1 (runC E).2.2, [], 0) := by unfold stA; rw [if_neg (by omega)]
theorem stA_at {E : List Op5} {m : Nat} (h : m ≤ E.length) : stA E m = runC (E.take m) := by unfold stA; rw [if_pos h]
theorem stA_succ {E : List Op5} {m : Nat} {e : Op5} (h : E[m]? = some e) : stA E (m + 1) = stepC (stA E m) e := by
  have hm : m < E.length := (List.getElem?_eq_some_iff.1 h).1
  rw [stA_at (by omega), stA_at (by omega), List.take_add_one, h, Option.toList_some, runC_snoc]
theorem stA_ins {E : List Op5} {m : Nat} {e : Op5} (h : E[m]? = some e) (hk : e.k = 1 ∨ e.k = 2) : stA E (m + 1) = ((stA E m).1, (stA E m).2.1 ++ [e], (stA E m).2.2) := by rw [stA_succ h]; unfold stepC; rw [if_pos hk]
theorem stA_del {E : List Op5} {m : Nat} {e : Op5} (h : E[m]? = some e) (hk : e.k = 4) : stA E (m + 1) = ((stA E m).1, (stA E m).2.1, (stA E m).2.2 + e.c) := by rw [stA_succ h]; unfold stepC; rw [if_neg (by omega), if_pos hk]
theorem stA_ret {E : List Op5} {m : Nat} {e : Op5} (h : E[m]? = some e) (hk : e.k = 3) : stA E (m + 1) = (pushL (flushL (stA E m).1 (stA E m).2.1 (stA E m).2.2) e, [], 0) := by rw [stA_succ h]; unfold stepC; rw [if_neg (by omega), if_neg (by omega)]
theorem trim_nil : trimL [] = [] := rfl
theorem trim_yes {F : List Op5} {x : Op5} (h : plainR x = true) : trimL (F ++ [x]) = F := by unfold trimL; rw [List.getLast?_concat]; simp only; rw [if_pos h, List.dropLast_concat]
theorem trim_no {F : List Op5} {x : Op5} (h : plainR x = false) : trimL (F ++ [x]) = F ++ [x] := by unfold trimL; rw [List.getLast?_concat]; simp only; rw [if_neg (by simp [h])]
/-- The sizes of the state ahead of the m-th round. -/
theorem stA_q {E : List Op5} (h : OkE E) {m : Nat} (hm : m ≤ E.length) : (∀ j, PQ (((stA E m).2.1.take j).foldl pushL (stA E m).1) 8388608 1099511627776 4194304) ∧ PQ (flushL (stA E m).1 (stA E m).2.1 (stA E m).2.2) 8388608 1099511627776 4194304 ∧ (∀ o ∈ (stA E m).2.1, Wel o ∧ o.A.length ≤ 1048576 ∧ o.t.size ≤ 8388608 ∧ o.c ≤ 2199023255552) ∧ 0 ≤ (stA E m).2.2 ∧ (stA E m).2.2 ≤ 1099511627776 ∧ (stA E m).2.1.length ≤ 4194304 := by
  rw [stA_at hm]
  have q := runQ_take h m hm
  have t1 := txtS_take E m
  have t2 := h.txt
  have t3 := h.len
  have t4 : (E.take m).length ≤ E.length := by rw [List.length_take]; omega
  have t5 : sumB (E.take m) ≤ sumB E := by
    have := sumB_append (E.take m) (E.drop m)
    rw [List.take_append_drop] at this
    have := (sums_nn (E := E.drop m) (fun o ho => h.wel o (List.mem_of_mem_drop ho))).1
    omega
  have t6 := h.base
  obtain ⟨⟨T, S, L, h1, h2, h3, h4⟩, h5, h6⟩ := q
  have hS : 0 ≤ S := by
    have := (sums_nn (E := (runC (E.take m)).1) (fun o ho => (h1.wel o ho).1)).1
    have := h1.sum
    omega
  have q := runQ_take h m hm
  refine ⟨fun j => (q.fold j).up (by omega) (by omega) (by omega), (flush_q q).up (by omega) (by omega) (by omega), fun o ho => ?_, h6, by omega, by split at h4 <;> omega⟩
  obtain ⟨⟨a1, a2⟩, a3⟩ := h5 o ho
  have := txtS_mem ho
  refine ⟨a1, a2, by omega, ?_⟩
  rcases a1 with ⟨hi, _⟩ | ⟨b, _⟩ | ⟨b, _⟩
  · rw [hi.count]; omega
  · omega
  · omega
/-- A row of operations in a block from a mark on. -/
def FarO (w : World) (B : Nat) (v : Value) (D : List OV) : Prop :=
  ∃ p cap, v = .slice p D.length cap ∧ D.length ≤ cap ∧ (p = none → cap = 0) ∧ ∀ (j : Nat) (d : OV), D[j]? = some d → ∃ b off, p = some ⟨b, off, none⟩ ∧ B ≤ b ∧ OpAt w b (off + j * 7) d
theorem FarO.row {w : World} {B : Nat} {v : Value} {D : List OV} (h : FarO w B v D) : RowO w v D := by
  obtain ⟨p, cap, h1, h2, h3, h4⟩ := h
  exact ⟨p, cap, h1, h2, h3, fun j d hd => by obtain ⟨b, off, a1, _, a2⟩ := h4 j d hd; exact ⟨b, off, a1, a2⟩⟩
theorem FarO.below {w w' : World} {B : Nat} {v : Value} {D : List OV} (h : FarO w B v D) (hb : Below w.heap.size w w') : FarO w' B v D := by
  obtain ⟨p, cap, h1, h2, h3, h4⟩ := h
  exact ⟨p, cap, h1, h2, h3, fun j d hd => by obtain ⟨b, off, a1, a0, a2⟩ := h4 j d hd; exact ⟨b, off, a1, a0, a2.below hb⟩⟩
theorem FarO.weaken {w : World} {B C : Nat} {v : Value} {D : List OV} (h : FarO w B v D) (hc : C ≤ B) : FarO w C v D := by
  obtain ⟨p, cap, h1, h2, h3, h4⟩ := h
  exact ⟨p, cap, h1, h2, h3, fun j d hd => by obtain ⟨b, off, a1, a0, a2⟩ := h4 j d hd; exact ⟨b, off, a1, Nat.le_trans hc a0, a2⟩⟩
theorem far_own {w : World} {B : Nat} {v : Value} {D F : List OV} {n cap : Nat} {p : Option Addr} (h : OwnO w B v D) (hv : v = .slice p n cap) (hF : ∀ (j : Nat) (d : OV), F[j]? = some d → D[j]? = some d) (hl : F.length ≤ D.length) : FarO w B (.slice p F.length cap) F := by
  rcases h.2 with ⟨e1, h0⟩ | ⟨g, c, cur, e1, h2, h3, h4, h5⟩
  · rw [hv] at e1
    simp only [Value.slice.injEq] at e1
    obtain ⟨rfl, _, rfl⟩ := e1
    obtain rfl : F = [] := List.eq_nil_of_length_eq_zero (by omega)
    exact ⟨none, 0, rfl, Nat.le_refl _, fun _ => rfl, fun j d hd => (by simp at hd)⟩
  · rw [hv] at e1
    simp only [Value.slice.injEq] at e1
    obtain ⟨rfl, rfl, rfl⟩ := e1
    rw [hv] at h
    exact ⟨_, cap, rfl, by omega, fun h => (by cases h), fun j d hd => ⟨g, 0, rfl, h2, own_opAt h j d (hF j d hd)⟩⟩
set_option maxHeartbeats 40000000 in
set_option maxRecDepth 100000 in
theorem canon6_any {w0 : World} (va : Value) (D0 : List OV) (E : List Op5) (w : World) (hb0 : Below w0.heap.size w0 w) (hrow : RowO w va D0) (hre : ReD w0 D0 E) (ok : OkE E) :
    Calls Tryz.prog 19 #[va] w fun r w' => ∃ v', r = .returned v' ∧ (∃ D', FarO w' w.heap.size v' D' ∧ ReD w0 D' (canonL E)) ∧ Below w.heap.size w w' := by
  have hDE := forall2_len hre
  obtain ⟨n, hn⟩ : ∃ n, E.length = n := ⟨_, rfl⟩
  obtain ⟨p, cap, rfl, hcap, hnz, hc⟩ := hrow
  have HR : Hid (∀ k, k < n → ∃ (e : Op5) (b off : Nat) (sp : Option Addr) (sl sc : Nat), E[k]? = some e ∧ p = some ⟨b, off, none⟩ ∧ OpAt w b (off + k * 7) (e.k, e.t, e.v, e.c, (sp, sl, sc)) ∧ RN w0 (.slice sp sl sc) e.A) := fun k hk => by
    obtain ⟨d, hd⟩ : ∃ d, D0[k]? = some d := ⟨_, List.getElem?_eq_getElem (by omega)⟩
    obtain ⟨e, he, h1, h2, h3, h4, h5⟩ := forall2_get hre k d hd
    obtain ⟨b, off, hp, hat⟩ := hc k d hd
    obtain ⟨dk, dt, dv, dc, sp, sl, sc⟩ := d
    simp only at h1 h2 h3 h4
    subst h1; subst h2; subst h3; subst h4
    exact ⟨e, b, off, sp, sl, sc, he, hp, hat, h5⟩
  have HN : Hid (E.length = n ∧ OkE E) := ⟨hn, ok⟩
  have hnl : n ≤ 4194304 := by have := ok.len; omega
  rw [hDE, hn] at hcap ⊢
  clear hc hDE hre hnz ok hn
  have hcs : CanS w0 w ((w.alloc (.cells #[] 48)).alloc (.cells #[] 48)) (.slice (some ⟨w.heap.size, 0, none⟩) 0 0) (.slice (some ⟨w.heap.size + 1, 0, none⟩) 0 0) [] [] := by
    have o1 := own_emptyO w w.heap.size (Nat.le_refl _)
    have b1 := (Below.refl w.heap.size w).alloc (Nat.le_refl _) (.cells #[] 48)
    have s1 : (w.alloc (.cells #[] 48)).heap.size = w.heap.size + 1 := by simp
    have o2 := own_emptyO (w.alloc (.cells #[] 48)) w.heap.size (by omega)
    rw [s1] at o2
    refine ⟨⟨[], owns_below o1 ((Below.refl _ _).alloc (Nat.le_refl _) _), .nil⟩, ⟨[], o2, .nil⟩, fun k h1 h2 => ?_, b1.alloc b1.size _, hb0⟩
    have e1 : w.heap.size = k := Option.some.inj h1
    have e2 : w.heap.size + 1 = k := Option.some.inj h2
    omega
  have HS0 : Hid (CanS w0 w ((w.alloc (.cells #[] 48)).alloc (.cells #[] 48)) (.slice (some ⟨w.heap.size, 0, none⟩) 0 0) (.slice (some ⟨w.heap.size + 1, 0, none⟩) 0 0) (stA E 0).1 (stA E 0).2.1) := by
    rw [stA_at (Nat.zero_le _), List.take_zero]; exact hcs
  have hz0 : (0 : Int) = (stA E 0).2.2 := by rw [stA_at (Nat.zero_le _), List.take_zero]; rfl
  clear hcs
  go_enter Tryz.func19, Tryz.ntmps19
  go_wp2
  obtain ⟨W0, hW0⟩ : ∃ W, W = (w.alloc (.cells #[] 48)).alloc (.cells #[] 48) := ⟨_, rfl⟩
  obtain ⟨vo0, hvo0⟩ : ∃ v : Value, v = .slice (some ⟨w.heap.size, 0, none⟩) 0 0 := ⟨_, rfl⟩
  obtain ⟨vg0, hvg0⟩ : ∃ v : Value, v = .slice (some ⟨w.heap.size + 1, 0, none⟩) 0 0 := ⟨_, rfl⟩
  rw [← hW0, ← hvo0, ← hvg0] at HS0
  try rw [← hW0]
  try rw [← hvo0]
  try rw [← hvg0]
  clear hW0 hvo0 hvg0
  go_loopw [3, 4, 5, 6] (fun vo vg g i wr => ∃ (m : Nat), m ≤ n + 1 ∧ i = .int .i64 m ∧ g = .int .i64 (stA E m).2.2 ∧ Hid (CanS w0 w wr vo vg (stA E m).1 (stA E m).2.1)) (fun _ _ _ i _ => n + 1 - (RowKit.intOf i).toNat)
  case atStart => exact ⟨0, Nat.zero_le _, rfl, by rw [← hz0], HS0⟩
  case round =>
    clear HS0 hz0
    obtain ⟨m, hm, rfl, rfl, HS⟩ := hrel
    by_cases hlt : m < n
    · have hltI : (m : Int) < n := by omega
      have hleI : (m : Int) ≤ n := by omega
      have hge0 : (0 : Int) ≤ (m : Int) := by omega
      obtain ⟨e, b, off, sp, sl, sc, he, rfl, hat, hrn⟩ := HR.out m hlt
      obtain ⟨c0, c1, c2, c3, c4, c5, c6⟩ := hat.below HS.out.below
      have how := HN.out.2.wel e (List.mem_of_getElem? he)
      have hA := (HN.out.2.fit e (List.mem_of_getElem? he)).n
      have ht : e.t.size ≤ 8388608 := by have := txtS_mem (List.mem_of_getElem? he); have := HN.out.2.txt; omega
      have hq := stA_q HN.out.2 (m := m) (by have := HN.out.1; omega)
      have hec : e.c ≤ 2199023255552 := by
        have := HN.out.2.base
        rcases cnt_le HN.out.2.wel (List.mem_of_getElem? he) with h1 | h1 <;> omega
      have HF : Hid (RN w0 (.slice sp sl sc) e.A ∧ Wel e ∧ e.A.length ≤ 1048576 ∧ e.t.size ≤ 8388608 ∧ e.c ≤ 2199023255552) := ⟨hrn, how, hA, ht, hec⟩
      have HQ := Hid.mk' hq
      have cI := ins6_any e sp sl sc wr
      rcases (show (e.k = 1 ∨ e.k = 2) ∨ e.k = 3 ∨ e.k = 4 by rcases how.kinds with h | h | h | h <;> omega) with hk | hk | hk
      · have HNX := Hid.mk' (stA_ins he hk)
        have cI0 : decide (e.k = 1 ∨ e.k = 2) = true := decide_eq_true (by omega)
        rw [cI0] at cI
        have HG : Hid (∀ W, Below wr.heap.size wr W → ∃ D, D.length ≤ 33554432 ∧ OpAt (W.alloc (.cells (opC e (.slice sp sl sc)) 48)) W.heap.size 0 (e.k, e.t, e.v, e.c, (sp, sl, sc)) ∧ OwnO (W.alloc (.cells (opC e (.slice sp sl sc)) 48)) w.heap.size u4 D ∧ w.heap.size ≤ (W.alloc (.cells (opC e (.slice sp sl sc)) 48)).heap.size ∧ ∀ v8 w8, OwnO w8 w.heap.size v8 (D ++ [(e.k, e.t, e.v, e.c, (sp, sl, sc))]) → (W.alloc (.cells (opC e (.slice sp sl sc)) 48)).grownBy w8 u4.ownBlock → (v8.ownBlock = u4.ownBlock ∨ v8.ownBlock = some (W.alloc (.cells (opC e (.slice sp sl sc)) 48)).heap.size) → CanS w0 w w8 u3 v8 (stA E (m + 1)).1 (stA E (m + 1)).2.1) := fun W hW => by
          have h := HS.out.keep hW
          have hk := h.keep ((Below.refl W.heap.size W).alloc (Nat.le_refl _) (.cells (opC e (.slice sp sl sc)) 48))
          obtain ⟨D, d1, d2⟩ := hk.gap
          have hl := forall2_len d2
          have := hq.2.2.2.2.2
          refine ⟨D, by omega, ⟨by simp [opC], by simp [opC], by simp [opC], by simp [opC], by simp [opC], by simp [opC], by simp [opC]⟩, d1, hk.below.size, fun v8 w8 a1 a2 a3 => ?_⟩
          rw [HNX.out]; exact hk.gapped d2 hrn a1 a2 a3
        have H2 : Hid ((stA E (m + 1)).2.2 = (stA E m).2.2) := by show _ = _; rw [HNX.out]
        obtain ⟨g, hg⟩ : ∃ x, (stA E m).2.2 = x := ⟨_, rfl⟩
        rw [hg] at H2 ⊢
        clear cI0 HQ hq hrn how hA ht hec hat he HF HNX HS hg
        obtain ⟨k, t, ⟨xx, nn, u⟩, cc, A⟩ := e
        simp only [slV] at c0 c1 c2 c3 c4 c5 c6 cI
        go_wp2_with fail
        refine cI.mono ?_; rintro r w1 ⟨rfl, hb1⟩
        have d0 := (hb1.cell (lt_of_cell c0)).trans c0
        have d1 := (hb1.cell (lt_of_cell c1)).trans c1
        have d2 := (hb1.cell (lt_of_cell c2)).trans c2
        have d3 := (hb1.cell (lt_of_cell c3)).trans c3
        have d4 := (hb1.cell (lt_of_cell c4)).trans c4
        have d5 := (hb1.cell (lt_of_cell c5)).trans c5
        have d6 := (hb1.cell (lt_of_cell c6)).trans c6
        obtain ⟨D, hD1, hD2, hD3, hD4, hD5⟩ := HG.out w1 hb1
        have HD5 := Hid.mk' hD5
        clear cI HG hD5 c0 c1 c2 c3 c4 c5 c6 hb1
        go_wp2_with (at_builtin; refine wpList_append_ops rfl (.tmp 28) (.tmp 33) rfl w.heap.size u4 D rfl hD3 _ 1 _ rfl hD2 hD1 hD4 ?_; intro v8 w8 own8 gr8 hat8; have HS2 := Hid.mk' (HD5.out v8 w8 own8 gr8 hat8); clear own8 gr8 hat8 HD5 hD1 hD2 hD3 hD4 d0 d1 d2 d3 d4 d5 d6)
        go_roundw
        case rel => exact ⟨m + 1, by omega, by go_num, by rw [H2.out], HS2⟩
        case measure => simp [RowKit.intOf]; omega
      · have HNX := Hid.mk' (stA_ret he hk)
        have cI0 : decide (e.k = 1 ∨ e.k = 2) = false := decide_eq_false (by omega)
        rw [cI0] at cI
        have HBE : Hid (∀ W, Below w.heap.size w W → OpAt W b (off + m * 7) (e.k, e.t, e.v, e.c, (sp, sl, sc))) := fun W hW => hat.below hW
        clear cI0 hq hrn how hA ht hec hat he
        obtain ⟨PO, hPO⟩ : ∃ x, (stA E m).1 = x := ⟨_, rfl⟩
        obtain ⟨PG, hPG⟩ : ∃ x, (stA E m).2.1 = x := ⟨_, rfl⟩
        obtain ⟨g, hg⟩ : ∃ x, (stA E m).2.2 = x := ⟨_, rfl⟩
        rw [hPO, hPG, hg] at HNX HQ
        rw [hPO, hPG] at HS
        rw [hg]
        clear hPO hPG hg
        have hg2 := HQ.out.2.2.2.2.1
        have hg1 := HQ.out.2.2.2.1
        obtain ⟨k, t, ⟨xx, nn, u⟩, cc, A⟩ := e
        simp only [slV] at hk c0 c1 c2 c3 c4 c5 c6 cI HBE
        subst hk
        go_wp2_with fail
        refine cI.mono ?_; rintro r w1 ⟨rfl, hb1⟩
        have c0' := (hb1.cell (lt_of_cell c0)).trans c0
        obtain ⟨pg, cg, rfl⟩ := HS.out.len
        have H1 : Hid (CanS w0 w w1 u3 (.slice pg PG.length cg) PO PG) := HS.out.keep hb1
        obtain ⟨lg, hlg⟩ : ∃ x, PG.length = x := ⟨_, rfl⟩
        have HLG : Hid (PG.length = lg) := hlg
        have hlg4 : lg ≤ 4194304 := by have := HQ.out.2.2.2.2.2; omega
        rw [hlg] at H1 ⊢
        clear hlg cI HS c0 c1 c2 c3 c4 c5 c6 hb1
        go_wp2
        go_loopw [3, 56] (fun vo i wr2 => ∃ (j : Nat), j ≤ lg ∧ i = .int .i64 j ∧ Hid (CanS w0 w wr2 vo (.slice pg lg cg) ((PG.take j).foldl pushL PO) PG)) (fun _ i _ => lg - (RowKit.intOf i).toNat)
        case atStart => exact ⟨0, Nat.zero_le _, rfl, by rw [List.take_zero]; exact H1⟩
        case round =>
          clear H1
          obtain ⟨j, hj, rfl, H1⟩ := hrel
          by_cases hjl : j < lg
          · have hjI : (j : Int) < lg := by omega
            have hj0 : (0 : Int) ≤ (j : Int) := by omega
            obtain ⟨e', gg, sp', sl', sc', he', rfl, hat', hrn'⟩ := H1.out.read j (by rw [HLG.out]; exact hjl)
            obtain ⟨d0, d1, d2, d3, d4, d5, d6⟩ := hat'
            rw [Nat.zero_add] at d0 d1 d2 d3 d4 d5 d6
            have HB := H1.out.keep ((Below.refl wr.heap.size wr).alloc (Nat.le_refl _) (.cells (opC e' (.slice sp' sl' sc')) 48))
            obtain ⟨a1, a2, a3, a4⟩ := HQ.out.2.2.1 e' (List.mem_of_getElem? he')
            have cP := push_can e' sp' sl' sc' HB hrn' (HQ.out.1 j) (Nat.le_refl _) (by decide) (Nat.le_refl _) a1 a2 a3 a4
            have hP2 : pushL ((PG.take j).foldl pushL PO) e' = (PG.take (j + 1)).foldl pushL PO := by rw [List.take_add_one, he', List.foldl_append]; rfl
            rw [hP2] at cP
            clear HB a1 a2 a3 a4 H1 hrn' he' hP2
            obtain ⟨k', t', ⟨x', n', u'⟩, c', A'⟩ := e'
            simp only [opC, slV] at d0 d1 d2 d3 d4 d5 d6 cP
            go_wp2_with fail
            refine cP.mono ?_; rintro r w5 ⟨v5, rfl, h5⟩
            have H5 := Hid.mk' h5
            clear cP d0 d1 d2 d3 d4 d5 d6 h5
            go_wp2
            go_roundw
            case rel => exact ⟨j + 1, by omega, by go_num, H5⟩
            case measure => simp [RowKit.intOf]; omega
          · obtain rfl : j = lg := by omega
            have hjI : ¬ (j : Int) < j := by omega
            have hq1 := HQ.out.1 j
            rw [show PG.take j = PG by have := HLG.out; rw [← this, List.take_length]] at H1 hq1
            by_cases hgp : 0 < g
            · have cP := push_can (delO g) none 0 0 H1.out (RN.nil w0) hq1 (Nat.le_refl _) (by decide) (Nat.le_refl _) (delO_wel (by omega)) (by show (0 : Nat) ≤ _; omega) (by show (0 : Nat) ≤ _; omega) (by show g ≤ _; omega)
              have hfl : pushL (PG.foldl pushL PO) (delO g) = flushL PO PG g := by unfold flushL; rw [if_pos hgp]
              rw [hfl] at cP
              simp only [delO] at cP
              clear hq1 H1 hfl
              go_wp2_with fail
              refine cP.mono ?_; rintro r w5 ⟨v5, rfl, h5⟩
              have H5 := Hid.mk' h5.cleared
              clear cP h5
              obtain ⟨d0, d1, d2, d3, d4, d5, d6⟩ := HBE.out w5 H5.out.below
              have cP := push_can ⟨3, t, (xx, nn, u), cc, A⟩ sp sl sc H5.out HF.out.1 HQ.out.2.1 (Nat.le_refl _) (by decide) (Nat.le_refl _) HF.out.2.1 HF.out.2.2.1 HF.out.2.2.2.1 HF.out.2.2.2.2
              have H2 : Hid ((stA E (m + 1)).2.2 = 0) := by show _ = _; rw [HNX.out]
              have h1 : pushL (flushL PO PG g) ⟨3, t, (xx, nn, u), cc, A⟩ = (stA E (m + 1)).1 := by rw [HNX.out]
              have h2 : ([] : List Op5) = (stA E (m + 1)).2.1 := by rw [HNX.out]
              rw [h1, h2] at cP
              clear H5 h1 h2 HNX HQ HF
              simp only [slV] at d0 d1 d2 d3 d4 d5 d6 cP
              go_wp2_with fail
              refine cP.mono ?_; rintro r w6 ⟨v6, rfl, h6⟩
              have H6 := Hid.mk' h6
              clear cP d0 d1 d2 d3 d4 d5 d6 h6
              go_wp2
              go_roundw
              case rel => exact ⟨m + 1, by omega, by go_num, by rw [H2.out], H6⟩
              case measure => simp [RowKit.intOf]; omega
            · have hfl : PG.foldl pushL PO = flushL PO PG g := by unfold flushL; rw [if_neg hgp]
              rw [hfl] at H1
              have H5 := Hid.mk' H1.out.cleared
              clear hq1 H1 hfl
              obtain ⟨d0, d1, d2, d3, d4, d5, d6⟩ := HBE.out wr H5.out.below
              have cP := push_can ⟨3, t, (xx, nn, u), cc, A⟩ sp sl sc H5.out HF.out.1 HQ.out.2.1 (Nat.le_refl _) (by decide) (Nat.le_refl _) HF.out.2.1 HF.out.2.2.1 HF.out.2.2.2.1 HF.out.2.2.2.2
              have H2 : Hid ((stA E (m + 1)).2.2 = 0) := by show _ = _; rw [HNX.out]
              have h1 : pushL (flushL PO PG g) ⟨3, t, (xx, nn, u), cc, A⟩ = (stA E (m + 1)).1 := by rw [HNX.out]
              have h2 : ([] : List Op5) = (stA E (m + 1)).2.1 := by rw [HNX.out]
              rw [h1, h2] at cP
              clear H5 h1 h2 HNX HQ HF
              simp only [slV] at d0 d1 d2 d3 d4 d5 d6 cP
              go_wp2_with fail
              refine cP.mono ?_; rintro r w6 ⟨v6, rfl, h6⟩
              have H6 := Hid.mk' h6
              clear cP d0 d1 d2 d3 d4 d5 d6 h6
              go_wp2
              go_roundw
              case rel => exact ⟨m + 1, by omega, by go_num, by rw [H2.out], H6⟩
              case measure => simp [RowKit.intOf]; omega
      · have HNX := Hid.mk' (stA_del he hk)
        have cI0 : decide (e.k = 1 ∨ e.k = 2) = false := decide_eq_false (by omega)
        rw [cI0] at cI
        have hcnt := how.count (Or.inr hk)
        have hg2 := hq.2.2.2.2.1
        have hg1 := hq.2.2.2.1
        clear cI0 HF HQ hq hrn how hA ht hat he
        obtain ⟨g, hg⟩ : ∃ x, (stA E m).2.2 = x := ⟨_, rfl⟩
        rw [hg] at HNX hg1 hg2 ⊢
        obtain ⟨k, t, ⟨xx, nn, u⟩, cc, A⟩ := e
        simp only [slV] at hk c0 c1 c2 c3 c4 c5 c6 hec hcnt cI
        subst hk
        go_wp2_with fail
        refine cI.mono ?_; rintro r w1 ⟨rfl, hb1⟩
        have c0' := (hb1.cell (lt_of_cell c0)).trans c0
        have c5' := (hb1.cell (lt_of_cell c5)).trans c5
        have H1 : Hid (CanS w0 w w1 u3 u4 (stA E (m + 1)).1 (stA E (m + 1)).2.1) := by rw [HNX.out]; exact HS.out.keep hb1
        have H2 : Hid ((stA E (m + 1)).2.2 = g + cc) := by show _ = _; rw [HNX.out]
        clear cI HS HNX c0 c1 c2 c3 c4 c5 c6 hg hb1
        go_wp2
        go_roundw
        case rel => exact ⟨m + 1, by omega, by go_num, by rw [H2.out], H1⟩
        case measure => simp [RowKit.intOf]; omega
    · by_cases hmn : m = n
      · subst hmn
        have hge0 : (0 : Int) ≤ (m : Int) := by omega
        have hq := stA_q HN.out.2 (m := m) (by have := HN.out.1; omega)
        have HQ := Hid.mk' hq
        have hst : stA E (m + 1) = (flushL (stA E m).1 (stA E m).2.1 (stA E m).2.2, [], 0) := by
          have e1 := HN.out.1
          rw [← e1, stA_end, stA_at (Nat.le_refl _), List.take_length]
        have HNX := Hid.mk' hst
        clear hq hst hlt
        obtain ⟨PO, hPO⟩ : ∃ x, (stA E m).1 = x := ⟨_, rfl⟩
        obtain ⟨PG, hPG⟩ : ∃ x, (stA E m).2.1 = x := ⟨_, rfl⟩
        obtain ⟨g, hg⟩ : ∃ x, (stA E m).2.2 = x := ⟨_, rfl⟩
        rw [hPO, hPG, hg] at HNX HQ
        rw [hPO, hPG] at HS
        rw [hg]
        clear hPO hPG hg
        have hg2 := HQ.out.2.2.2.2.1
        have hg1 := HQ.out.2.2.2.1
        obtain ⟨pg, cg, rfl⟩ := HS.out.len
        obtain ⟨lg, hlg⟩ : ∃ x, PG.length = x := ⟨_, rfl⟩
        have HLG : Hid (PG.length = lg) := hlg
        have hlg4 : lg ≤ 4194304 := by have := HQ.out.2.2.2.2.2; omega
        have H1 : Hid (CanS w0 w wr u3 (.slice pg PG.length cg) PO PG) := HS
        rw [hlg] at H1 ⊢
        clear hlg HS
        go_wp2
        go_loopw [3, 56] (fun vo i wr2 => ∃ (j : Nat), j ≤ lg ∧ i = .int .i64 j ∧ Hid (CanS w0 w wr2 vo (.slice pg lg cg) ((PG.take j).foldl pushL PO) PG)) (fun _ i _ => lg - (RowKit.intOf i).toNat)
        case atStart => exact ⟨0, Nat.zero_le _, rfl, by rw [List.take_zero]; exact H1⟩
        case round =>
          clear H1
          obtain ⟨j, hj, rfl, H1⟩ := hrel
          by_cases hjl : j < lg
          · have hjI : (j : Int) < lg := by omega
            have hj0 : (0 : Int) ≤ (j : Int) := by omega
            obtain ⟨e', gg, sp', sl', sc', he', rfl, hat', hrn'⟩ := H1.out.read j (by rw [HLG.out]; exact hjl)
            obtain ⟨d0, d1, d2, d3, d4, d5, d6⟩ := hat'
            rw [Nat.zero_add] at d0 d1 d2 d3 d4 d5 d6
            have HB := H1.out.keep ((Below.refl wr.heap.size wr).alloc (Nat.le_refl _) (.cells (opC e' (.slice sp' sl' sc')) 48))
            obtain ⟨a1, a2, a3, a4⟩ := HQ.out.2.2.1 e' (List.mem_of_getElem? he')
            have cP := push_can e' sp' sl' sc' HB hrn' (HQ.out.1 j) (Nat.le_refl _) (by decide) (Nat.le_refl _) a1 a2 a3 a4
            have hP2 : pushL ((PG.take j).foldl pushL PO) e' = (PG.take (j + 1)).foldl pushL PO := by rw [List.take_add_one, he', List.foldl_append]; rfl
            rw [hP2] at cP
            clear HB a1 a2 a3 a4 H1 hrn' he' hP2
            obtain ⟨k', t', ⟨x', n', u'⟩, c', A'⟩ := e'
            simp only [opC, slV] at d0 d1 d2 d3 d4 d5 d6 cP
            go_wp2_with fail
            refine cP.mono ?_; rintro r w5 ⟨v5, rfl, h5⟩
            have H5 := Hid.mk' h5
            clear cP d0 d1 d2 d3 d4 d5 d6 h5
            go_wp2
            go_roundw
            case rel => exact ⟨j + 1, by omega, by go_num, H5⟩
            case measure => simp [RowKit.intOf]; omega
          · obtain rfl : j = lg := by omega
            have hjI : ¬ (j : Int) < j := by omega
            have hq1 := HQ.out.1 j
            rw [show PG.take j = PG by have := HLG.out; rw [← this, List.take_length]] at H1 hq1
            by_cases hgp : 0 < g
            · have cP := push_can (delO g) none 0 0 H1.out (RN.nil w0) hq1 (Nat.le_refl _) (by decide) (Nat.le_refl _) (delO_wel (by omega)) (by show (0 : Nat) ≤ _; omega) (by show (0 : Nat) ≤ _; omega) (by show g ≤ _; omega)
              have hfl : pushL (PG.foldl pushL PO) (delO g) = flushL PO PG g := by unfold flushL; rw [if_pos hgp]
              rw [hfl] at cP
              simp only [delO] at cP
              clear hq1 H1 hfl
              go_wp2_with fail
              refine cP.mono ?_; rintro r w5 ⟨v5, rfl, h5⟩
              have H5 := Hid.mk' h5.cleared
              clear cP h5
              have H2 : Hid ((stA E (m + 1)).2.2 = 0) := by show _ = _; rw [HNX.out]
              have H6 : Hid (CanS w0 w w5 v5 (.slice none 0 0) (stA E (m + 1)).1 (stA E (m + 1)).2.1) := by rw [HNX.out]; exact H5
              clear H5 HNX HQ
              go_wp2
              go_roundw
              case rel => exact ⟨m + 1, by omega, by go_num, by rw [H2.out], H6⟩
              case measure => (simp [RowKit.intOf]) <;> omega
            · have hfl : PG.foldl pushL PO = flushL PO PG g := by unfold flushL; rw [if_neg hgp]
              rw [hfl] at H1
              have H5 := Hid.mk' H1.out.cleared
              clear hq1 H1 hfl
              have H2 : Hid ((stA E (m + 1)).2.2 = 0) := by show _ = _; rw [HNX.out]
              have H6 : Hid (CanS w0 w wr u3 (.slice none 0 0) (stA E (m + 1)).1 (stA E (m + 1)).2.1) := by rw [HNX.out]; exact H5
              clear H5 HNX HQ
              go_wp2
              go_roundw
              case rel => exact ⟨m + 1, by omega, by go_num, by rw [H2.out], H6⟩
              case measure => (simp [RowKit.intOf]) <;> omega
      · obtain rfl : m = n + 1 := by omega
        have hnl1 : ¬ ((n : Int) + 1 ≤ n) := by omega
        have hst : (stA E (n + 1)).1 = flushL (runC E).1 (runC E).2.1 (runC E).2.2 := by
          have e1 := HN.out.1
          rw [← e1, stA_end]
        rw [hst] at HS
        have hq := (stA_q HN.out.2 (m := n) (by have := HN.out.1; omega)).2.1.len
        rw [stA_at (by have := HN.out.1; omega), show E.take n = E by have := HN.out.1; rw [← this, List.take_length]] at hq
        have hcan : canonL E = trimL (flushL (runC E).1 (runC E).2.1 (runC E).2.2) := rfl
        generalize flushL (runC E).1 (runC E).2.1 (runC E).2.2 = P at HS hq hcan
        have hb := HS.out.below
        obtain ⟨D, hown, hD⟩ := HS.out.out
        have hD' := hD
        have hlen := forall2_len hD
        generalize (stA E (n + 1)).2.2 = g at *
        clear HS hst HN HR hD
        rcases List.eq_nil_or_concat P with rfl | ⟨F, x, rfl⟩
        · obtain rfl : D = [] := List.eq_nil_of_length_eq_zero (by simpa using hlen)
          obtain ⟨po, co, hvo⟩ := own_slice hown
          obtain rfl : u3 = .slice po 0 co := hvo
          have HO : Hid (FarO wr w.heap.size (.slice po 0 co) [] ∧ Below w.heap.size w wr) := ⟨far_own hown rfl (fun _ _ h => h) (Nat.le_refl _), hb⟩
          have HC : Hid (canonL E = []) := hcan
          clear hown hb hD' hlen hq hmn hlt hm hcan
          go_wp2
          go_ret
          exact ⟨_, rfl, ⟨[], HO.out.1, by rw [HC.out]; exact .nil⟩, HO.out.2⟩
        · rw [List.concat_eq_append] at hD' hlen hq hcan
          obtain ⟨FD, d, rfl⟩ : ∃ FD d, D = FD ++ [d] := by
            rcases List.eq_nil_or_concat D with rfl | ⟨FD, d, rfl⟩
            · simp at hlen
            · exact ⟨FD, d, List.concat_eq_append⟩
          have hl' : FD.length = F.length := by simpa using hlen
          obtain ⟨hF, hx⟩ := forall2_unappend hl' hD'
          obtain ⟨hx1, hx2, hx3, hx4, hx5⟩ : d.1 = x.k ∧ d.2.1 = x.t ∧ d.2.2.1 = x.v ∧ d.2.2.2.1 = x.c ∧ RN w0 (slV d.2.2.2.2) x.A := by cases hx with | cons a _ => exact a
          obtain ⟨dk, dt, dv, dc, sp, sl, sc⟩ := d
          simp only at hx1 hx2 hx3 hx4
          subst hx1; subst hx2; subst hx3; subst hx4
          have hro := own_rowO hown
          obtain ⟨po, co, hvo, hco1, hco2, hco3⟩ := hro
          obtain ⟨bo, oo, rfl, hat⟩ := hco3 FD.length (x.k, x.t, x.v, x.c, sp, sl, sc) (by simp)
          obtain ⟨c0, c1, c2, c3, c4, c5, c6⟩ := hat
          rw [show (FD ++ [(x.k, x.t, x.v, x.c, sp, sl, sc)]).length = FD.length + 1 by simp] at hvo hco1
          subst hvo
          have hlA : sl = x.A.length := by
            obtain ⟨q, cc, e1, _⟩ := hx5.row
            simp only [slV, Value.slice.injEq] at e1
            exact e1.2.1
          have cP := plain6_any x sp sl sc wr hlA
          have HB := Hid.mk' hb
          have HO := Hid.mk' hown
          have HRF : Hid (FarO wr w.heap.size (.slice (some ⟨bo, oo, none⟩) FD.length co) FD ∧ ReD w0 FD F) := ⟨far_own hown rfl (fun j d hd => by rw [List.getElem?_append_left (List.getElem?_eq_some_iff.1 hd).1]; exact hd) (by simp), hF⟩
          have HRX : Hid (FarO wr w.heap.size (.slice (some ⟨bo, oo, none⟩) (FD.length + 1) co) (FD ++ [(x.k, x.t, x.v, x.c, sp, sl, sc)]) ∧ ReD w0 (FD ++ [(x.k, x.t, x.v, x.c, sp, sl, sc)]) (F ++ [x])) := ⟨by have h := far_own hown rfl (F := FD ++ [(x.k, x.t, x.v, x.c, sp, sl, sc)]) (fun _ _ h => h) (Nat.le_refl _); rw [show (FD ++ [(x.k, x.t, x.v, x.c, sp, sl, sc)]).length = FD.length + 1 by simp] at h; exact h, forall2_append hF hx⟩
          have hFl : FD.length ≤ 4194304 := by simp at hq; omega
          obtain ⟨fl, hfl⟩ : ∃ y, FD.length = y := ⟨_, rfl⟩
          rw [hfl] at HRF HRX hFl hco1 c0 c1 c2 c3 c4 c5 c6 ⊢
          clear hco3 hco2 hx5 hx hF hl' hlen hD' hown hb hq hfl HO hmn hlt hm hlA
          have hf0 : (0 : Int) < (fl : Int) + 1 := by omega
          have hf1 : (fl : Int) + 1 - 1 = (fl : Int) := by omega
          have hf2 : (0 : Int) ≤ (fl : Int) := by omega
          cases hp : plainR x with
          | true =>
            rw [trim_yes hp] at hcan
            have HC := Hid.mk' hcan
            rw [hp] at cP
            clear HRX hp hcan
            obtain ⟨k, t, ⟨xx, nn, u⟩, cc, A⟩ := x
            simp only [slV] at c0 c1 c2 c3 c4 c5 c6 cP
            go_wp2_with fail
            refine cP.mono ?_; rintro r w1 ⟨rfl, hb1⟩
            have HB1 : Hid (Below w.heap.size w w1) := HB.out.trans (hb1.mono HB.out.size)
            have HR1 := Hid.mk' (And.intro (HRF.out.1.below hb1) HRF.out.2)
            clear cP c0 c1 c2 c3 c4 c5 c6 HRF HB hb1
            go_wp2
            go_ret
            exact ⟨_, rfl, ⟨_, HR1.out.1, by rw [HC.out]; exact HR1.out.2⟩, HB1.out⟩
          | false =>
            rw [trim_no hp] at hcan
            have HC := Hid.mk' hcan
            rw [hp] at cP
            clear HRF hp hcan
            obtain ⟨k, t, ⟨xx, nn, u⟩, cc, A⟩ := x
            simp only [slV] at c0 c1 c2 c3 c4 c5 c6 cP
            go_wp2_with fail
            refine cP.mono ?_; rintro r w1 ⟨rfl, hb1⟩
            have HB1 : Hid (Below w.heap.size w w1) := HB.out.trans (hb1.mono HB.out.size)
            have HR1 := Hid.mk' (And.intro (HRX.out.1.below hb1) HRX.out.2)
            clear cP c0 c1 c2 c3 c4 c5 c6 HRX HB hb1
            go_wp2
            go_ret
            exact ⟨_, rfl, ⟨_, HR1.out.1, by rw [HC.out]; exact HR1.out.2⟩, HB1.out⟩
end Go.Proofs.YtfllomfjhkgaoaaGreatDoor

/- The document's answers for ops: empty, Check, Length, apart. -/
namespace Go.Proofs.YtfllomfjhkgaoaaGreatDoor
open Go Go.RowKit Go.Lib
set_option linter.unusedVariables false

/-- Are the fields empty that a kind doesn't have? -/
def emptyB (o : Op5) : Bool :=
  if o.k = 1 then o.c == 0 && decide (o.v = z0)
  else if o.k = 2 then o.c == 0
  else if o.k = 3 then o.t.toList.isEmpty && decide (o.v = z0)
  else if o.k = 4 then o.t.toList.isEmpty && decide (o.v = z0) && o.A.isEmpty
  else false
theorem opE_ref (o : Op5) : opE o = if emptyB o = false then 9 else if o.k = 1 ∨ o.k = 2 then insE o else if o.c < 1 then 9 else if 1099511627776 < o.c then 11 else if o.k = 3 then listE true none o.A else 0 := by
  unfold opE emptyB cntE
  by_cases k1 : o.k = 1
  · rw [if_pos (Or.inl k1), if_pos k1, if_pos (Or.inl k1)]
    by_cases hb : (o.c == 0 && decide (o.v = z0)) = false
    · rw [if_pos hb]
      have : fldE o = 9 := by
        unfold fldE
        rw [if_neg (fun h => h.1 k1), if_pos]
        by_cases hc : o.c = 0
        · by_cases hv : o.v = z0
          · simp [hc, hv] at hb
          · exact Or.inr ⟨k1, Or.inr hv⟩
        · exact Or.inl hc
      unfold insE
      rw [if_pos (by omega), this]
    · rw [if_neg hb]
  · by_cases k2 : o.k = 2
    · rw [if_pos (Or.inr k2), if_neg k1, if_pos k2, if_pos (Or.inr k2)]
      by_cases hb : (o.c == 0) = false
      · rw [if_pos hb]
        have : fldE o = 9 := by
          unfold fldE
          rw [if_neg (fun h => h.2 k2), if_pos]
          exact Or.inl (by simpa using hb)
        unfold insE
        rw [if_pos (by omega), this]
      · rw [if_neg hb]
    · have h12 : ¬ (o.k = 1 ∨ o.k = 2) := by omega
      rw [if_neg h12, if_neg k1, if_neg k2, if_neg h12]
      by_cases k3 : o.k = 3
      · rw [if_pos k3, if_pos k3, if_pos k3]
        cases ht : o.t.toList.isEmpty <;> by_cases hv : o.v = z0 <;> by_cases h1 : o.c < 1 <;> by_cases h2 : 1099511627776 < o.c <;> simp [hv, h1, h2]
      · rw [if_neg k3, if_neg k3, if_neg k3]
        by_cases k4 : o.k = 4
        · rw [if_pos k4, if_pos k4]
          cases ht : o.t.toList.isEmpty <;> by_cases hv : o.v = z0 <;> cases hA : o.A <;> by_cases h1 : o.c < 1 <;> by_cases h2 : 1099511627776 < o.c <;> simp [hv, h1, h2]
        · rw [if_neg k4, if_neg k4, if_pos rfl]

set_option maxHeartbeats 2000000 in
theorem refEmpty_any (o : Op5) (s : Value) (w : World) (hR : RowA w s o.A) :
    Calls Tryz.prog 62 #[opV o s] w fun r w' => r = .returned (.bool (emptyB o)) ∧ Below w.heap.size w w' := by
  have b0 := (Below.refl w.heap.size w).alloc (Nat.le_refl _) (.cells (opC o s) 48)
  obtain ⟨p, cc, rfl, _⟩ := hR.val
  clear hR
  obtain ⟨n9, hn9⟩ : ∃ m, o.A.length = m := ⟨_, rfl⟩
  have hAe : o.A.isEmpty = decide (n9 = 0) := by
    cases h : o.A with
    | nil => rw [h] at hn9; simp only [List.length_nil] at hn9; subst hn9; rfl
    | cons x r => rw [h] at hn9; simp only [List.length_cons] at hn9; rw [decide_eq_false (by omega)]; rfl
  have hnz : ((n9 : Int) == 0) = decide (n9 = 0) := by rw [Bool.eq_iff_iff]; simp
  rw [hn9] at b0 ⊢
  unfold emptyB
  rw [hAe]
  clear hAe hn9
  obtain ⟨k, t, ⟨x, n, u⟩, c, A⟩ := o
  simp only [opC] at b0 ⊢
  have gd := fun op x' y' w => guard_pl op x' y' (x, n, u) (0, 0, ⟨#[]⟩) w
  obtain ⟨bv, hbv⟩ : ∃ b, decide (((x, n, u) : P3) = z0) = b := ⟨_, rfl⟩
  have hne := eql_pl (x, n, u) (0, 0, ⟨#[]⟩) bv (by
    rw [← hbv]
    by_cases h : ((x, n, u) : P3) = z0
    · rw [decide_eq_true h, h]; exact samP_self _
    · rw [decide_eq_false h]; exact samP_ne h)
  rw [hbv]
  clear hbv
  by_cases k1 : k = 1
  · subst k1
    rw [if_pos rfl]
    clear hnz
    cases hc : (c == 0) with
    | false =>
      go_enter Tryz.func62, Tryz.ntmps62
      go_wp2
      go_ret
      exact ⟨rfl, b0⟩
    | true =>
      go_enter Tryz.func62, Tryz.ntmps62
      go_wp2
      go_ret
      exact ⟨rfl, b0⟩
  · have e1 : (k == 1) = false := by simpa using k1
    rw [if_neg k1]
    by_cases k2 : k = 2
    · subst k2
      rw [if_pos rfl]
      clear hnz hne gd
      go_enter Tryz.func62, Tryz.ntmps62
      go_wp2
      go_ret
      exact ⟨rfl, b0⟩
    · have e2 : (k == 2) = false := by simpa using k2
      rw [if_neg k2]
      by_cases k3 : k = 3
      · subst k3
        rw [if_pos rfl]
        clear hnz e1 e2
        cases ht : t.toList.isEmpty with
        | false =>
          go_enter Tryz.func62, Tryz.ntmps62
          go_wp2
          go_ret
          exact ⟨rfl, b0⟩
        | true =>
          go_enter Tryz.func62, Tryz.ntmps62
          go_wp2
          go_ret
          exact ⟨rfl, b0⟩
      · have e3 : (k == 3) = false := by simpa using k3
        rw [if_neg k3]
        by_cases k4 : k = 4
        · subst k4
          rw [if_pos rfl]
          clear e1 e2 e3
          cases ht : t.toList.isEmpty with
          | false =>
            go_enter Tryz.func62, Tryz.ntmps62
            go_wp2
            go_ret
            exact ⟨rfl, b0⟩
          | true =>
            cases bv with
            | false =>
              go_enter Tryz.func62, Tryz.ntmps62
              go_wp2
              go_ret
              exact ⟨rfl, b0⟩
            | true =>
              go_enter Tryz.func62, Tryz.ntmps62
              go_wp2
              go_ret
              exact ⟨rfl, b0⟩
        · have e4 : (k == 4) = false := by simpa using k4
          rw [if_neg k4]
          clear hnz hne gd
          go_enter Tryz.func62, Tryz.ntmps62
          go_wp2
          go_ret
          exact ⟨rfl, b0⟩

set_option maxHeartbeats 2000000 in
theorem refCheckO_any {I : List Nat} {a : Nat → Addr} (o : Op5) (s : Value) (w : World) (hS : Std I a w) (hR : RN w s o.A) (hF : Fit o) :
    Calls Tryz.prog 33 #[opV o s] w fun r w' => r = .returned (.int .i64 (opE o)) ∧ Below w.heap.size w w' := by
  have b0 := (Below.refl w.heap.size w).alloc (Nat.le_refl _) (.cells (opC o s) 48)
  have D0 := BoxO.new w o s
  have c1 := refEmpty_any o s _ (hR.row.below b0)
  have cI : Hid (∀ W, Below (w.alloc (.cells (opC o s) 48)).heap.size (w.alloc (.cells (opC o s) 48)) W → Calls Tryz.prog 63 #[opV o s] W fun r w' => r = .returned (.int .i64 (insE o)) ∧ Below W.heap.size W w') := fun W hW => ref_ins o s W ((hS.below b0).below hW) ((hR.below b0).below hW) hF
  have cA : Hid (∀ W, Below (w.alloc (.cells (opC o s) 48)).heap.size (w.alloc (.cells (opC o s) 48)) W → Calls Tryz.prog 26 #[s, .bool true] W fun r w' => r = .returned (.int .i64 (listE true none o.A)) ∧ Below W.heap.size W w') := fun W hW => ref_check s o.A true W ((hS.below b0).below hW) ((hR.row.below b0).below hW) hF.tiny (by have := hF.n; omega)
  have hE := opE_ref o
  obtain ⟨E, hEE⟩ : ∃ E, opE o = E := ⟨_, rfl⟩
  obtain ⟨i9, hi9⟩ : ∃ i, insE o = i := ⟨_, rfl⟩
  obtain ⟨l9, hl9⟩ : ∃ l, listE true none o.A = l := ⟨_, rfl⟩
  obtain ⟨eb, heb⟩ : ∃ l, emptyB o = l := ⟨_, rfl⟩
  rw [hEE, hi9, hl9, heb] at hE
  rw [hEE]
  rw [hi9] at cI
  rw [hl9] at cA
  rw [heb] at c1
  clear hS hR hF hEE hi9 hl9 heb
  have HD : Hid (BoxO (w.alloc (.cells (opC o s) 48)) w.heap.size o s) := D0
  obtain ⟨k, t, ⟨x, n, u⟩, c, A⟩ := o
  simp only [opC] at b0 c1 cI cA HD hE
  clear D0
  cases eb with
  | false =>
    rw [if_pos rfl] at hE
    subst hE
    clear cI cA HD
    go_enter Tryz.func33, Tryz.ntmps33
    go_wp2_with fail
    refine c1.mono ?_; rintro r w2 ⟨rfl, hb2⟩
    have b2 := b0.trans (hb2.mono b0.size)
    clear c1 b0 hb2
    go_wp2
    go_ret
    exact ⟨rfl, b2⟩
  | true =>
    rw [if_neg (by simp)] at hE
    by_cases k1 : k = 1
    · rw [if_pos (Or.inl k1)] at hE
      subst hE k1
      go_enter Tryz.func33, Tryz.ntmps33
      go_wp2_with fail
      refine c1.mono ?_; rintro r w2 ⟨rfl, hb2⟩
      have b2 := b0.trans (hb2.mono b0.size)
      obtain ⟨d0, d1, d2, d3, d4, d5, d6⟩ := HD.out.below hb2
      simp only at d0 d1 d2 d3 d4 d5 d6
      have c2 := cI.out _ hb2
      clear c1 b0 hb2
      go_wp2_with fail
      refine c2.mono ?_; rintro r w3 ⟨rfl, hb3⟩
      have b3 := b2.trans (hb3.mono b2.size)
      clear c2 b2 hb3
      go_wp2
      go_ret
      exact ⟨rfl, b3⟩
    · have e1 : (k == 1) = false := by simpa using k1
      by_cases k2 : k = 2
      · rw [if_pos (Or.inr k2)] at hE
        subst hE k2
        clear k1 e1
        go_enter Tryz.func33, Tryz.ntmps33
        go_wp2_with fail
        refine c1.mono ?_; rintro r w2 ⟨rfl, hb2⟩
        have b2 := b0.trans (hb2.mono b0.size)
        obtain ⟨d0, d1, d2, d3, d4, d5, d6⟩ := HD.out.below hb2
        simp only at d0 d1 d2 d3 d4 d5 d6
        have c2 := cI.out _ hb2
        clear c1 b0 hb2
        go_wp2_with fail
        refine c2.mono ?_; rintro r w3 ⟨rfl, hb3⟩
        have b3 := b2.trans (hb3.mono b2.size)
        clear c2 b2 hb3
        go_wp2
        go_ret
        exact ⟨rfl, b3⟩
      · have e2 : (k == 2) = false := by simpa using k2
        rw [if_neg (by omega)] at hE
        by_cases h1 : c < 1
        · rw [if_pos h1] at hE
          subst hE
          clear cI cA
          go_enter Tryz.func33, Tryz.ntmps33
          go_wp2_with fail
          refine c1.mono ?_; rintro r w2 ⟨rfl, hb2⟩
          have b2 := b0.trans (hb2.mono b0.size)
          obtain ⟨d0, d1, d2, d3, d4, d5, d6⟩ := HD.out.below hb2
          simp only at d0 d1 d2 d3 d4 d5 d6
          clear c1 b0 hb2
          go_wp2
          go_ret
          exact ⟨rfl, b2⟩
        · rw [if_neg h1] at hE
          by_cases h2 : 1099511627776 < c
          · rw [if_pos h2] at hE
            subst hE
            clear cI cA
            go_enter Tryz.func33, Tryz.ntmps33
            go_wp2_with fail
            refine c1.mono ?_; rintro r w2 ⟨rfl, hb2⟩
            have b2 := b0.trans (hb2.mono b0.size)
            obtain ⟨d0, d1, d2, d3, d4, d5, d6⟩ := HD.out.below hb2
            simp only at d0 d1 d2 d3 d4 d5 d6
            clear c1 b0 hb2
            go_wp2
            go_ret
            exact ⟨rfl, b2⟩
          · rw [if_neg h2] at hE
            by_cases k3 : k = 3
            · rw [if_pos k3] at hE
              subst hE k3
              clear cI k1 k2 e1 e2
              go_enter Tryz.func33, Tryz.ntmps33
              go_wp2_with fail
              refine c1.mono ?_; rintro r w2 ⟨rfl, hb2⟩
              have b2 := b0.trans (hb2.mono b0.size)
              obtain ⟨d0, d1, d2, d3, d4, d5, d6⟩ := HD.out.below hb2
              simp only at d0 d1 d2 d3 d4 d5 d6
              have c2 := cA.out _ hb2
              clear c1 b0 hb2
              go_wp2_with fail
              refine c2.mono ?_; rintro r w3 ⟨rfl, hb3⟩
              have b3 := b2.trans (hb3.mono b2.size)
              clear c2 b2 hb3
              go_wp2
              go_ret
              exact ⟨rfl, b3⟩
            · have e3 : (k == 3) = false := by simpa using k3
              rw [if_neg k3] at hE
              subst hE
              clear cI cA
              go_enter Tryz.func33, Tryz.ntmps33
              go_wp2_with fail
              refine c1.mono ?_; rintro r w2 ⟨rfl, hb2⟩
              have b2 := b0.trans (hb2.mono b0.size)
              obtain ⟨d0, d1, d2, d3, d4, d5, d6⟩ := HD.out.below hb2
              simp only at d0 d1 d2 d3 d4 d5 d6
              clear c1 b0 hb2
              go_wp2
              go_ret
              exact ⟨rfl, b2⟩
end Go.Proofs.YtfllomfjhkgaoaaGreatDoor

/- The document's deltas: Of. -/
namespace Go.Proofs.YtfllomfjhkgaoaaGreatDoor
open Go Go.RowKit Go.Lib
set_option linter.unusedVariables false

set_option maxHeartbeats 40000000 in
set_option maxRecDepth 100000 in
theorem ref6Of_any {I : List Nat} {a : Nat → Addr} {w0 : World} (va : Value) (D0 : List OV) (E : List Op5) (w : World) (hS : Std I a w) (hb0 : Below w0.heap.size w0 w) (hrow : RowO w va D0) (hre : ReD w0 D0 E) (hF : FitL E) (hl : E.length ≤ 1048576) (ht : txtS E ≤ 8388608) :
    Calls Tryz.prog 10 #[va] w fun r w' => ∃ dv, r = .returned (.tuple #[dv, .int .i64 (ofE 0 0 E).1, .int .i64 (ofE 0 0 E).2]) ∧ ((ofE 0 0 E).2 = 0 → ∃ D', FarO w' w.heap.size dv D' ∧ ReD w0 D' (canonL E)) ∧ ((ofE 0 0 E).2 ≠ 0 → dv = .slice none 0 0) ∧ Below w.heap.size w w' := by
  have CK : Hid (OkE E → ∀ W, Below w.heap.size w W → Calls Tryz.prog 19 #[va] W fun r w' => ∃ v', r = .returned v' ∧ (∃ D', FarO w' W.heap.size v' D' ∧ ReD w0 D' (canonL E)) ∧ Below W.heap.size W w') := fun ok W hW => canon6_any va D0 E W (hb0.trans (hW.mono hb0.size)) (hrow.below hW) hre ok
  have CC : Hid (∀ (o : Op5) (s : Value) (W W2 : World), Below w.heap.size w W → Below W.heap.size W W2 → RN w s o.A → Fit o → Calls Tryz.prog 33 #[opV o s] W2 fun r w' => r = .returned (.int .i64 (opE o)) ∧ Below W2.heap.size W2 w') := fun o s W W2 hW hW2 hR hf => refCheckO_any o s W2 ((hS.below hW).below hW2) ((hR.below hW).below hW2) hf
  have hDE := forall2_len hre
  obtain ⟨n, hn⟩ : ∃ n, E.length = n := ⟨_, rfl⟩
  obtain ⟨p, cap, rfl, hcap, hnz, hc⟩ := hrow
  have HR : Hid (∀ k, k < n → ∃ (e : Op5) (b off : Nat) (sp : Option Addr) (sl sc : Nat), E[k]? = some e ∧ p = some ⟨b, off, none⟩ ∧ OpAt w b (off + k * 7) (e.k, e.t, e.v, e.c, (sp, sl, sc)) ∧ RN w0 (.slice sp sl sc) e.A) := fun k hk => by
    obtain ⟨d, hd⟩ : ∃ d, D0[k]? = some d := ⟨_, List.getElem?_eq_getElem (by omega)⟩
    obtain ⟨e, he, h1, h2, h3, h4, h5⟩ := forall2_get hre k d hd
    obtain ⟨b, off, hp, hat⟩ := hc k d hd
    obtain ⟨dk, dt, dv, dc, sp, sl, sc⟩ := d
    simp only at h1 h2 h3 h4
    subst h1; subst h2; subst h3; subst h4
    exact ⟨e, b, off, sp, sl, sc, he, hp, hat, h5⟩
  have HN : Hid (E.length = n ∧ FitL E ∧ txtS E ≤ 8388608) := ⟨hn, hF, ht⟩
  have hnl : n ≤ 1048576 := by omega
  rw [hDE, hn] at hcap CK ⊢
  clear hc hDE hre hnz hn hF ht hS hl
  go_enter Tryz.func10, Tryz.ntmps10
  go_wp2
  go_loopw [5, 6, 13] (fun bb rr i wr => ∃ (k : Nat), k ≤ n ∧ i = .int .i64 k ∧ bb = .int .i64 (sumB (E.take k)) ∧ rr = .int .i64 (sumR (E.take k)) ∧ Hid (OkE (E.take k)) ∧ Below w.heap.size w wr) (fun _ _ i _ => n - (RowKit.intOf i).toNat)
  case atStart => exact ⟨0, Nat.zero_le _, rfl, by rw [List.take_zero]; rfl, by rw [List.take_zero]; rfl, by rw [List.take_zero]; exact OkE.nil, Below.refl _ _⟩
  case round =>
    obtain ⟨k, hk, rfl, rfl, rfl, HO, hbw⟩ := hrel
    obtain ⟨bs, hbs⟩ : ∃ x, sumB (E.take k) = x := ⟨_, rfl⟩
    obtain ⟨rs, hrs⟩ : ∃ x, sumR (E.take k) = x := ⟨_, rfl⟩
    have hb1 : 0 ≤ bs := by rw [← hbs]; exact (sums_nn HO.out.wel).1
    have hr1 : 0 ≤ rs := by rw [← hrs]; exact (sums_nn HO.out.wel).2
    have hb2 : bs ≤ 1099511627776 := by rw [← hbs]; exact HO.out.base
    have hr2 : rs ≤ 1099511627776 := by rw [← hrs]; exact HO.out.res
    rw [hbs, hrs]
    by_cases hlt : k < n
    · have hltI : (k : Int) < n := by omega
      have hk0 : (0 : Int) ≤ (k : Int) := by omega
      obtain ⟨e, b, off, sp, sl, sc, he, rfl, hat, hrn⟩ := HR.out k hlt
      have hem := List.mem_of_getElem? he
      have hfe := HN.out.2.1 e hem
      obtain ⟨c0, c1, c2, c3, c4, c5, c6⟩ := hat.below hbw
      have bw : Below wr.heap.size wr (wr.alloc (.cells (opC e (.slice sp sl sc)) 48)) := (Below.refl _ _).alloc (Nat.le_refl _) _
      have cC := CC.out e (.slice sp sl sc) wr _ hbw bw (hrn.below hb0) hfe
      have HX : Hid (∀ W, Below (wr.alloc (.cells (opC e (.slice sp sl sc)) 48)).heap.size (wr.alloc (.cells (opC e (.slice sp sl sc)) 48)) W → OpAt W wr.heap.size 0 (e.k, e.t, e.v, e.c, (sp, sl, sc)) ∧ Below w.heap.size w W) := fun W hW => ⟨OpAt.below (w := wr.alloc (.cells (opC e (.slice sp sl sc)) 48)) ⟨by simp [opC], by simp [opC], by simp [opC], by simp [opC], by simp [opC], by simp [opC], by simp [opC, slV]⟩ hW, hbw.trans ((bw.trans (hW.mono bw.size)).mono hbw.size)⟩
      have hT : E.take (k + 1) = E.take k ++ [e] := by rw [List.take_add_one, he]; rfl
      have HT : Hid (E.take (k + 1) = E.take k ++ [e] ∧ E[k]? = some e ∧ sumB (E.take k) = bs ∧ sumR (E.take k) = rs) := ⟨hT, he, hbs, hrs⟩
      by_cases hz : opE e = 0
      · have hln := len5_range hz hfe
        have hkk := kinds_of hz
        have cL := fun W => len6_any e sp sl sc W hz hfe.t
        have cI := fun W => ins6_any e sp sl sc W
        have hbO : baseO e = if e.k = 3 ∨ e.k = 4 then len5 e else 0 := rfl
        have hrO : resO e = if e.k = 4 then 0 else len5 e := rfl
        have HNX : Hid (bs + baseO e ≤ 1099511627776 ∧ rs + resO e ≤ 1099511627776 → OkE (E.take (k + 1)) ∧ sumB (E.take (k + 1)) = bs + baseO e ∧ sumR (E.take (k + 1)) = rs + resO e) := fun h => by
          have htk := txtS_take E (k + 1)
          have hg : refE (sumB (E.take k)) (sumR (E.take k)) e = 0 := refE_zero.2 ⟨hz, by rw [hbs]; exact h.1, by rw [hrs]; exact h.2⟩
          refine ⟨?_, by rw [hT, sumB_append, sumB_one, hbs], by rw [hT, sumR_append, sumR_one, hrs]⟩
          rw [hT] at htk ⊢
          exact okE_snoc HO.out hg hfe.fitA (Nat.le_trans htk HN.out.2.2) (by simp; omega)
        have HBD : Hid (1099511627776 < bs + baseO e ∨ 1099511627776 < rs + resO e → ofE 0 0 E = (k, 11)) := fun h => ofE_no he HO.out (e := 10) (by unfold refE; rw [if_neg (by simpa using hz), hbs, hrs, if_pos h])
        rw [hz] at cC
        obtain ⟨ln, hll⟩ : ∃ x, len5 e = x := ⟨_, rfl⟩
        rw [hll] at hln cL hbO hrO
        have hmn : min ln 1099511627777 = ln := by omega
        have hmn2 : ln ≤ 1099511627777 := by omega
        clear hz hll HT hT hem hat hrn bw HR CC hfe he hbs hrs HO
        obtain ⟨kk, t, ⟨xx, nn, u⟩, cc, A⟩ := e
        simp only [opC, slV] at c0 c1 c2 c3 c4 c5 c6 cC cL cI hkk hbO hrO HX
        rcases (show (kk = 1 ∨ kk = 2) ∨ kk = 3 ∨ kk = 4 by omega) with hi | hi | hi
        · have hk4 : (kk != 4) = true := by simp; omega
          rw [if_neg (by omega)] at hbO
          rw [if_neg (by omega)] at hrO
          replace hbO := congrArg (fun z => bs + z) hbO
          replace hrO := congrArg (fun z => rs + z) hrO
          try simp only [Int.add_zero] at hbO
          try simp only [Int.add_zero] at hrO
          go_wp2_with fail
          refine cC.mono ?_; rintro r w1 ⟨rfl, hw1⟩
          obtain ⟨⟨d0, d1, d2, d3, d4, d5, d6⟩, b1⟩ := HX.out w1 hw1
          simp only [Nat.zero_add, slV] at d0 d1 d2 d3 d4 d5 d6
          have cl := cL w1
          clear cC c0 c1 c2 c3 c4 c5 c6 hw1 cL
          go_wp2_with fail
          refine cl.mono ?_; rintro r w2 ⟨rfl, hw2⟩
          replace d0 := (hw2.cell (lt_of_cell d0)).trans d0
          replace d1 := (hw2.cell (lt_of_cell d1)).trans d1
          replace d2 := (hw2.cell (lt_of_cell d2)).trans d2
          replace d3 := (hw2.cell (lt_of_cell d3)).trans d3
          replace d4 := (hw2.cell (lt_of_cell d4)).trans d4
          replace d5 := (hw2.cell (lt_of_cell d5)).trans d5
          replace d6 := (hw2.cell (lt_of_cell d6)).trans d6
          have b2 := b1.trans (hw2.mono b1.size)
          have ci := cI w2
          rw [decide_eq_true hi] at ci
          clear cl b1 hw2 cI
          go_wp2_with fail
          refine ci.mono ?_; rintro r w3 ⟨rfl, hw3⟩
          replace d0 := (hw3.cell (lt_of_cell d0)).trans d0
          have b3 := b2.trans (hw3.mono b2.size)
          have HB3 := Hid.mk' b3
          clear ci b2 hw3 d1 d2 d3 d4 d5 d6 b3
          by_cases hov : 1099511627776 < bs ∨ 1099511627776 < rs + ln
          · have HB : Hid (ofE 0 0 E = (k, 11)) := HBD.out (by rw [hbO, hrO]; exact hov)
            clear HBD HNX hbO hrO
            rcases (show 1099511627776 < bs ∨ (¬ 1099511627776 < bs ∧ 1099511627776 < rs + ln) by omega) with hov | ⟨hov1, hov⟩
            · first | (exfalso; omega) | (go_wp2; go_ret3; exact ⟨_, by rw [HB.out]; rfl, fun h => (by rw [HB.out] at h; cases h), fun _ => rfl, HB3.out⟩)
            · first | (exfalso; omega) | (go_wp2; go_ret3; exact ⟨_, by rw [HB.out]; rfl, fun h => (by rw [HB.out] at h; cases h), fun _ => rfl, HB3.out⟩)
          · have hn1 : ¬ 1099511627776 < bs := fun h => hov (Or.inl h)
            have hn2 : ¬ 1099511627776 < rs + ln := fun h => hov (Or.inr h)
            have hnx := HNX.out (by rw [hbO, hrO]; omega)
            rw [hbO, hrO] at hnx
            have HY := Hid.mk' hnx
            clear HBD HNX hbO hrO hov hnx
            go_wp2
            go_roundw
            case rel => exact ⟨k + 1, by omega, by go_num, by rw [HY.out.2.1], by rw [HY.out.2.2], HY.out.1, HB3.out⟩
            case measure => simp [RowKit.intOf]; omega
        · subst hi
          rw [if_pos (by omega)] at hbO
          rw [if_neg (by omega)] at hrO
          replace hbO := congrArg (fun z => bs + z) hbO
          replace hrO := congrArg (fun z => rs + z) hrO
          try simp only [Int.add_zero] at hbO
          try simp only [Int.add_zero] at hrO
          go_wp2_with fail
          refine cC.mono ?_; rintro r w1 ⟨rfl, hw1⟩
          obtain ⟨⟨d0, d1, d2, d3, d4, d5, d6⟩, b1⟩ := HX.out w1 hw1
          simp only [Nat.zero_add, slV] at d0 d1 d2 d3 d4 d5 d6
          have cl := cL w1
          clear cC c0 c1 c2 c3 c4 c5 c6 hw1 cL
          go_wp2_with fail
          refine cl.mono ?_; rintro r w2 ⟨rfl, hw2⟩
          replace d0 := (hw2.cell (lt_of_cell d0)).trans d0
          replace d1 := (hw2.cell (lt_of_cell d1)).trans d1
          replace d2 := (hw2.cell (lt_of_cell d2)).trans d2
          replace d3 := (hw2.cell (lt_of_cell d3)).trans d3
          replace d4 := (hw2.cell (lt_of_cell d4)).trans d4
          replace d5 := (hw2.cell (lt_of_cell d5)).trans d5
          replace d6 := (hw2.cell (lt_of_cell d6)).trans d6
          have b2 := b1.trans (hw2.mono b1.size)
          have ci := cI w2
          rw [decide_eq_false (by omega)] at ci
          clear cl b1 hw2 cI
          go_wp2_with fail
          refine ci.mono ?_; rintro r w3 ⟨rfl, hw3⟩
          replace d0 := (hw3.cell (lt_of_cell d0)).trans d0
          have b3 := b2.trans (hw3.mono b2.size)
          have HB3 := Hid.mk' b3
          clear ci b2 hw3 d1 d2 d3 d4 d5 d6 b3
          by_cases hov : 1099511627776 < bs + ln ∨ 1099511627776 < rs + ln
          · have HB : Hid (ofE 0 0 E = (k, 11)) := HBD.out (by rw [hbO, hrO]; exact hov)
            clear HBD HNX hbO hrO
            rcases (show 1099511627776 < bs + ln ∨ (¬ 1099511627776 < bs + ln ∧ 1099511627776 < rs + ln) by omega) with hov | ⟨hov1, hov⟩
            · first | (exfalso; omega) | (go_wp2; go_ret3; exact ⟨_, by rw [HB.out]; rfl, fun h => (by rw [HB.out] at h; cases h), fun _ => rfl, HB3.out⟩)
            · first | (exfalso; omega) | (go_wp2; go_ret3; exact ⟨_, by rw [HB.out]; rfl, fun h => (by rw [HB.out] at h; cases h), fun _ => rfl, HB3.out⟩)
          · have hn1 : ¬ 1099511627776 < bs + ln := fun h => hov (Or.inl h)
            have hn2 : ¬ 1099511627776 < rs + ln := fun h => hov (Or.inr h)
            have hnx := HNX.out (by rw [hbO, hrO]; omega)
            rw [hbO, hrO] at hnx
            have HY := Hid.mk' hnx
            clear HBD HNX hbO hrO hov hnx
            go_wp2
            go_roundw
            case rel => exact ⟨k + 1, by omega, by go_num, by rw [HY.out.2.1], by rw [HY.out.2.2], HY.out.1, HB3.out⟩
            case measure => simp [RowKit.intOf]; omega
        · subst hi
          rw [if_pos (by omega)] at hbO
          rw [if_pos (by omega)] at hrO
          replace hbO := congrArg (fun z => bs + z) hbO
          replace hrO := congrArg (fun z => rs + z) hrO
          try simp only [Int.add_zero] at hbO
          try simp only [Int.add_zero] at hrO
          go_wp2_with fail
          refine cC.mono ?_; rintro r w1 ⟨rfl, hw1⟩
          obtain ⟨⟨d0, d1, d2, d3, d4, d5, d6⟩, b1⟩ := HX.out w1 hw1
          simp only [Nat.zero_add, slV] at d0 d1 d2 d3 d4 d5 d6
          have cl := cL w1
          clear cC c0 c1 c2 c3 c4 c5 c6 hw1 cL
          go_wp2_with fail
          refine cl.mono ?_; rintro r w2 ⟨rfl, hw2⟩
          replace d0 := (hw2.cell (lt_of_cell d0)).trans d0
          replace d1 := (hw2.cell (lt_of_cell d1)).trans d1
          replace d2 := (hw2.cell (lt_of_cell d2)).trans d2
          replace d3 := (hw2.cell (lt_of_cell d3)).trans d3
          replace d4 := (hw2.cell (lt_of_cell d4)).trans d4
          replace d5 := (hw2.cell (lt_of_cell d5)).trans d5
          replace d6 := (hw2.cell (lt_of_cell d6)).trans d6
          have b2 := b1.trans (hw2.mono b1.size)
          have ci := cI w2
          rw [decide_eq_false (by omega)] at ci
          clear cl b1 hw2 cI
          go_wp2_with fail
          refine ci.mono ?_; rintro r w3 ⟨rfl, hw3⟩
          replace d0 := (hw3.cell (lt_of_cell d0)).trans d0
          have b3 := b2.trans (hw3.mono b2.size)
          have HB3 := Hid.mk' b3
          clear ci b2 hw3 d1 d2 d3 d4 d5 d6 b3
          by_cases hov : 1099511627776 < bs + ln ∨ 1099511627776 < rs
          · have HB : Hid (ofE 0 0 E = (k, 11)) := HBD.out (by rw [hbO, hrO]; exact hov)
            clear HBD HNX hbO hrO
            rcases (show 1099511627776 < bs + ln ∨ (¬ 1099511627776 < bs + ln ∧ 1099511627776 < rs) by omega) with hov | ⟨hov1, hov⟩
            · first | (exfalso; omega) | (go_wp2; go_ret3; exact ⟨_, by rw [HB.out]; rfl, fun h => (by rw [HB.out] at h; cases h), fun _ => rfl, HB3.out⟩)
            · first | (exfalso; omega) | (go_wp2; go_ret3; exact ⟨_, by rw [HB.out]; rfl, fun h => (by rw [HB.out] at h; cases h), fun _ => rfl, HB3.out⟩)
          · have hn1 : ¬ 1099511627776 < bs + ln := fun h => hov (Or.inl h)
            have hn2 : ¬ 1099511627776 < rs := fun h => hov (Or.inr h)
            have hnx := HNX.out (by rw [hbO, hrO]; omega)
            rw [hbO, hrO] at hnx
            have HY := Hid.mk' hnx
            clear HBD HNX hbO hrO hov hnx
            go_wp2
            go_roundw
            case rel => exact ⟨k + 1, by omega, by go_num, by rw [HY.out.2.1], by rw [HY.out.2.2], HY.out.1, HB3.out⟩
            case measure => simp [RowKit.intOf]; omega
      · obtain ⟨x, hx⟩ : ∃ x, opE e = x + 1 := ⟨opE e - 1, by omega⟩
        have HBD : Hid (ofE 0 0 E = (k, x + 1)) := ofE_no he HO.out (by unfold refE; rw [if_pos hz, hx])
        rw [hx] at cC
        have hx0 : ((x : Int) + 1 != 0) = true := by simp; omega
        clear hz hx HT hT hem hat hrn bw HR CC hfe he hbs hrs HO
        obtain ⟨kk, t, ⟨xx, nn, u⟩, cc, A⟩ := e
        simp only [opC, slV] at c0 c1 c2 c3 c4 c5 c6 cC HX
        go_wp2_with fail
        refine cC.mono ?_; rintro r w1 ⟨rfl, hw1⟩
        obtain ⟨_, b1⟩ := HX.out w1 hw1
        have HB1 := Hid.mk' b1
        clear cC c0 c1 c2 c3 c4 c5 c6 hw1 b1
        go_wp2
        go_ret3
        exact ⟨_, by rw [HBD.out]; rfl, fun h => (by rw [HBD.out] at h; cases h), fun _ => rfl, HB1.out⟩
    · have hltI : ¬ (k : Int) < n := by omega
      have hE : E.take k = E := List.take_of_length_le (by have := HN.out.1; omega)
      rw [hE] at HO
      have HBD : Hid (ofE 0 0 E = (0, 0)) := ofE_ok E 0 0 HO.out.good (by have := HO.out.base; omega) (by have := HO.out.res; omega)
      have cK := CK.out HO.out wr hbw
      clear hE HO hbs hrs CK CC
      go_wp2_with fail
      refine cK.mono ?_; rintro r w5 ⟨dv, rfl, ⟨D5, h5, h6⟩, hb5⟩
      have H5 : Hid (FarO w5 w.heap.size dv D5 ∧ ReD w0 D5 (canonL E)) := ⟨h5.weaken hbw.size, h6⟩
      have B5 : Hid (Below w.heap.size w w5) := hbw.trans (hb5.mono hbw.size)
      clear cK h5 h6 hb5
      go_wp2
      go_ret3
      exact ⟨_, by rw [HBD.out]; rfl, fun _ => ⟨_, H5.out⟩, fun h => (by rw [HBD.out] at h; exact absurd rfl h), B5.out⟩
end Go.Proofs.YtfllomfjhkgaoaaGreatDoor

/- The document's deltas: Lengths, Long. -/
namespace Go.Proofs.YtfllomfjhkgaoaaGreatDoor
open Go Go.RowKit Go.Lib
set_option linter.unusedVariables false

/-- A sum, -1 above the bound. -/
def capM (x : Int) : Int := if 1099511627776 < x then -1 else x
theorem cap_step {x y : Int} (hx : 0 ≤ x) (hy : 0 ≤ y) : (capM x = -1 ∧ capM (x + y) = -1) ∨ (0 ≤ capM x ∧ capM x ≤ 1099511627776 ∧ ¬ 1099511627776 < capM x + y ∧ capM (x + y) = capM x + y) ∨ (0 ≤ capM x ∧ capM x ≤ 1099511627776 ∧ 1099511627776 < capM x + y ∧ capM (x + y) = -1) := by
  unfold capM
  by_cases h : 1099511627776 < x
  · rw [if_pos h, if_pos (by omega)]; exact Or.inl ⟨rfl, rfl⟩
  · rw [if_neg h]
    by_cases h2 : 1099511627776 < x + y
    · rw [if_pos h2]; exact Or.inr (Or.inr ⟨hx, by omega, h2, rfl⟩)
    · rw [if_neg h2]; exact Or.inr (Or.inl ⟨hx, by omega, h2, rfl⟩)
theorem cap_neg {x : Int} (hx : 0 ≤ x) : decide (capM x < 0) = decide (1099511627776 < x) := by
  unfold capM
  by_cases h : 1099511627776 < x
  · rw [if_pos h]; simp [h]
  · rw [if_neg h]; simp [h]; omega
set_option maxHeartbeats 40000000 in
set_option maxRecDepth 100000 in
theorem lens6_any {w0 : World} (va : Value) (D0 : List OV) (E : List Op5) (w : World) (hb0 : Below w0.heap.size w0 w) (hrow : RowO w va D0) (hre : ReD w0 D0 E) (hg : ∀ o ∈ E, opE o = 0) (hF : FitL E) (hl : E.length ≤ 2097152) :
    Calls Tryz.prog 67 #[va] w fun r w' => r = .returned (.tuple #[.int .i64 (capM (sumB E)), .int .i64 (capM (sumR E))]) ∧ Below w.heap.size w w' := by
  have hDE := forall2_len hre
  obtain ⟨n, hn⟩ : ∃ n, E.length = n := ⟨_, rfl⟩
  obtain ⟨p, cap, rfl, hcap, hnz, hc⟩ := hrow
  have HR : Hid (∀ k, k < n → ∃ (e : Op5) (b off : Nat) (sp : Option Addr) (sl sc : Nat), E[k]? = some e ∧ p = some ⟨b, off, none⟩ ∧ OpAt w b (off + k * 7) (e.k, e.t, e.v, e.c, (sp, sl, sc)) ∧ RN w0 (.slice sp sl sc) e.A) := fun k hk => by
    obtain ⟨d, hd⟩ : ∃ d, D0[k]? = some d := ⟨_, List.getElem?_eq_getElem (by omega)⟩
    obtain ⟨e, he, h1, h2, h3, h4, h5⟩ := forall2_get hre k d hd
    obtain ⟨b, off, hp, hat⟩ := hc k d hd
    obtain ⟨dk, dt, dv, dc, sp, sl, sc⟩ := d
    simp only at h1 h2 h3 h4
    subst h1; subst h2; subst h3; subst h4
    exact ⟨e, b, off, sp, sl, sc, he, hp, hat, h5⟩
  have HN : Hid (E.length = n ∧ FitL E ∧ ∀ o ∈ E, opE o = 0) := ⟨hn, hF, hg⟩
  have hnl : n ≤ 2097152 := by omega
  rw [hDE, hn] at hcap ⊢
  clear hc hDE hre hnz hn hF hg hl
  go_enter Tryz.func67, Tryz.ntmps67
  go_wp2
  go_loopw [4, 5, 11] (fun bb rr i wr => ∃ (k : Nat), k ≤ n ∧ i = .int .i64 k ∧ bb = .int .i64 (capM (sumB (E.take k))) ∧ rr = .int .i64 (capM (sumR (E.take k))) ∧ Below w.heap.size w wr) (fun _ _ i _ => n - (RowKit.intOf i).toNat)
  case atStart => exact ⟨0, Nat.zero_le _, rfl, by rw [List.take_zero]; rfl, by rw [List.take_zero]; rfl, Below.refl _ _⟩
  case round =>
    obtain ⟨k, hk, rfl, rfl, rfl, hbw⟩ := hrel
    by_cases hlt : k < n
    · have hltI : (k : Int) < n := by omega
      have hk0 : (0 : Int) ≤ (k : Int) := by omega
      obtain ⟨e, b, off, sp, sl, sc, he, rfl, hat, hrn⟩ := HR.out k hlt
      have hem := List.mem_of_getElem? he
      have hfe := HN.out.2.1 e hem
      have hz := HN.out.2.2 e hem
      have hs0 := sums_nn (E := E.take k) (fun o ho => wel_of (HN.out.2.2 o (List.mem_of_mem_take ho)))
      obtain ⟨c0, c1, c2, c3, c4, c5, c6⟩ := hat.below hbw
      have bw : Below wr.heap.size wr (wr.alloc (.cells (opC e (.slice sp sl sc)) 48)) := (Below.refl _ _).alloc (Nat.le_refl _) _
      have HX : Hid (∀ W, Below (wr.alloc (.cells (opC e (.slice sp sl sc)) 48)).heap.size (wr.alloc (.cells (opC e (.slice sp sl sc)) 48)) W → OpAt W wr.heap.size 0 (e.k, e.t, e.v, e.c, (sp, sl, sc)) ∧ Below w.heap.size w W) := fun W hW => ⟨OpAt.below (w := wr.alloc (.cells (opC e (.slice sp sl sc)) 48)) ⟨by simp [opC], by simp [opC], by simp [opC], by simp [opC], by simp [opC], by simp [opC], by simp [opC, slV]⟩ hW, hbw.trans ((bw.trans (hW.mono bw.size)).mono hbw.size)⟩
      have hT : E.take (k + 1) = E.take k ++ [e] := by rw [List.take_add_one, he]; rfl
      have hln := len5_range hz hfe
      have hkk := kinds_of hz
      have cL := len6_any e sp sl sc (wr.alloc (.cells (opC e (.slice sp sl sc)) 48)) hz hfe.t
      have cI := fun W => ins6_any e sp sl sc W
      have hbO : baseO e = if e.k = 3 ∨ e.k = 4 then len5 e else 0 := rfl
      have hrO : resO e = if e.k = 4 then 0 else len5 e := rfl
      have hnb : sumB (E.take (k + 1)) = sumB (E.take k) + baseO e := by rw [hT, sumB_append, sumB_one]
      have hnr : sumR (E.take (k + 1)) = sumR (E.take k) + resO e := by rw [hT, sumR_append, sumR_one]
      have sb := cap_step (x := sumB (E.take k)) (y := baseO e) hs0.1 (base_range hz hfe).1
      have sr := cap_step (x := sumR (E.take k)) (y := resO e) hs0.2 (res_range hz hfe).1
      rw [← hnb] at sb
      rw [← hnr] at sr
      obtain ⟨nb, hnb'⟩ : ∃ x, capM (sumB (E.take (k + 1))) = x := ⟨_, rfl⟩
      obtain ⟨nr, hnr'⟩ : ∃ x, capM (sumR (E.take (k + 1))) = x := ⟨_, rfl⟩
      have HNB := Hid.mk' hnb'
      have HNR := Hid.mk' hnr'
      rw [hnb'] at sb
      rw [hnr'] at sr
      obtain ⟨bs, hbs⟩ : ∃ x, capM (sumB (E.take k)) = x := ⟨_, rfl⟩
      obtain ⟨rs, hrs⟩ : ∃ x, capM (sumR (E.take k)) = x := ⟨_, rfl⟩
      rw [hbs] at sb ⊢
      rw [hrs] at sr ⊢
      rw [hbO] at sb
      rw [hrO] at sr
      obtain ⟨ln, hll⟩ : ∃ x, len5 e = x := ⟨_, rfl⟩
      rw [hll] at hln cL sb sr
      have hln2 : ¬ 1099511627776 < ln := by omega
      clear hz hll hT hem hat hrn bw HR hfe he hbO hrO hnb hnr hnb' hnr' hbs hrs hs0
      obtain ⟨kk, t, ⟨xx, nn, u⟩, cc, A⟩ := e
      simp only [opC, slV] at c0 c1 c2 c3 c4 c5 c6 cL cI hkk HX sb sr
      go_wp2_with fail
      refine cL.mono ?_; rintro r w2 ⟨rfl, hw2⟩
      obtain ⟨⟨d0, d1, d2, d3, d4, d5, d6⟩, b2⟩ := HX.out w2 hw2
      simp only [Nat.zero_add, slV] at d0 d1 d2 d3 d4 d5 d6
      have ci := cI w2
      have HB2 := Hid.mk' b2
      have HU : Hid (∀ W, Below w2.heap.size w2 W → W.cell? ⟨wr.heap.size, 0, none⟩ = some (.int .i64 kk) ∧ Below w.heap.size w W) := fun W hW => ⟨(hW.cell (lt_of_cell d0)).trans d0, b2.trans (hW.mono b2.size)⟩
      clear cL c0 c1 c2 c3 c4 c5 c6 hw2 cI HX b2
      rcases (show (kk = 1 ∨ kk = 2) ∨ kk = 3 ∨ kk = 4 by omega) with hi | hi | hi
      · have hk4 : (kk != 4) = true := by simp; omega
        rw [if_neg (by omega)] at sb
        rw [if_neg (by omega)] at sr
        rw [decide_eq_true hi] at ci
        try simp only [Int.add_zero] at sb
        try simp only [Int.add_zero] at sr
        rcases sb with ⟨b1, b2⟩ | ⟨b1, b2, b3, b4⟩ | ⟨b1, b2, b3, b4⟩ <;> rcases sr with ⟨r1, r2⟩ | ⟨r1, r2, r3, r4⟩ | ⟨r1, r2, r3, r4⟩
        · subst b1; subst b2; subst r1; subst r2
          have HB3 := HB2
          go_wp2
          go_roundw
          case rel => exact ⟨k + 1, by omega, by go_num, by rw [HNB.out], by rw [HNR.out], HB3.out⟩
          case measure => simp [RowKit.intOf]; omega
        · have r5 : ¬ 1099511627776 < rs := by omega
          subst b1; subst b2; subst r4
          have HB3 := HB2
          go_wp2
          go_roundw
          case rel => exact ⟨k + 1, by omega, by go_num, by rw [HNB.out], by rw [HNR.out], HB3.out⟩
          case measure => simp [RowKit.intOf]; omega
        · have r5 : ¬ 1099511627776 < rs := by omega
          subst b1; subst b2; subst r4
          have HB3 := HB2
          go_wp2
          go_roundw
          case rel => exact ⟨k + 1, by omega, by go_num, by rw [HNB.out], by rw [HNR.out], HB3.out⟩
          case measure => simp [RowKit.intOf]; omega
        · have b5 : ¬ 1099511627776 < bs := by omega
          subst b4; subst r1; subst r2
          go_wp2_with fail
          refine ci.mono ?_; rintro r w3 ⟨rfl, hw3⟩
          have d9 := (HU.out w3 hw3).1
          have HB3 := Hid.mk' (HU.out w3 hw3).2
          clear ci hw3 d0 d1 d2 d3 d4 d5 d6 HB2 HU
          go_wp2
          go_roundw
          case rel => exact ⟨k + 1, by omega, by go_num, by rw [HNB.out], by rw [HNR.out], HB3.out⟩
          case measure => simp [RowKit.intOf]; omega
        · have b5 : ¬ 1099511627776 < bs := by omega
          have r5 : ¬ 1099511627776 < rs := by omega
          subst b4; subst r4
          go_wp2_with fail
          refine ci.mono ?_; rintro r w3 ⟨rfl, hw3⟩
          have d9 := (HU.out w3 hw3).1
          have HB3 := Hid.mk' (HU.out w3 hw3).2
          clear ci hw3 d0 d1 d2 d3 d4 d5 d6 HB2 HU
          go_wp2
          go_roundw
          case rel => exact ⟨k + 1, by omega, by go_num, by rw [HNB.out], by rw [HNR.out], HB3.out⟩
          case measure => simp [RowKit.intOf]; omega
        · have b5 : ¬ 1099511627776 < bs := by omega
          have r5 : ¬ 1099511627776 < rs := by omega
          subst b4; subst r4
          go_wp2_with fail
          refine ci.mono ?_; rintro r w3 ⟨rfl, hw3⟩
          have d9 := (HU.out w3 hw3).1
          have HB3 := Hid.mk' (HU.out w3 hw3).2
          clear ci hw3 d0 d1 d2 d3 d4 d5 d6 HB2 HU
          go_wp2
          go_roundw
          case rel => exact ⟨k + 1, by omega, by go_num, by rw [HNB.out], by rw [HNR.out], HB3.out⟩
          case measure => simp [RowKit.intOf]; omega
        · exfalso; omega
        · exfalso; omega
        · exfalso; omega
      · subst hi
        rw [if_pos (by omega)] at sb
        rw [if_neg (by omega)] at sr
        rw [decide_eq_false (by omega)] at ci
        try simp only [Int.add_zero] at sb
        try simp only [Int.add_zero] at sr
        rcases sb with ⟨b1, b2⟩ | ⟨b1, b2, b3, b4⟩ | ⟨b1, b2, b3, b4⟩ <;> rcases sr with ⟨r1, r2⟩ | ⟨r1, r2, r3, r4⟩ | ⟨r1, r2, r3, r4⟩
        · subst b1; subst b2; subst r1; subst r2
          have HB3 := HB2
          go_wp2
          go_roundw
          case rel => exact ⟨k + 1, by omega, by go_num, by rw [HNB.out], by rw [HNR.out], HB3.out⟩
          case measure => simp [RowKit.intOf]; omega
        · have r5 : ¬ 1099511627776 < rs := by omega
          subst b1; subst b2; subst r4
          have HB3 := HB2
          go_wp2
          go_roundw
          case rel => exact ⟨k + 1, by omega, by go_num, by rw [HNB.out], by rw [HNR.out], HB3.out⟩
          case measure => simp [RowKit.intOf]; omega
        · have r5 : ¬ 1099511627776 < rs := by omega
          subst b1; subst b2; subst r4
          have HB3 := HB2
          go_wp2
          go_roundw
          case rel => exact ⟨k + 1, by omega, by go_num, by rw [HNB.out], by rw [HNR.out], HB3.out⟩
          case measure => simp [RowKit.intOf]; omega
        · have b5 : ¬ 1099511627776 < bs := by omega
          subst b4; subst r1; subst r2
          go_wp2_with fail
          refine ci.mono ?_; rintro r w3 ⟨rfl, hw3⟩
          have d9 := (HU.out w3 hw3).1
          have HB3 := Hid.mk' (HU.out w3 hw3).2
          clear ci hw3 d0 d1 d2 d3 d4 d5 d6 HB2 HU
          go_wp2
          go_roundw
          case rel => exact ⟨k + 1, by omega, by go_num, by rw [HNB.out], by rw [HNR.out], HB3.out⟩
          case measure => simp [RowKit.intOf]; omega
        · have b5 : ¬ 1099511627776 < bs := by omega
          have r5 : ¬ 1099511627776 < rs := by omega
          subst b4; subst r4
          go_wp2_with fail
          refine ci.mono ?_; rintro r w3 ⟨rfl, hw3⟩
          have d9 := (HU.out w3 hw3).1
          have HB3 := Hid.mk' (HU.out w3 hw3).2
          clear ci hw3 d0 d1 d2 d3 d4 d5 d6 HB2 HU
          go_wp2
          go_roundw
          case rel => exact ⟨k + 1, by omega, by go_num, by rw [HNB.out], by rw [HNR.out], HB3.out⟩
          case measure => simp [RowKit.intOf]; omega
        · have b5 : ¬ 1099511627776 < bs := by omega
          have r5 : ¬ 1099511627776 < rs := by omega
          subst b4; subst r4
          go_wp2_with fail
          refine ci.mono ?_; rintro r w3 ⟨rfl, hw3⟩
          have d9 := (HU.out w3 hw3).1
          have HB3 := Hid.mk' (HU.out w3 hw3).2
          clear ci hw3 d0 d1 d2 d3 d4 d5 d6 HB2 HU
          go_wp2
          go_roundw
          case rel => exact ⟨k + 1, by omega, by go_num, by rw [HNB.out], by rw [HNR.out], HB3.out⟩
          case measure => simp [RowKit.intOf]; omega
        · have b5 : ¬ 1099511627776 < bs := by omega
          subst b4; subst r1; subst r2
          go_wp2_with fail
          refine ci.mono ?_; rintro r w3 ⟨rfl, hw3⟩
          have d9 := (HU.out w3 hw3).1
          have HB3 := Hid.mk' (HU.out w3 hw3).2
          clear ci hw3 d0 d1 d2 d3 d4 d5 d6 HB2 HU
          go_wp2
          go_roundw
          case rel => exact ⟨k + 1, by omega, by go_num, by rw [HNB.out], by rw [HNR.out], HB3.out⟩
          case measure => simp [RowKit.intOf]; omega
        · have r5 : ¬ 1099511627776 < rs := by omega
          have b5 : ¬ 1099511627776 < bs := by omega
          subst b4; subst r4
          go_wp2_with fail
          refine ci.mono ?_; rintro r w3 ⟨rfl, hw3⟩
          have d9 := (HU.out w3 hw3).1
          have HB3 := Hid.mk' (HU.out w3 hw3).2
          clear ci hw3 d0 d1 d2 d3 d4 d5 d6 HB2 HU
          go_wp2
          go_roundw
          case rel => exact ⟨k + 1, by omega, by go_num, by rw [HNB.out], by rw [HNR.out], HB3.out⟩
          case measure => simp [RowKit.intOf]; omega
        · have b5 : ¬ 1099511627776 < bs := by omega
          have r5 : ¬ 1099511627776 < rs := by omega
          subst b4; subst r4
          go_wp2_with fail
          refine ci.mono ?_; rintro r w3 ⟨rfl, hw3⟩
          have d9 := (HU.out w3 hw3).1
          have HB3 := Hid.mk' (HU.out w3 hw3).2
          clear ci hw3 d0 d1 d2 d3 d4 d5 d6 HB2 HU
          go_wp2
          go_roundw
          case rel => exact ⟨k + 1, by omega, by go_num, by rw [HNB.out], by rw [HNR.out], HB3.out⟩
          case measure => simp [RowKit.intOf]; omega
      · subst hi
        rw [if_pos (by omega)] at sb
        rw [if_pos (by omega)] at sr
        rw [decide_eq_false (by omega)] at ci
        try simp only [Int.add_zero] at sb
        try simp only [Int.add_zero] at sr
        rcases sb with ⟨b1, b2⟩ | ⟨b1, b2, b3, b4⟩ | ⟨b1, b2, b3, b4⟩ <;> rcases sr with ⟨r1, r2⟩ | ⟨r1, r2, r3, r4⟩ | ⟨r1, r2, r3, r4⟩
        · subst b1; subst b2; subst r1; subst r2
          have HB3 := HB2
          go_wp2
          go_roundw
          case rel => exact ⟨k + 1, by omega, by go_num, by rw [HNB.out], by rw [HNR.out], HB3.out⟩
          case measure => simp [RowKit.intOf]; omega
        · have r5 : ¬ 1099511627776 < rs := by omega
          subst b1; subst b2; subst r4
          have HB3 := HB2
          go_wp2
          go_roundw
          case rel => exact ⟨k + 1, by omega, by go_num, by rw [HNB.out], by rw [HNR.out], HB3.out⟩
          case measure => simp [RowKit.intOf]; omega
        · exfalso; omega
        · have b5 : ¬ 1099511627776 < bs := by omega
          subst b4; subst r1; subst r2
          go_wp2_with fail
          refine ci.mono ?_; rintro r w3 ⟨rfl, hw3⟩
          have d9 := (HU.out w3 hw3).1
          have HB3 := Hid.mk' (HU.out w3 hw3).2
          clear ci hw3 d0 d1 d2 d3 d4 d5 d6 HB2 HU
          go_wp2
          go_roundw
          case rel => exact ⟨k + 1, by omega, by go_num, by rw [HNB.out], by rw [HNR.out], HB3.out⟩
          case measure => simp [RowKit.intOf]; omega
        · have b5 : ¬ 1099511627776 < bs := by omega
          have r5 : ¬ 1099511627776 < rs := by omega
          subst b4; subst r4
          go_wp2_with fail
          refine ci.mono ?_; rintro r w3 ⟨rfl, hw3⟩
          have d9 := (HU.out w3 hw3).1
          have HB3 := Hid.mk' (HU.out w3 hw3).2
          clear ci hw3 d0 d1 d2 d3 d4 d5 d6 HB2 HU
          go_wp2
          go_roundw
          case rel => exact ⟨k + 1, by omega, by go_num, by rw [HNB.out], by rw [HNR.out], HB3.out⟩
          case measure => simp [RowKit.intOf]; omega
        · exfalso; omega
        · have b5 : ¬ 1099511627776 < bs := by omega
          subst b4; subst r1; subst r2
          go_wp2_with fail
          refine ci.mono ?_; rintro r w3 ⟨rfl, hw3⟩
          have d9 := (HU.out w3 hw3).1
          have HB3 := Hid.mk' (HU.out w3 hw3).2
          clear ci hw3 d0 d1 d2 d3 d4 d5 d6 HB2 HU
          go_wp2
          go_roundw
          case rel => exact ⟨k + 1, by omega, by go_num, by rw [HNB.out], by rw [HNR.out], HB3.out⟩
          case measure => simp [RowKit.intOf]; omega
        · have r5 : ¬ 1099511627776 < rs := by omega
          have b5 : ¬ 1099511627776 < bs := by omega
          subst b4; subst r4
          go_wp2_with fail
          refine ci.mono ?_; rintro r w3 ⟨rfl, hw3⟩
          have d9 := (HU.out w3 hw3).1
          have HB3 := Hid.mk' (HU.out w3 hw3).2
          clear ci hw3 d0 d1 d2 d3 d4 d5 d6 HB2 HU
          go_wp2
          go_roundw
          case rel => exact ⟨k + 1, by omega, by go_num, by rw [HNB.out], by rw [HNR.out], HB3.out⟩
          case measure => simp [RowKit.intOf]; omega
        · exfalso; omega
    · have hltI : ¬ (k : Int) < n := by omega
      have hE : E.take k = E := List.take_of_length_le (by have := HN.out.1; omega)
      rw [hE]
      clear hE
      go_wp2
      go_ret2
      exact ⟨rfl, hbw⟩
end Go.Proofs.YtfllomfjhkgaoaaGreatDoor
