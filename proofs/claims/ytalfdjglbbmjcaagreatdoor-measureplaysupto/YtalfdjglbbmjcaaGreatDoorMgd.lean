/- What the methods Op of pieces answer. Operations as new memory: appends of rows of operations; vellumlaw05.copied. ops.Same and the document's Same: two lists, one by one. build: what a delta tells: Count, Ops, Pieces, Same. Deltas unit by unit: one behind the other, and one carried over another: what they do to cells. Two canonical lists that do the same to all long enough documents are one. Deltas unit by unit: inverses; lengths of what comes; compositions and carried deltas are well formed. The pieces of a cut text, purely. Deltas unit by unit: parts and turned parts; documents and their cells. A delta gone through in pieces, purely. A loop over a function whose function writes memory of its own between two rounds, and asks for rounds at what it has laid. -/
import Derived.Test.YtalfdjglbbmjcaaGreatDoorMgc
import Derived.Test.YtalfdjglbbmjcaaGreatDoorMga
import Derived.Deep.DeepCutAuto
import Derived.Test.YtalfdjglbbmjcaaGreatDoorSw
import Derived.Deep.RegionHeld3
import Derived.Test.YtalfdjglbbmjcaaGreatDoorMgb
import Derived.RangeFuncNested
import Derived.RangeFuncBound
import Derived.RangeFuncCalls
import Derived.RangeFuncLeaves

/- What the methods Op of pieces answer. -/
namespace Go.Proofs.YtalfdjglbbmjcaaGreatDoor
open Go Go.RowKit Go.Lib
set_option linter.unusedVariables false

set_option maxHeartbeats 1000000 in
set_option maxRecDepth 100000 in
theorem retOp (s : Value) (A : List A2) (n : Int) (w : World) (hR : RN w s A) (hl : A.length ≤ 2097152) :
    Calls Tryz.prog 199 #[.agg #[s, .int .i64 n]] w fun r w' => ∃ v', r = .returned (opV ⟨3, ⟨#[]⟩, z0, n, []⟩ v') ∧ OwnA w' w.heap.size v' A ∧ Below w.heap.size w w' := by
  have HC : Hid (∀ W, Below w.heap.size w W → Calls Tryz.prog 133 #[.agg #[s]] W fun r w' => ∃ v', r = .returned v' ∧ OwnA w' W.heap.size v' A ∧ Below W.heap.size W w') := fun W hW => attributes_any s A W (hR.row.below hW) hR.nz hl
  obtain ⟨p, l, cc, rfl⟩ : ∃ p l c, s = .slice p l c := by obtain ⟨p, c, h, _⟩ := hR.row.val; exact ⟨_, _, _, h⟩
  clear hR hl
  obtain ⟨W1, hW1⟩ : ∃ W, W = (w.alloc (.cells #[.slice p l cc, .int .i64 n] 157)).alloc (.cells #[.int .i64 0, .string ⟨#[]⟩, .int .i64 0, .int .i64 0, .string ⟨#[]⟩, .int .i64 0, .slice none 0 0] 33) := ⟨_, rfl⟩
  have b0 : Below w.heap.size w W1 := by rw [hW1]; exact ((Below.refl _ _).alloc (Nat.le_refl _) _).alloc (by simp) _
  have e0 : W1.cell? ⟨w.heap.size, 0, none⟩ = some (.slice p l cc) := by rw [hW1]; simp
  have e1 : W1.cell? ⟨w.heap.size, 1, none⟩ = some (.int .i64 n) := by rw [hW1]; simp
  have hB : BoxO W1 (w.heap.size + 1) opZ nilS ∧ FrO W1 (w.heap.size + 1) := by
    have q1 := BoxO.new (w.alloc (.cells #[.slice p l cc, .int .i64 n] 157)) opZ nilS
    have q2 := FrO.new (w.alloc (.cells #[.slice p l cc, .int .i64 n] 157)) opZ nilS
    rw [World.size_alloc] at q1 q2
    rw [hW1]
    exact ⟨q1, q2⟩
  go_enter Tryz.func199, Tryz.ntmps199
  go_upto_region 1 with fail
  rw [← hW1]
  clear hW1
  have HB : Hid (BoxO W1.drew (w.heap.size + 1) opZ nilS ∧ FrO W1.drew (w.heap.size + 1)) := ⟨hB.1.drew, hB.2.drew⟩
  have b1 : Below w.heap.size w W1.drew := b0.drew
  have hz1 : w.heap.size ≤ W1.drew.heap.size := b1.size
  have hz2 : w.heap.size + 1 < W1.drew.heap.size := lt_of_cell hB.1.d0
  have cA := HC.out W1.drew b1
  have n1 : w.heap.size ≠ w.heap.size + 1 := by omega
  have hs1 : w.heap.size ≤ w.heap.size + 1 := by omega
  have HU : Hid (∀ W : World, (∀ i, W.cell? ⟨w.heap.size, i, none⟩ = W1.drew.cell? ⟨w.heap.size, i, none⟩) → W.cell? ⟨w.heap.size, 0, none⟩ = some (.slice p l cc) ∧ W.cell? ⟨w.heap.size, 1, none⟩ = some (.int .i64 n)) := fun W h => ⟨(h 0).trans e0, (h 1).trans e1⟩
  have M0 := HU.out W1.drew (fun _ => rfl)
  have HW : Hid (∀ W, Below W1.drew.heap.size W1.drew W → ∀ i, W.cell? ⟨w.heap.size, i, none⟩ = W1.drew.cell? ⟨w.heap.size, i, none⟩) := fun W h i => World.cell?_of_block (a := ⟨w.heap.size, i, none⟩) (h.block w.heap.size (by omega))
  have HS : Hid (∀ W, Below W1.drew.heap.size W1.drew W → (∀ u0 u1 u2 u3 u4 u5 u6 : Value, ((((((((W.setCell ⟨w.heap.size + 1, 0, none⟩ u0).setCell ⟨w.heap.size + 1, 1, none⟩ u1).setCell ⟨w.heap.size + 1, 2, none⟩ u2).setCell ⟨w.heap.size + 1, 3, none⟩ u3).setCell ⟨w.heap.size + 1, 4, none⟩ u4).setCell ⟨w.heap.size + 1, 5, none⟩ u5).setCell ⟨w.heap.size + 1, 6, none⟩ u6).cell? ⟨w.heap.size, 0, none⟩ = some (.slice p l cc) ∧ (((((((W.setCell ⟨w.heap.size + 1, 0, none⟩ u0).setCell ⟨w.heap.size + 1, 1, none⟩ u1).setCell ⟨w.heap.size + 1, 2, none⟩ u2).setCell ⟨w.heap.size + 1, 3, none⟩ u3).setCell ⟨w.heap.size + 1, 4, none⟩ u4).setCell ⟨w.heap.size + 1, 5, none⟩ u5).setCell ⟨w.heap.size + 1, 6, none⟩ u6).cell? ⟨w.heap.size, 1, none⟩ = some (.int .i64 n)) ∧ Below w.heap.size w (((((((W.setCell ⟨w.heap.size + 1, 0, none⟩ u0).setCell ⟨w.heap.size + 1, 1, none⟩ u1).setCell ⟨w.heap.size + 1, 2, none⟩ u2).setCell ⟨w.heap.size + 1, 3, none⟩ u3).setCell ⟨w.heap.size + 1, 4, none⟩ u4).setCell ⟨w.heap.size + 1, 5, none⟩ u5).setCell ⟨w.heap.size + 1, 6, none⟩ u6))) := fun W h u0 u1 u2 u3 u4 u5 u6 => ⟨HU.out _ (fun i => (cell_set7 (B := w.heap.size + 1) (j := i) W n1 u0 u1 u2 u3 u4 u5 u6).trans (HW.out W h i)), below_set7 (B := w.heap.size + 1) (b1.trans (h.mono hz1)) hs1 u0 u1 u2 u3 u4 u5 u6⟩
  clear hB e0 e1 b0
  go_region_held3 (fun w' => (w'.cell? ⟨w.heap.size, 0, none⟩ = some (.slice p l cc) ∧ w'.cell? ⟨w.heap.size, 1, none⟩ = some (.int .i64 n)) ∧ Below w.heap.size w w')
    (first | exact ⟨by with_reducible first | assumption | exact M0 | exact MS _ _ _ _ _ _ _, by with_reducible first | assumption | exact b1 | exact BS _ _ _ _ _ _ _⟩)
    (first
      | (go_at_call 133; refine cA.mono ?_; rintro r wA ⟨vA, rfl, oA, hA⟩; obtain ⟨pA, cA', rfl⟩ := own_slice oA; have HA' := hA; have bA := b1.trans (HA'.mono hz1); have mA := HU.out wA (HW.out wA HA'); have OA : Hid (OwnA wA W1.drew.heap.size (.slice pA A.length cA') A) := oA; clear oA; obtain ⟨q0, q1, q2, q3, q4, q5, q6⟩ := HB.out.1.below HA'; obtain ⟨h0, h1, h2, h3, h4, h5, h6⟩ := HB.out.2.below HB.out.1 HA'; simp only [z0] at q0 q1 q2 q3 q4 q5 q6; have MS := fun u0 u1 u2 u3 u4 u5 u6 => (HS.out wA HA' u0 u1 u2 u3 u4 u5 u6).1; have BS := fun u0 u1 u2 u3 u4 u5 u6 => (HS.out wA HA' u0 u1 u2 u3 u4 u5 u6).2))
  · have same : ∀ (u0 u1 u2 u3 u4 u5 u6 : Value) (v : Value) (hv : OwnA wA W1.drew.heap.size v A), OwnA (((((((wA.setCell ⟨w.heap.size + 1, 0, none⟩ u0).setCell ⟨w.heap.size + 1, 1, none⟩ u1).setCell ⟨w.heap.size + 1, 2, none⟩ u2).setCell ⟨w.heap.size + 1, 3, none⟩ u3).setCell ⟨w.heap.size + 1, 4, none⟩ u4).setCell ⟨w.heap.size + 1, 5, none⟩ u5).setCell ⟨w.heap.size + 1, 6, none⟩ u6) w.heap.size v A := fun u0 u1 u2 u3 u4 u5 u6 v hv =>
      own_weaken (owns_same hv fun k hk => by
        have := (owns_block hv k hk).1
        exact heap_set7 _ (by omega) _ _ _ _ _ _ _) hz1
    go_wp2
    exact bodyPost_ret (v := opV ⟨3, ⟨#[]⟩, z0, n, []⟩ (.slice pA A.length cA')) (by simp [results, Tryz.results199, go_sem, z0, q0, q1, q2, q3, q4, q5, q6]) rfl ⟨_, rfl, same _ _ _ _ _ _ _ _ OA.out, BS _ _ _ _ _ _ _⟩

set_option maxHeartbeats 1000000 in
theorem delOp (n : Int) (w : World) :
    Calls Tryz.prog 197 #[.agg #[.int .i64 n]] w fun r w' => r = .returned (opV ⟨4, ⟨#[]⟩, z0, n, []⟩ (.slice none 0 0)) ∧ Below w.heap.size w w' := by
  go_enter Tryz.func197, Tryz.ntmps197
  go_wp2
  exact bodyPost_ret (v := opV ⟨4, ⟨#[]⟩, z0, n, []⟩ (.slice none 0 0)) (by simp [results, Tryz.results197, go_sem, z0]) rfl ⟨rfl, by go_grown⟩
theorem embOp_any (s : Value) (A : List A2) (t : ByteArray) (v : P3) (w : World) (hv : chkP v = 0) (hR : RN w s A) (hl : A.length ≤ 2097152) :
    Calls Tryz.prog 203 #[.agg #[s, .string t, valP v]] w fun r w' => ∃ v', r = .returned (opV ⟨2, t, v, 0, []⟩ v') ∧ OwnA w' w.heap.size v' A ∧ Below w.heap.size w w' := by
  obtain ⟨x, z, u⟩ := v
  rcases good_cases hv with ⟨rfl, rfl, rfl⟩ | ⟨rfl, rfl, rfl⟩ | ⟨rfl, rfl, rfl⟩ | ⟨rfl, rfl⟩ | ⟨rfl, rfl, _⟩
  · exact embOp_null s A t w hR hl
  · exact embOp_flag0 s A t w hR hl
  · exact embOp_flag1 s A t w hR hl
  · exact embOp_num z s A t w hR hl
  · exact embOp_text u s A t w hR hl
theorem opQ_1 {e : Op5} (hg : opE e = 0) (hk : e.k = 1) (s : Value) (w : World) (hR : RN w s e.A) (hl : e.A.length ≤ 2097152) :
    Calls Tryz.prog 201 #[.agg #[s, .string e.t, .int .i64 (scs e.t.data.toList).length]] w fun r w' => ∃ v', r = .returned (opV e v') ∧ OwnA w' w.heap.size v' e.A ∧ Below w.heap.size w w' := by
  refine (insOp s e.A e.t _ w hR hl).mono fun r w' ⟨v', h1, h2, h3⟩ => ⟨v', ?_, h2, h3⟩
  rw [h1]
  rcases op_good hg with ⟨hi, _⟩ | ⟨_, _, h⟩ | ⟨_, _, h⟩
  · have hc := hi.count
    rcases hi.kind with ⟨_, hv⟩ | ⟨h2, _⟩
    · obtain ⟨k, t, v, c, A⟩ := e
      simp only at hk hv hc
      subst hk hv hc
      rfl
    · omega
  · omega
  · omega
theorem opQ_2 {e : Op5} (hg : opE e = 0) (hk : e.k = 2) (s : Value) (w : World) (hR : RN w s e.A) (hl : e.A.length ≤ 2097152) :
    Calls Tryz.prog 203 #[.agg #[s, .string e.t, valP e.v]] w fun r w' => ∃ v', r = .returned (opV e v') ∧ OwnA w' w.heap.size v' e.A ∧ Below w.heap.size w w' := by
  rcases op_good hg with ⟨hi, _⟩ | ⟨_, _, h⟩ | ⟨_, _, h⟩
  · refine (embOp_any s e.A e.t e.v w hi.val hR hl).mono fun r w' ⟨v', h1, h2, h3⟩ => ⟨v', ?_, h2, h3⟩
    rw [h1]
    have hc := hi.count
    obtain ⟨k, t, v, c, A⟩ := e
    simp only at hk hc
    subst hk hc
    rfl
  · omega
  · omega
theorem cnt_flds {e : Op5} (h : Cnt e) : e.t = ⟨#[]⟩ ∧ e.v = z0 := by
  refine ⟨?_, h.val⟩
  have := h.text
  have h0 : e.t.toList = [] := List.isEmpty_iff.1 this
  rw [toList_data] at h0
  exact ByteArray.ext (Array.ext' h0)
theorem opQ_3 {e : Op5} (hg : opE e = 0) (hk : e.k = 3) (s : Value) (w : World) (hR : RN w s e.A) (hl : e.A.length ≤ 2097152) :
    Calls Tryz.prog 199 #[.agg #[s, .int .i64 e.c]] w fun r w' => ∃ v', r = .returned (opV e v') ∧ OwnA w' w.heap.size v' e.A ∧ Below w.heap.size w w' := by
  refine (retOp s e.A e.c w hR hl).mono fun r w' ⟨v', h1, h2, h3⟩ => ⟨v', ?_, h2, h3⟩
  rw [h1]
  rcases op_good hg with ⟨_, h⟩ | ⟨hc, _, _⟩ | ⟨_, _, h⟩
  · omega
  · obtain ⟨ht, hv⟩ := cnt_flds hc
    obtain ⟨k, t, v, c, A⟩ := e
    simp only at hk ht hv
    subst hk ht hv
    rfl
  · omega
theorem opQ_4 {e : Op5} (hg : opE e = 0) (hk : e.k = 4) (w : World) :
    Calls Tryz.prog 197 #[.agg #[.int .i64 e.c]] w fun r w' => ∃ v', r = .returned (opV e v') ∧ OwnA w' w.heap.size v' e.A ∧ Below w.heap.size w w' := by
  refine (delOp e.c w).mono fun r w' ⟨h1, h3⟩ => ⟨.slice none 0 0, ?_, ?_, h3⟩
  · rw [h1]
    rcases op_good hg with ⟨_, h⟩ | ⟨_, _, h⟩ | ⟨hc, _, _⟩
    · omega
    · omega
    · obtain ⟨ht, hv⟩ := cnt_flds hc
      obtain ⟨k, t, v, c, A⟩ := e
      simp only at hk ht hv
      subst hk ht hv
      rfl
  · rw [drop_A hg hk]; exact ⟨rfl, Or.inl ⟨rfl, rfl⟩⟩
end Go.Proofs.YtalfdjglbbmjcaaGreatDoor

/- Operations as new memory: appends of rows of operations; vellumlaw05.copied. -/
namespace Go.Proofs.YtalfdjglbbmjcaaGreatDoor
open Go Go.RowKit Go.Lib
set_option linter.unusedVariables false

theorem cellsO_inv : ∀ (L : List OV) (j : Nat) (u : Value), (cellsO L)[j]? = some u → ∃ i d, L[i]? = some d ∧ ((j = i * 7 ∧ u = .int .i64 d.1) ∨ (j = i * 7 + 1 ∧ u = .string d.2.1) ∨ (j = i * 7 + 2 ∧ u = .int .i64 d.2.2.1.1) ∨ (j = i * 7 + 3 ∧ u = .int .i64 d.2.2.1.2.1) ∨ (j = i * 7 + 4 ∧ u = .string d.2.2.1.2.2) ∨ (j = i * 7 + 5 ∧ u = .int .i64 d.2.2.2.1) ∨ (j = i * 7 + 6 ∧ u = slV d.2.2.2.2))
  | [], j, u, h => by simp [cellsO] at h
  | p :: r, 0, u, h => ⟨0, p, rfl, Or.inl ⟨rfl, by simpa [cellsO] using h.symm⟩⟩
  | p :: r, 1, u, h => ⟨0, p, rfl, Or.inr (Or.inl ⟨rfl, by simpa [cellsO] using h.symm⟩)⟩
  | p :: r, 2, u, h => ⟨0, p, rfl, Or.inr (Or.inr (Or.inl ⟨rfl, by simpa [cellsO] using h.symm⟩))⟩
  | p :: r, 3, u, h => ⟨0, p, rfl, Or.inr (Or.inr (Or.inr (Or.inl ⟨rfl, by simpa [cellsO] using h.symm⟩)))⟩
  | p :: r, 4, u, h => ⟨0, p, rfl, Or.inr (Or.inr (Or.inr (Or.inr (Or.inl ⟨rfl, by simpa [cellsO] using h.symm⟩))))⟩
  | p :: r, 5, u, h => ⟨0, p, rfl, Or.inr (Or.inr (Or.inr (Or.inr (Or.inr (Or.inl ⟨rfl, by simpa [cellsO] using h.symm⟩)))))⟩
  | p :: r, 6, u, h => ⟨0, p, rfl, Or.inr (Or.inr (Or.inr (Or.inr (Or.inr (Or.inr ⟨rfl, by simpa [cellsO] using h.symm⟩)))))⟩
  | p :: r, j + 7, u, h => by
    obtain ⟨i, q, hq, hh⟩ := cellsO_inv r j u (by simpa [cellsO] using h)
    refine ⟨i + 1, q, by simpa using hq, ?_⟩
    rcases hh with ⟨h1, h2⟩ | ⟨h1, h2⟩ | ⟨h1, h2⟩ | ⟨h1, h2⟩ | ⟨h1, h2⟩ | ⟨h1, h2⟩ | ⟨h1, h2⟩
    · exact Or.inl ⟨by omega, h2⟩
    · exact Or.inr (Or.inl ⟨by omega, h2⟩)
    · exact Or.inr (Or.inr (Or.inl ⟨by omega, h2⟩))
    · exact Or.inr (Or.inr (Or.inr (Or.inl ⟨by omega, h2⟩)))
    · exact Or.inr (Or.inr (Or.inr (Or.inr (Or.inl ⟨by omega, h2⟩))))
    · exact Or.inr (Or.inr (Or.inr (Or.inr (Or.inr (Or.inl ⟨by omega, h2⟩)))))
    · exact Or.inr (Or.inr (Or.inr (Or.inr (Or.inr (Or.inr ⟨by omega, h2⟩)))))
/-- append(own, a row of operations ...). -/
theorem wpList_append_rowO {w : World} {ops : Array Oper} {rest : List Oper} {o : Oper} {a : Act} {Q : Exit → Act → World → Prop} (hgd : o.guard = none) (s x : Operand)
    (ho : o.op = .call { callee := .builtin .append, args := #[s, x], argTypes := #[26, 26] })
    (base : Nat) (v : Value) (L : List OV) (hs : a.eval s = v) (hown : OwnO w base v L)
    (u : Value) (M : List OV) (hx : a.eval x = u) (hM : RowO w u M)
    (h63 : L.length + M.length ≤ 33554432) (hbase : base ≤ w.heap.size)
    (h : ∀ v' w', OwnO w' base v' (L ++ M) → w.grownBy w' v.ownBlock → wpList Tryz.prog ops Q rest (a.put o.dst v') w') : wpList Tryz.prog ops Q (o :: rest) a w := by
  obtain ⟨i, z, hi, hz, hz1, hz2, hz3⟩ := infoOp
  obtain ⟨p, cap, rfl, hcap, hnz, hc⟩ := hM
  cases p with
  | none =>
    have hM0 : M = [] := List.eq_nil_of_length_eq_zero (by have := hnz rfl; omega)
    have hcap0 := hnz rfl
    subst hM0
    subst hcap0
    exact wpList_append_own_none hgd s x 26 ho base 33 i 7 Tryz.underlying26 hi v L.length (cellsO L) hs hown hx (h v w (by simpa using hown) ⟨rfl, rfl, rfl, Nat.le_refl _, fun _ _ _ => rfl⟩)
  | some ad =>
    refine wpList_append_own _ hgd s x _ ho base 33 i z 7 88 Tryz.underlying26 hi hz hz1 hz2 hz3 (by decide) v L.length (cellsO L) hs hown ad M.length cap (cellsO M) hx (cellsO_len M) (fun j y hj => ?_) (cellsO_one _) (by unfold maxLen; omega) (by omega) hbase (fun v' w' h1 h2 _ => h v' w' ?_ h2)
    · obtain ⟨i, d, hd, hh⟩ := cellsO_inv M j y hj
      obtain ⟨b, off, hp, h0, h1, h2, h3, h4, h5, h6⟩ := hc i d hd
      obtain rfl := Option.some.inj hp
      rw [Addr.add_lit]
      rcases hh with ⟨rfl, rfl⟩ | ⟨rfl, rfl⟩ | ⟨rfl, rfl⟩ | ⟨rfl, rfl⟩ | ⟨rfl, rfl⟩ | ⟨rfl, rfl⟩ | ⟨rfl, rfl⟩
      · exact h0
      · exact h1
      · exact h2
      · exact h3
      · exact h4
      · exact h5
      · exact h6
    · show w'.ownsRow _ _ _ _ _ _
      rw [cellsO_append, List.length_append]
      exact h1
/-- What operations in memory are, their lists the call's own. -/
def OwD (w : World) (B : Nat) (D : List OV) (E : List Op5) : Prop := All2 (fun (d : OV) (e : Op5) => d.1 = e.k ∧ d.2.1 = e.t ∧ d.2.2.1 = e.v ∧ d.2.2.2.1 = e.c ∧ OwnA w B (slV d.2.2.2.2) e.A) D E
theorem OwD.below {w w' : World} {B : Nat} {D : List OV} {E : List Op5} (h : OwD w B D E) (b : Below w.heap.size w w') : OwD w' B D E := All2.imp (fun d e h => ⟨h.1, h.2.1, h.2.2.1, h.2.2.2.1, owns_below h.2.2.2.2 b⟩) h
theorem OwD.keep {w w' : World} {B : Nat} {D : List OV} {E : List Op5} (h : OwD w B D E) (b : KeepA w w') : OwD w' B D E := All2.imp (fun d e h => ⟨h.1, h.2.1, h.2.2.1, h.2.2.2.1, keepA_own h.2.2.2.2 b⟩) h
theorem OwD.weaken {w : World} {B B' : Nat} {D : List OV} {E : List Op5} (h : OwD w B D E) (hb : B' ≤ B) : OwD w B' D E := All2.imp (fun d e h => ⟨h.1, h.2.1, h.2.2.1, h.2.2.2.1, own_weaken h.2.2.2.2 hb⟩) h
theorem OwD.re {w : World} {B : Nat} {D : List OV} {E : List Op5} (h : OwD w B D E) : ReD w D E := All2.imp (fun d e h => ⟨h.1, h.2.1, h.2.2.1, h.2.2.2.1, own_RN h.2.2.2.2⟩) h
/-- A list of operations, the call's own. -/
def CoO (w : World) (B : Nat) (v : Value) (E : List Op5) : Prop := ∃ D, OwnO w B v D ∧ OwD w B D E
theorem CoO.below {w w' : World} {B : Nat} {v : Value} {E : List Op5} (h : CoO w B v E) (b : Below w.heap.size w w') : CoO w' B v E := by
  obtain ⟨D, h1, h2⟩ := h
  exact ⟨D, owns_below h1 b, h2.below b⟩
theorem CoO.re {w : World} {B : Nat} {v : Value} {E : List Op5} (h : CoO w B v E) : ReO w v E := by
  obtain ⟨D, h1, h2⟩ := h
  exact ⟨D, own_rowO h1, h2.re⟩

end Go.Proofs.YtalfdjglbbmjcaaGreatDoor

/- ops.Same and the document's Same: two lists, one by one. -/
namespace Go.Proofs.YtalfdjglbbmjcaaGreatDoor
open Go Go.RowKit Go.Lib
set_option linter.unusedVariables false

theorem take_eq_snoc {E E' : List Op5} {k : Nat} {e e' : Op5} (h : E.take k = E'.take k) (h1 : E[k]? = some e) (h2 : E'[k]? = some e') (he : e = e') : E.take (k + 1) = E'.take (k + 1) := by
  rw [List.take_add_one, List.take_add_one, h, h1, h2, he]
theorem ne_at {E E' : List Op5} {k : Nat} {e e' : Op5} (h1 : E[k]? = some e) (h2 : E'[k]? = some e') (he : e ≠ e') : E ≠ E' := fun h => by
  rw [h, h2] at h1; exact he (Option.some.inj h1).symm

set_option maxHeartbeats 1000000 in
theorem sameP_any (o o' : Op5) (s s' : Value) (w : World) (hA : RowA w s o.A) (hB : RowA w s' o'.A) (hl : o.A.length ≤ 4194304) (hl2 : o'.A.length ≤ 4194304) :
    Calls Tryz.prog 129 #[opV o s, opV o' s'] w fun r w' => r = .returned (.bool (decide (o = o'))) ∧ Below w.heap.size w w' := by
  have b0 := ((Below.refl w.heap.size w).alloc (Nat.le_refl _) (.cells (opC o s) 33)).alloc (by simp) (.cells (opC o' s') 33)
  have cS := from_below b0 (sameAttrs_any s s' o.A o'.A _ (hA.below b0) (hB.below b0) (by omega) (by omega))
  obtain ⟨pa, ca, rfl, _⟩ := hA.val
  obtain ⟨pb, cb, rfl, _⟩ := hB.val
  obtain ⟨k, t, ⟨x, n, u⟩, c, A⟩ := o
  obtain ⟨k', t', ⟨x', n', u'⟩, c', A'⟩ := o'
  simp only at cS
  simp only [opC] at b0 cS
  clear hA hB hl hl2
  have gd := fun op e e' w => guard_pl op e e' (x, n, u) (x', n', u') w
  by_cases hk : k = k'
  · subst hk
    by_cases ht : t = t'
    · subst ht
      have q1 := beq_key (x := t) (y := t) true (decide_eq_true rfl)
      by_cases hc : c = c'
      · subst hc
        by_cases hv : ((x, n, u) : P3) = (x', n', u')
        · have hne := eql_pl (x, n, u) (x', n', u') true (by rw [hv, samP_self])
          have hd : decide (({ k := k, t := t, v := (x, n, u), c := c, A := A } : Op5) = { k := k, t := t, v := (x', n', u'), c := c, A := A' }) = decide (A = A') := by
            simp only [Op5.mk.injEq, true_and, hv]
          rw [hd]
          generalize decide (A = A') = R at cS ⊢
          clear hd hv
          go_enter Tryz.func129, Tryz.ntmps129
          go_wp2_with fail
          refine cS.mono ?_; rintro r w2 ⟨rfl, hb2⟩
          go_wp2
          go_ret
          exact ⟨rfl, hb2⟩
        · rw [decide_eq_false (by intro e; exact hv (congrArg Op5.v e))]
          have hne := eql_pl (x, n, u) (x', n', u') false (samP_ne hv)
          clear cS hv
          go_enter Tryz.func129, Tryz.ntmps129
          go_wp2
          go_ret
          exact ⟨rfl, b0⟩
      · rw [decide_eq_false (by intro e; exact hc (congrArg Op5.c e))]
        have hcc : (c == c') = false := by simpa using hc
        clear cS hc gd
        go_enter Tryz.func129, Tryz.ntmps129
        go_wp2
        go_ret
        exact ⟨rfl, b0⟩
    · rw [decide_eq_false (by intro e; exact ht (congrArg Op5.t e))]
      have q1 := beq_key (x := t) (y := t') false (decide_eq_false ht)
      clear cS ht gd
      go_enter Tryz.func129, Tryz.ntmps129
      go_wp2
      go_ret
      exact ⟨rfl, b0⟩
  · rw [decide_eq_false (by intro e; exact hk (congrArg Op5.k e))]
    have hkk : (k == k') = false := by simpa using hk
    clear cS hk gd
    go_enter Tryz.func129, Tryz.ntmps129
    go_wp2
    go_ret
    exact ⟨rfl, b0⟩

set_option maxHeartbeats 2000000 in
set_option maxRecDepth 100000 in
theorem sameQ_any (v v' : Value) (E E' : List Op5) (w : World) (h : ReO w v E) (h' : ReO w v' E') (hl : E.length ≤ 2097152) (hl' : E'.length ≤ 2097152) (hA : ∀ e ∈ E, e.A.length ≤ 1048576) (hA' : ∀ e ∈ E', e.A.length ≤ 1048576) :
    Calls Tryz.prog 103 #[v, v'] w fun r w' => r = .returned (.bool (decide (E = E'))) ∧ Below w.heap.size w w' := by
  obtain ⟨D, hrow, hre⟩ := h
  obtain ⟨D', hrow', hre'⟩ := h'
  have hE := forall2_len hre
  have hE' := forall2_len hre'
  obtain ⟨n, hn⟩ : ∃ n, D.length = n := ⟨_, rfl⟩
  obtain ⟨m, hm⟩ : ∃ m, D'.length = m := ⟨_, rfl⟩
  obtain ⟨pa, ca, rfl, ha, _, hca⟩ := hrow
  obtain ⟨pb, cb, rfl, hb, _, hcb⟩ := hrow'
  rw [hn] at ha hE ⊢
  rw [hm] at hb hE' ⊢
  have HN : Hid (D.length = n ∧ D'.length = m ∧ E.length = n ∧ E'.length = m) := ⟨hn, hm, hE.symm, hE'.symm⟩
  by_cases hnm : n = m
  · subst hnm
    have HA : Hid (∀ (j : Nat) (d : OV), D[j]? = some d → ∃ b off, pa = some ⟨b, off, none⟩ ∧ OpAt w b (off + j * 7) d) := hca
    have HB : Hid (∀ (j : Nat) (d : OV), D'[j]? = some d → ∃ b off, pb = some ⟨b, off, none⟩ ∧ OpAt w b (off + j * 7) d) := hcb
    have hl : n ≤ 2097152 := by omega
    have CC : Hid (∀ (k : Nat) d d', D[k]? = some d → D'[k]? = some d' → ∃ e e', E[k]? = some e ∧ E'[k]? = some e' ∧ ∀ W, Below w.heap.size w W → Calls Tryz.prog 129 #[ovV d, ovV d'] W fun r w' => r = .returned (.bool (decide (e = e'))) ∧ Below W.heap.size W w') := fun k d d' h1 h2 => by
      obtain ⟨y, hy, r1⟩ := forall2_get hre k d h1
      obtain ⟨y', hy', r2⟩ := forall2_get hre' k d' h2
      refine ⟨y, y', hy, hy', fun W hW => ?_⟩
      rw [opV_of r1, opV_of r2]
      have h3 := hA y (List.mem_of_getElem? hy)
      have h4 := hA' y' (List.mem_of_getElem? hy')
      exact sameP_any y y' _ _ W (r1.2.2.2.2.below hW).row (r2.2.2.2.2.below hW).row (by omega) (by omega)
    clear hca hcb hn hm hre hre' hE hE' hA hA' hl'
    go_enter Tryz.func103, Tryz.ntmps103
    go_wp2
    go_loopw [5] (fun i wr => ∃ (k : Nat), k ≤ n ∧ i = .int .i64 k ∧ Hid (E.take k = E'.take k) ∧ Below w.heap.size w wr) (fun i _ => n - (RowKit.intOf i).toNat)
    case atStart => exact ⟨0, Nat.zero_le _, rfl, rfl, Below.refl _ _⟩
    case round =>
      obtain ⟨k, hk, rfl, HT, hbw⟩ := hrel
      by_cases hlt : k < n
      · have hltI : (k : Int) < n := by omega
        obtain ⟨d, hd⟩ : ∃ q, D[k]? = some q := ⟨_, List.getElem?_eq_getElem (by rw [HN.out.1]; exact hlt)⟩
        obtain ⟨d', hd'⟩ : ∃ q, D'[k]? = some q := ⟨_, List.getElem?_eq_getElem (by rw [HN.out.2.1]; exact hlt)⟩
        obtain ⟨e, e', he, he', cc⟩ := CC.out k d d' hd hd'
        obtain ⟨b, off, rfl, hin⟩ := HA.out k d hd
        obtain ⟨b', off', rfl, hin'⟩ := HB.out k d' hd'
        obtain ⟨c0, c1, c2, c3, c4, c5, c6⟩ := hin.below hbw
        obtain ⟨d0, d1, d2, d3, d4, d5, d6⟩ := hin'.below hbw
        have HEE : Hid (E[k]? = some e ∧ E'[k]? = some e') := ⟨he, he'⟩
        clear hin hin' hd hd' he he'
        obtain ⟨f, t, ⟨x, z, u⟩, cc1, p, j, c⟩ := d
        obtain ⟨f', t', ⟨x', z', u'⟩, cc1', p', j', c'⟩ := d'
        simp only [slV] at c0 c1 c2 c3 c4 c5 c6 d0 d1 d2 d3 d4 d5 d6
        simp only [ovV, ovC, slV] at cc
        have HU : Hid (∀ w', Below wr.drew.heap.size wr.drew w' → (w'.cell? ⟨b, off + k * 7, none⟩ = some (.int .i64 f) ∧ w'.cell? ⟨b, off + k * 7 + 1, none⟩ = some (.string t) ∧ w'.cell? ⟨b, off + k * 7 + 2, none⟩ = some (.int .i64 x) ∧ w'.cell? ⟨b, off + k * 7 + 3, none⟩ = some (.int .i64 z) ∧ w'.cell? ⟨b, off + k * 7 + 4, none⟩ = some (.string u) ∧ w'.cell? ⟨b, off + k * 7 + 5, none⟩ = some (.int .i64 cc1) ∧ w'.cell? ⟨b, off + k * 7 + 6, none⟩ = some (.slice p j c) ∧ w'.cell? ⟨b', off' + k * 7, none⟩ = some (.int .i64 f') ∧ w'.cell? ⟨b', off' + k * 7 + 1, none⟩ = some (.string t') ∧ w'.cell? ⟨b', off' + k * 7 + 2, none⟩ = some (.int .i64 x') ∧ w'.cell? ⟨b', off' + k * 7 + 3, none⟩ = some (.int .i64 z') ∧ w'.cell? ⟨b', off' + k * 7 + 4, none⟩ = some (.string u') ∧ w'.cell? ⟨b', off' + k * 7 + 5, none⟩ = some (.int .i64 cc1') ∧ w'.cell? ⟨b', off' + k * 7 + 6, none⟩ = some (.slice p' j' c'))) := fun w' hb => ⟨(hb.cell (lt_of_cell (w := wr.drew) c0)).trans c0, (hb.cell (lt_of_cell (w := wr.drew) c1)).trans c1, (hb.cell (lt_of_cell (w := wr.drew) c2)).trans c2, (hb.cell (lt_of_cell (w := wr.drew) c3)).trans c3, (hb.cell (lt_of_cell (w := wr.drew) c4)).trans c4, (hb.cell (lt_of_cell (w := wr.drew) c5)).trans c5, (hb.cell (lt_of_cell (w := wr.drew) c6)).trans c6, (hb.cell (lt_of_cell (w := wr.drew) d0)).trans d0, (hb.cell (lt_of_cell (w := wr.drew) d1)).trans d1, (hb.cell (lt_of_cell (w := wr.drew) d2)).trans d2, (hb.cell (lt_of_cell (w := wr.drew) d3)).trans d3, (hb.cell (lt_of_cell (w := wr.drew) d4)).trans d4, (hb.cell (lt_of_cell (w := wr.drew) d5)).trans d5, (hb.cell (lt_of_cell (w := wr.drew) d6)).trans d6⟩
        have hz0 : w.heap.size ≤ wr.drew.heap.size := hbw.size
        obtain ⟨q, hq⟩ : ∃ q, decide (e = e') = q := ⟨_, rfl⟩
        rw [hq] at cc
        have HQ : Hid (decide (e = e') = q) := hq
        clear hq
        cases q with
        | true =>
          have HT2 : Hid (E.take (k + 1) = E'.take (k + 1)) := take_eq_snoc HT.out HEE.out.1 HEE.out.2 (of_decide_eq_true HQ.out)
          go_wp2_with fail
          go_region_held3 (fun w' => (w'.cell? ⟨b, off + k * 7, none⟩ = some (.int .i64 f) ∧ w'.cell? ⟨b, off + k * 7 + 1, none⟩ = some (.string t) ∧ w'.cell? ⟨b, off + k * 7 + 2, none⟩ = some (.int .i64 x) ∧ w'.cell? ⟨b, off + k * 7 + 3, none⟩ = some (.int .i64 z) ∧ w'.cell? ⟨b, off + k * 7 + 4, none⟩ = some (.string u) ∧ w'.cell? ⟨b, off + k * 7 + 5, none⟩ = some (.int .i64 cc1) ∧ w'.cell? ⟨b, off + k * 7 + 6, none⟩ = some (.slice p j c) ∧ w'.cell? ⟨b', off' + k * 7, none⟩ = some (.int .i64 f') ∧ w'.cell? ⟨b', off' + k * 7 + 1, none⟩ = some (.string t') ∧ w'.cell? ⟨b', off' + k * 7 + 2, none⟩ = some (.int .i64 x') ∧ w'.cell? ⟨b', off' + k * 7 + 3, none⟩ = some (.int .i64 z') ∧ w'.cell? ⟨b', off' + k * 7 + 4, none⟩ = some (.string u') ∧ w'.cell? ⟨b', off' + k * 7 + 5, none⟩ = some (.int .i64 cc1') ∧ w'.cell? ⟨b', off' + k * 7 + 6, none⟩ = some (.slice p' j' c')) ∧ Below w.heap.size w w')
            (exact ⟨by first | (with_reducible assumption) | (simp [*]; done), by first | (with_reducible assumption) | exact hbw.drew⟩)
            (first | (go_at_call 129; refine (cc _ ?_).mono ?_; (· first | assumption | exact hbw.drew | (apply And.right; assumption)); rintro r w3 ⟨rfl, b3⟩; have b4 : Below w.heap.size w w3 := (hbw.drew).trans (b3.mono hz0); have mm := HU.out _ b3))
          clear cc mm b3
          go_wp2
          go_roundw
          case rel => exact ⟨k + 1, by omega, by go_num, HT2, b4⟩
          case measure => simp [RowKit.intOf]; omega
        | false =>
          have hfin : Hid (decide (E = E') = false) := decide_eq_false (ne_at HEE.out.1 HEE.out.2 (of_decide_eq_false HQ.out))
          go_wp2_with fail
          go_region_held3 (fun w' => (w'.cell? ⟨b, off + k * 7, none⟩ = some (.int .i64 f) ∧ w'.cell? ⟨b, off + k * 7 + 1, none⟩ = some (.string t) ∧ w'.cell? ⟨b, off + k * 7 + 2, none⟩ = some (.int .i64 x) ∧ w'.cell? ⟨b, off + k * 7 + 3, none⟩ = some (.int .i64 z) ∧ w'.cell? ⟨b, off + k * 7 + 4, none⟩ = some (.string u) ∧ w'.cell? ⟨b, off + k * 7 + 5, none⟩ = some (.int .i64 cc1) ∧ w'.cell? ⟨b, off + k * 7 + 6, none⟩ = some (.slice p j c) ∧ w'.cell? ⟨b', off' + k * 7, none⟩ = some (.int .i64 f') ∧ w'.cell? ⟨b', off' + k * 7 + 1, none⟩ = some (.string t') ∧ w'.cell? ⟨b', off' + k * 7 + 2, none⟩ = some (.int .i64 x') ∧ w'.cell? ⟨b', off' + k * 7 + 3, none⟩ = some (.int .i64 z') ∧ w'.cell? ⟨b', off' + k * 7 + 4, none⟩ = some (.string u') ∧ w'.cell? ⟨b', off' + k * 7 + 5, none⟩ = some (.int .i64 cc1') ∧ w'.cell? ⟨b', off' + k * 7 + 6, none⟩ = some (.slice p' j' c')) ∧ Below w.heap.size w w')
            (exact ⟨by first | (with_reducible assumption) | (simp [*]; done), by first | (with_reducible assumption) | exact hbw.drew⟩)
            (first | (go_at_call 129; refine (cc _ ?_).mono ?_; (· first | assumption | exact hbw.drew | (apply And.right; assumption)); rintro r w3 ⟨rfl, b3⟩; have b4 : Below w.heap.size w w3 := (hbw.drew).trans (b3.mono hz0); have mm := HU.out _ b3))
          clear cc mm b3
          go_wp2
          go_ret
          exact ⟨by rw [hfin.out]; rfl, b4⟩
      · have hltI : ¬ (k : Int) < n := by omega
        have hfin : Hid (decide (E = E') = true) := decide_eq_true (by
          have := HT.out
          rwa [List.take_of_length_le (by rw [HN.out.2.2.1]; omega), List.take_of_length_le (by rw [HN.out.2.2.2]; omega)] at this)
        go_wp2
        go_ret
        exact ⟨by rw [hfin.out]; rfl, hbw⟩
  · have hne : ((n : Int) != m) = true := by simp; omega
    have hfin : Hid (decide (E = E') = false) := decide_eq_false (fun h => hnm (by rw [← HN.out.2.2.1, ← HN.out.2.2.2, h]))
    clear hca hcb hn hm hre hre' hE hE' hA hA' hnm HN hl hl'
    go_enter Tryz.func103, Tryz.ntmps103
    go_wp2
    go_ret
    exact ⟨by rw [hfin.out]; rfl, Below.refl _ _⟩
end Go.Proofs.YtalfdjglbbmjcaaGreatDoor

/- build: what a delta tells: Count, Ops, Pieces, Same. -/
namespace Go.Proofs.YtalfdjglbbmjcaaGreatDoor
open Go Go.RowKit Go.Lib
set_option linter.unusedVariables false

theorem count_any5 {B1 B2 : Nat} (v : Value) (E : List Op5) (w : World) (h : DelV w B1 B2 v E) :
    Calls Tryz.prog 73 #[v] w fun e w' => e = .returned (.int .i64 E.length) ∧ Below w.heap.size w w' := by
  obtain ⟨q, pv, PL, rfl, _, hq, hrow, hpie⟩ := h
  have c0 : w.cell? ⟨q, 0, none⟩ = some pv := by rw [cell_of_heap hq]; rfl
  obtain ⟨p, c, rfl⟩ := own_slice hrow
  have hl := forall2_len hpie
  rw [← hl]
  clear hq hrow hpie hl
  go_enter Tryz.func73, Tryz.ntmps73
  go_wp2
  go_ret
  exact ⟨rfl, Below.refl _ _⟩
theorem wpList_make_op (w : World) {ops : Array Oper} {rest : List Oper} {o : Oper} {a : Act} {Q : Exit → Act → World → Prop}
    (hg : o.guard = none) (l c : Operand) (hop : o.op = Op.makeSlice 26 l c) (base : Nat)
    (kl kc : IntKind) (C : Int) (n : Nat) (hl : a.eval l = .int kl 0) (hc : a.eval c = .int kc C) (hC : C = (n : Int)) (b2 : n ≤ 8388608) (b4 : base ≤ w.heap.size)
    (hK : ∀ v w', OwnO w' base v [] → w.grownBy w' none → wpList Tryz.prog ops Q rest (a.put o.dst v) w') :
    wpList Tryz.prog ops Q (o :: rest) a w := by
  obtain ⟨i, z, hi, hz, hz1, hz2, hz3⟩ := infoOp
  exact wpList_make_own w hg l c _ hop base 33 i z 7 Tryz.underlying26 hi hz hz1 kl kc C n hl hc hC (by rw [hz2]; omega) (by unfold maxLen; omega) b4 fun w' h1 h2 => hK _ w' h1 h2
theorem wpList_make_pi2 (w : World) {ops : Array Oper} {rest : List Oper} {o : Oper} {a : Act} {Q : Exit → Act → World → Prop}
    (hg : o.guard = none) (l c : Operand) (hop : o.op = Op.makeSlice 93 l c) (base : Nat)
    (kl kc : IntKind) (C : Int) (n : Nat) (hl : a.eval l = .int kl 0) (hc : a.eval c = .int kc C) (hC : C = (n : Int)) (b2 : n ≤ 8388608) (b4 : base ≤ w.heap.size)
    (hK : ∀ v w', OwnI w' base v [] → w.grownBy w' none → wpList Tryz.prog ops Q rest (a.put o.dst v) w') :
    wpList Tryz.prog ops Q (o :: rest) a w := by
  obtain ⟨i, z, hi, hz, hz1, hz2, hz3⟩ := infoPi
  exact wpList_make_own w hg l c _ hop base 56 i z 1 Tryz.underlying93 hi hz hz1 kl kc C n hl hc hC (by rw [hz2]; omega) (by unfold maxLen; omega) b4 fun w' h1 h2 => hK _ w' h1 h2
/-- What a loop over a delta's pieces reads. -/
theorem del_read {w : World} {B1 B2 q : Nat} {pv : Value} {PL : List Value} {E : List Op5} (hrow : OwnI w B1 pv PL) (hpie : PieD w B2 PL E) : ∃ p cap, pv = .slice p E.length cap ∧ ∀ k, k < E.length → ∃ ga e s, p = some ⟨ga, 0, none⟩ ∧ E[k]? = some e ∧ w.cell? ⟨ga, k, none⟩ = some (pieceQ e s) ∧ OwnA w B2 s e.A := by
  have hl := forall2_len hpie
  obtain ⟨p, cap, e⟩ := own_slice hrow
  refine ⟨p, cap, by rw [e, hl], fun k hk => ?_⟩
  obtain ⟨g, c, x, hv', hB, hx, hc⟩ := own_cell hrow k (by omega)
  obtain ⟨e', s, he, rfl, hs⟩ := oneI hpie hx
  rw [e] at hv'
  simp only [Value.slice.injEq] at hv'
  exact ⟨g, e', s, hv'.1, he, hc, hs⟩
set_option maxHeartbeats 4000000 in
set_option maxRecDepth 100000 in
theorem ops_any {B1 B2 : Nat} (v : Value) (E : List Op5) (w : World) (h : DelV w B1 B2 v E) (hg : ∀ o ∈ E, opE o = 0) (hA : ∀ o ∈ E, o.A.length ≤ 2097152) (hl : E.length ≤ 4194304) :
    Calls Tryz.prog 26 #[v] w fun e w' => ∃ v', e = .returned v' ∧ CoO w' w.heap.size v' E ∧ Below w.heap.size w w' := by
  obtain ⟨q, pv, PL, rfl, _, hq, hrow, hpie⟩ := h
  have c0 : w.cell? ⟨q, 0, none⟩ = some pv := by rw [cell_of_heap hq]; rfl
  obtain ⟨p, cap, rfl, hrd⟩ := del_read (q := q) hrow hpie
  have HV : Hid (∀ k, k < E.length → ∃ ga e s, p = some ⟨ga, 0, none⟩ ∧ E[k]? = some e ∧ w.cell? ⟨ga, k, none⟩ = some (pieceQ e s) ∧ OwnA w B2 s e.A) := hrd
  have HG : Hid (∀ o ∈ E, opE o = 0 ∧ o.A.length ≤ 2097152) := fun o ho => ⟨hg o ho, hA o ho⟩
  obtain ⟨n, hn⟩ : ∃ n, E.length = n := ⟨_, rfl⟩
  have HN : Hid (E.length = n) := hn
  rw [hn] at c0 hl HV
  clear hq hrow hpie hrd hg hA hn
  go_enter Tryz.func26, Tryz.ntmps26
  go_wp2_with (at_make; refine wpList_make_op _ rfl _ _ rfl w.heap.size .i64 .i64 _ n rfl rfl rfl (by omega) (Nat.le_refl _) ?_; intro v0 w1 hown hgr; have hb1 : Below w.heap.size w w1 := (Below.refl _ _).grown hgr (Nat.le_refl _) (fun k hk => by cases hk); have c1 := (hb1.cell (lt_of_cell c0)).trans c0; clear hgr)
  go_loopw [3, 17] (fun al i wr => ∃ (k : Nat) (D : List OV), k ≤ n ∧ i = .int .i64 k ∧ D.length = k ∧ OwnO wr w.heap.size al D ∧ OwD wr w.heap.size D (E.take k) ∧ Below w.heap.size w wr) (fun _ i _ => n - (RowKit.intOf i).toNat)
  case atStart => exact ⟨0, [], Nat.zero_le _, rfl, rfl, hown, .nil, hb1⟩
  case round =>
    clear hown hb1 c1
    obtain ⟨k, D, hk, rfl, hDl, hown, hsp, hbw⟩ := hrel
    by_cases hlt : k < n
    · have hltI : (k : Int) < n := by omega
      obtain ⟨ga, e, s, rfl, he, hc, hs⟩ := HV.out k hlt
      have c2 := (hbw.cell (lt_of_cell hc)).trans hc
      have hs2 := owns_below hs hbw
      obtain ⟨hg1, hA1⟩ := HG.out e (List.mem_of_getElem? he)
      have HT : Hid (E.take (k + 1) = E.take k ++ [e]) := by show _ = _; rw [List.take_add_one, he]; rfl
      have hge : Hid (∀ j, u3.ownBlock = some j → w.heap.size ≤ j) := fun j hj => (owns_block hown j hj).1
      have HO : Hid (OwnO wr w.heap.size u3 D ∧ OwD wr w.heap.size D (E.take k)) := ⟨hown, hsp⟩
      have hlen : D.length ≤ 8388608 := by omega
      have hlz : w.heap.size ≤ wr.heap.size := hbw.size
      have hkk := kinds_of hg1
      rcases hkk with hkk | hkk | hkk | hkk
      · have cO := opQ_1 hg1 hkk s wr (own_RN hs2) hA1
        obtain ⟨nn, hnn⟩ : ∃ x : Int, ((scs e.t.data.toList).length : Int) = x := ⟨_, rfl⟩
        rw [pieceQ_1 hkk] at c2
        rw [hnn] at c2 cO
        clear he hc hs hs2 hown hsp hg1 hA1 hkk hnn
        go_wp2_with fail
        refine cO.mono ?_; rintro r w5 ⟨v', rfl, own5, hb5⟩
        obtain ⟨p5, c5, rfl⟩ := own_slice own5
        have bw5 : Below w.heap.size w w5 := hbw.trans (hb5.mono hlz)
        obtain ⟨ek, et, ⟨ex, en, eu⟩, ec, eA⟩ := e
        have ba : Below w5.heap.size w5 (w5.alloc (.cells #[.int .i64 ek, .string et, .int .i64 ex, .int .i64 en, .string eu, .int .i64 ec, .slice p5 eA.length c5] 33)) := (Below.refl _ _).alloc (Nat.le_refl _) _
        have hat : OpAt (w5.alloc (.cells #[.int .i64 ek, .string et, .int .i64 ex, .int .i64 en, .string eu, .int .i64 ec, .slice p5 eA.length c5] 33)) w5.heap.size 0 (ek, et, (ex, en, eu), ec, p5, eA.length, c5) := ⟨by simp, by simp, by simp, by simp, by simp, by simp, by simp⟩
        have HO7 : Hid (OwnO (w5.alloc (.cells #[.int .i64 ek, .string et, .int .i64 ex, .int .i64 en, .string eu, .int .i64 ec, .slice p5 eA.length c5] 33)) w.heap.size u3 D ∧ OpAt (w5.alloc (.cells #[.int .i64 ek, .string et, .int .i64 ex, .int .i64 en, .string eu, .int .i64 ec, .slice p5 eA.length c5] 33)) w5.heap.size 0 (ek, et, (ex, en, eu), ec, p5, eA.length, c5)) := ⟨owns_below (owns_below HO.out.1 hb5) ba, hat⟩
        have HP7 : Hid (OwD (w5.alloc (.cells #[.int .i64 ek, .string et, .int .i64 ex, .int .i64 en, .string eu, .int .i64 ec, .slice p5 eA.length c5] 33)) w.heap.size (D ++ [(ek, et, (ex, en, eu), ec, p5, eA.length, c5)]) (E.take (k + 1))) := by
          show OwD _ _ _ _
          rw [HT.out]
          exact forall2_append ((HO.out.2.below hb5).below ba) (.cons ⟨rfl, rfl, rfl, rfl, own_weaken (owns_below own5 ba) hlz⟩ .nil)
        have bw7 := bw5.trans (ba.mono bw5.size)
        have hl33 : D.length ≤ 33554432 := by omega
        clear own5 hb5 bw5 ba hat HO HT cO c2
        go_wp2_with (at_builtin; refine wpList_append_ops rfl (.tmp 21) (.tmp 24) rfl w.heap.size u3 D rfl HO7.out.1 w5.heap.size 1 _ rfl HO7.out.2 hl33 bw7.size ?_; intro v8 w8 own8 gr8 hat8; have hsp8 : Hid (OwD w8 w.heap.size _ _) := HP7.out.keep (keepA_grownO HO7.out.1 gr8); have b8 := bw7.grown gr8 bw7.size (fun j hj => hge.out j hj); have HO8 : Hid (OwnO w8 w.heap.size v8 _) := own8; clear own8 gr8 hat8 HO7 HP7)
        go_roundw
        case rel => exact ⟨k + 1, _, by omega, by go_num, by simp [hDl], HO8.out, hsp8.out, b8⟩
        case measure => simp [RowKit.intOf]; omega
      · have cO := opQ_2 hg1 hkk s wr (own_RN hs2) hA1
        obtain ⟨V, hV⟩ : ∃ V, valP e.v = V := ⟨_, rfl⟩
        rw [pieceQ_2 hkk] at c2
        rw [hV] at c2 cO
        clear he hc hs hs2 hown hsp hg1 hA1 hkk hV
        go_wp2_with fail
        refine cO.mono ?_; rintro r w5 ⟨v', rfl, own5, hb5⟩
        obtain ⟨p5, c5, rfl⟩ := own_slice own5
        have bw5 : Below w.heap.size w w5 := hbw.trans (hb5.mono hlz)
        obtain ⟨ek, et, ⟨ex, en, eu⟩, ec, eA⟩ := e
        have ba : Below w5.heap.size w5 (w5.alloc (.cells #[.int .i64 ek, .string et, .int .i64 ex, .int .i64 en, .string eu, .int .i64 ec, .slice p5 eA.length c5] 33)) := (Below.refl _ _).alloc (Nat.le_refl _) _
        have hat : OpAt (w5.alloc (.cells #[.int .i64 ek, .string et, .int .i64 ex, .int .i64 en, .string eu, .int .i64 ec, .slice p5 eA.length c5] 33)) w5.heap.size 0 (ek, et, (ex, en, eu), ec, p5, eA.length, c5) := ⟨by simp, by simp, by simp, by simp, by simp, by simp, by simp⟩
        have HO7 : Hid (OwnO (w5.alloc (.cells #[.int .i64 ek, .string et, .int .i64 ex, .int .i64 en, .string eu, .int .i64 ec, .slice p5 eA.length c5] 33)) w.heap.size u3 D ∧ OpAt (w5.alloc (.cells #[.int .i64 ek, .string et, .int .i64 ex, .int .i64 en, .string eu, .int .i64 ec, .slice p5 eA.length c5] 33)) w5.heap.size 0 (ek, et, (ex, en, eu), ec, p5, eA.length, c5)) := ⟨owns_below (owns_below HO.out.1 hb5) ba, hat⟩
        have HP7 : Hid (OwD (w5.alloc (.cells #[.int .i64 ek, .string et, .int .i64 ex, .int .i64 en, .string eu, .int .i64 ec, .slice p5 eA.length c5] 33)) w.heap.size (D ++ [(ek, et, (ex, en, eu), ec, p5, eA.length, c5)]) (E.take (k + 1))) := by
          show OwD _ _ _ _
          rw [HT.out]
          exact forall2_append ((HO.out.2.below hb5).below ba) (.cons ⟨rfl, rfl, rfl, rfl, own_weaken (owns_below own5 ba) hlz⟩ .nil)
        have bw7 := bw5.trans (ba.mono bw5.size)
        have hl33 : D.length ≤ 33554432 := by omega
        clear own5 hb5 bw5 ba hat HO HT cO c2
        go_wp2_with (at_builtin; refine wpList_append_ops rfl (.tmp 21) (.tmp 24) rfl w.heap.size u3 D rfl HO7.out.1 w5.heap.size 1 _ rfl HO7.out.2 hl33 bw7.size ?_; intro v8 w8 own8 gr8 hat8; have hsp8 : Hid (OwD w8 w.heap.size _ _) := HP7.out.keep (keepA_grownO HO7.out.1 gr8); have b8 := bw7.grown gr8 bw7.size (fun j hj => hge.out j hj); have HO8 : Hid (OwnO w8 w.heap.size v8 _) := own8; clear own8 gr8 hat8 HO7 HP7)
        go_roundw
        case rel => exact ⟨k + 1, _, by omega, by go_num, by simp [hDl], HO8.out, hsp8.out, b8⟩
        case measure => simp [RowKit.intOf]; omega
      · have cO := opQ_3 hg1 hkk s wr (own_RN hs2) hA1
        rw [pieceQ_3 hkk] at c2
        clear he hc hs hs2 hown hsp hg1 hA1 hkk
        go_wp2_with fail
        refine cO.mono ?_; rintro r w5 ⟨v', rfl, own5, hb5⟩
        obtain ⟨p5, c5, rfl⟩ := own_slice own5
        have bw5 : Below w.heap.size w w5 := hbw.trans (hb5.mono hlz)
        obtain ⟨ek, et, ⟨ex, en, eu⟩, ec, eA⟩ := e
        have ba : Below w5.heap.size w5 (w5.alloc (.cells #[.int .i64 ek, .string et, .int .i64 ex, .int .i64 en, .string eu, .int .i64 ec, .slice p5 eA.length c5] 33)) := (Below.refl _ _).alloc (Nat.le_refl _) _
        have hat : OpAt (w5.alloc (.cells #[.int .i64 ek, .string et, .int .i64 ex, .int .i64 en, .string eu, .int .i64 ec, .slice p5 eA.length c5] 33)) w5.heap.size 0 (ek, et, (ex, en, eu), ec, p5, eA.length, c5) := ⟨by simp, by simp, by simp, by simp, by simp, by simp, by simp⟩
        have HO7 : Hid (OwnO (w5.alloc (.cells #[.int .i64 ek, .string et, .int .i64 ex, .int .i64 en, .string eu, .int .i64 ec, .slice p5 eA.length c5] 33)) w.heap.size u3 D ∧ OpAt (w5.alloc (.cells #[.int .i64 ek, .string et, .int .i64 ex, .int .i64 en, .string eu, .int .i64 ec, .slice p5 eA.length c5] 33)) w5.heap.size 0 (ek, et, (ex, en, eu), ec, p5, eA.length, c5)) := ⟨owns_below (owns_below HO.out.1 hb5) ba, hat⟩
        have HP7 : Hid (OwD (w5.alloc (.cells #[.int .i64 ek, .string et, .int .i64 ex, .int .i64 en, .string eu, .int .i64 ec, .slice p5 eA.length c5] 33)) w.heap.size (D ++ [(ek, et, (ex, en, eu), ec, p5, eA.length, c5)]) (E.take (k + 1))) := by
          show OwD _ _ _ _
          rw [HT.out]
          exact forall2_append ((HO.out.2.below hb5).below ba) (.cons ⟨rfl, rfl, rfl, rfl, own_weaken (owns_below own5 ba) hlz⟩ .nil)
        have bw7 := bw5.trans (ba.mono bw5.size)
        have hl33 : D.length ≤ 33554432 := by omega
        clear own5 hb5 bw5 ba hat HO HT cO c2
        go_wp2_with (at_builtin; refine wpList_append_ops rfl (.tmp 21) (.tmp 24) rfl w.heap.size u3 D rfl HO7.out.1 w5.heap.size 1 _ rfl HO7.out.2 hl33 bw7.size ?_; intro v8 w8 own8 gr8 hat8; have hsp8 : Hid (OwD w8 w.heap.size _ _) := HP7.out.keep (keepA_grownO HO7.out.1 gr8); have b8 := bw7.grown gr8 bw7.size (fun j hj => hge.out j hj); have HO8 : Hid (OwnO w8 w.heap.size v8 _) := own8; clear own8 gr8 hat8 HO7 HP7)
        go_roundw
        case rel => exact ⟨k + 1, _, by omega, by go_num, by simp [hDl], HO8.out, hsp8.out, b8⟩
        case measure => simp [RowKit.intOf]; omega
      · have cO := opQ_4 hg1 hkk wr
        rw [pieceQ_4 hkk] at c2
        clear he hc hs hs2 hown hsp hg1 hA1 hkk
        go_wp2_with fail
        refine cO.mono ?_; rintro r w5 ⟨v', rfl, own5, hb5⟩
        obtain ⟨p5, c5, rfl⟩ := own_slice own5
        have bw5 : Below w.heap.size w w5 := hbw.trans (hb5.mono hlz)
        obtain ⟨ek, et, ⟨ex, en, eu⟩, ec, eA⟩ := e
        have ba : Below w5.heap.size w5 (w5.alloc (.cells #[.int .i64 ek, .string et, .int .i64 ex, .int .i64 en, .string eu, .int .i64 ec, .slice p5 eA.length c5] 33)) := (Below.refl _ _).alloc (Nat.le_refl _) _
        have hat : OpAt (w5.alloc (.cells #[.int .i64 ek, .string et, .int .i64 ex, .int .i64 en, .string eu, .int .i64 ec, .slice p5 eA.length c5] 33)) w5.heap.size 0 (ek, et, (ex, en, eu), ec, p5, eA.length, c5) := ⟨by simp, by simp, by simp, by simp, by simp, by simp, by simp⟩
        have HO7 : Hid (OwnO (w5.alloc (.cells #[.int .i64 ek, .string et, .int .i64 ex, .int .i64 en, .string eu, .int .i64 ec, .slice p5 eA.length c5] 33)) w.heap.size u3 D ∧ OpAt (w5.alloc (.cells #[.int .i64 ek, .string et, .int .i64 ex, .int .i64 en, .string eu, .int .i64 ec, .slice p5 eA.length c5] 33)) w5.heap.size 0 (ek, et, (ex, en, eu), ec, p5, eA.length, c5)) := ⟨owns_below (owns_below HO.out.1 hb5) ba, hat⟩
        have HP7 : Hid (OwD (w5.alloc (.cells #[.int .i64 ek, .string et, .int .i64 ex, .int .i64 en, .string eu, .int .i64 ec, .slice p5 eA.length c5] 33)) w.heap.size (D ++ [(ek, et, (ex, en, eu), ec, p5, eA.length, c5)]) (E.take (k + 1))) := by
          show OwD _ _ _ _
          rw [HT.out]
          exact forall2_append ((HO.out.2.below hb5).below ba) (.cons ⟨rfl, rfl, rfl, rfl, own_weaken (owns_below own5 ba) hlz⟩ .nil)
        have bw7 := bw5.trans (ba.mono bw5.size)
        have hl33 : D.length ≤ 33554432 := by omega
        clear own5 hb5 bw5 ba hat HO HT cO c2
        go_wp2_with (at_builtin; refine wpList_append_ops rfl (.tmp 21) (.tmp 24) rfl w.heap.size u3 D rfl HO7.out.1 w5.heap.size 1 _ rfl HO7.out.2 hl33 bw7.size ?_; intro v8 w8 own8 gr8 hat8; have hsp8 : Hid (OwD w8 w.heap.size _ _) := HP7.out.keep (keepA_grownO HO7.out.1 gr8); have b8 := bw7.grown gr8 bw7.size (fun j hj => hge.out j hj); have HO8 : Hid (OwnO w8 w.heap.size v8 _) := own8; clear own8 gr8 hat8 HO7 HP7)
        go_roundw
        case rel => exact ⟨k + 1, _, by omega, by go_num, by simp [hDl], HO8.out, hsp8.out, b8⟩
        case measure => simp [RowKit.intOf]; omega
    · have hltI : ¬ (k : Int) < n := by omega
      have hE : E.take k = E := List.take_of_length_le (by rw [HN.out]; omega)
      rw [hE] at hsp
      have HX : Hid (CoO wr w.heap.size u3 E) := ⟨D, hown, hsp⟩
      clear hown hsp
      go_wp2
      go_ret
      exact ⟨_, rfl, HX.out, hbw⟩
end Go.Proofs.YtalfdjglbbmjcaaGreatDoor

/- Deltas unit by unit: one behind the other, and one carried over another: what they do to cells. -/
namespace Go.Proofs.YtalfdjglbbmjcaaGreatDoor
open Go Go.RowKit Go.Lib
set_option linter.unusedVariables false

theorem edit_nil (cs : List C5) : edit [] cs = some cs := rfl
theorem edit_ins (c : C5) (U : List U6) (cs : List C5) : edit (.ins c :: U) cs = (edit U cs).map (c :: ·) := by
  unfold edit
  show ((runU U cs).map _).map _ = _
  cases runU U cs <;> rfl
theorem edit_keep (A : List A2) (U : List U6) (c : C5) (cs : List C5) : edit (.keep A :: U) (c :: cs) = (edit U cs).map (patC c A :: ·) := by
  unfold edit
  show ((runU U cs).map _).map _ = _
  cases runU U cs <;> rfl
theorem edit_keep0 (A : List A2) (U : List U6) : edit (.keep A :: U) [] = none := rfl
theorem edit_del (U : List U6) (c : C5) (cs : List C5) : edit (.del :: U) (c :: cs) = edit U cs := rfl
theorem edit_del0 (U : List U6) : edit (.del :: U) [] = none := rfl

/-- A unit whose lists are what they should be. -/
def GoodU : U6 → Prop
  | .ins c => listE false none c.2.2.2 = 0 ∧ -1 ≤ c.1
  | .keep A => Pat A
  | .del => True
theorem good_units {E : List Op5} (h : ∀ o ∈ E, Wel o) : ∀ u ∈ units E, GoodU u := by
  induction E with
  | nil => intro u hu; cases hu
  | cons o r ih =>
    intro u hu
    rcases List.mem_append.1 (show u ∈ unitsO o ++ units r from hu) with hu | hu
    · have ho := h o (List.mem_cons_self ..)
      rcases unit_cases ho hu with ⟨hk, x, rfl⟩ | ⟨hk, rfl⟩ | ⟨hk, rfl⟩ | ⟨hk, rfl⟩
      · exact ⟨(ho.resolve_right (by rintro (h | h) <;> omega)).1.set, show (-1 : Int) ≤ (x : Int) by omega⟩
      · exact ⟨(ho.resolve_right (by rintro (h | h) <;> omega)).1.set, Int.le_refl _⟩
      · obtain ⟨_, _, _, _, h5⟩ := (ho.resolve_left (fun h => by omega)).resolve_right (fun h => by omega)
        exact pat_of h5
      · trivial
    · exact ih (fun x hx => h x (List.mem_cons_of_mem _ hx)) u hu
theorem setc_cons {c : C5} {cs : List C5} : SetC (c :: cs) ↔ listE false none c.2.2.2 = 0 ∧ SetC cs :=
  ⟨fun h => ⟨h c (List.mem_cons_self ..), fun x hx => h x (List.mem_cons_of_mem _ hx)⟩, fun ⟨h1, h2⟩ x hx => by
    rcases List.mem_cons.1 hx with rfl | hx
    · exact h1
    · exact h2 x hx⟩
theorem pat_set {S A : List A2} (hS : listE false none S = 0) (hA : Pat A) : listE false none (jn (chC false) S A) = 0 := by
  obtain ⟨p, n⟩ := set_of hS
  exact (Pat.jn (one_C false) p hA).set (nn_comp p.up hA.up)
theorem patC_set {c : C5} {A : List A2} (hc : listE false none c.2.2.2 = 0) (hA : Pat A) : listE false none (patC c A).2.2.2 = 0 := pat_set hc hA
theorem patC_two {c : C5} {A B : List A2} (hc : listE false none c.2.2.2 = 0) (hA : Pat A) (hB : Pat B) : patC c (jn (chC true) A B) = patC (patC c A) B := by
  obtain ⟨p, n⟩ := set_of hc
  unfold patC
  simp only
  rw [three4 p.up hA.up hB.up n]
/-- What comes of sets are sets. -/
theorem edit_setc : ∀ {U : List U6} {cs xs : List C5}, (∀ u ∈ U, GoodU u) → SetC cs → edit U cs = some xs → SetC xs
  | [], cs, xs, _, hs, h => by obtain rfl := Option.some.inj h; exact hs
  | .ins c :: U, cs, xs, hU, hs, h => by
    rw [edit_ins] at h
    obtain ⟨y, hy, rfl⟩ := Option.map_eq_some_iff.1 h
    exact setc_cons.2 ⟨(hU _ (List.mem_cons_self ..)).1, edit_setc (fun u hu => hU u (List.mem_cons_of_mem _ hu)) hs hy⟩
  | .keep A :: U, [], xs, _, _, h => by cases h
  | .keep A :: U, c :: cs, xs, hU, hs, h => by
    rw [edit_keep] at h
    obtain ⟨y, hy, rfl⟩ := Option.map_eq_some_iff.1 h
    obtain ⟨h1, h2⟩ := setc_cons.1 hs
    exact setc_cons.2 ⟨patC_set h1 (hU _ (List.mem_cons_self ..)), edit_setc (fun u hu => hU u (List.mem_cons_of_mem _ hu)) h2 hy⟩
  | .del :: U, [], xs, _, _, h => by cases h
  | .del :: U, c :: cs, xs, hU, hs, h => edit_setc (fun u hu => hU u (List.mem_cons_of_mem _ hu)) (setc_cons.1 hs).2 h

/-- First U, then V. -/
def compU : List U6 → List U6 → List U6
  | U, [] => U
  | U, .ins c :: V => .ins c :: compU U V
  | [], .keep B :: V => .keep B :: V
  | [], .del :: V => .del :: V
  | .del :: U, .keep B :: V => .del :: compU U (.keep B :: V)
  | .del :: U, .del :: V => .del :: compU U (.del :: V)
  | .ins c :: U, .keep B :: V => .ins (patC c B) :: compU U V
  | .ins c :: U, .del :: V => compU U V
  | .keep A :: U, .keep B :: V => .keep (jn (chC true) A B) :: compU U V
  | .keep A :: U, .del :: V => .del :: compU U V
termination_by U V => U.length + V.length

theorem map_bind_cons {x : Option (List C5)} {c : C5} {f : List C5 → Option (List C5)} : (x.map (c :: ·)).bind f = x.bind fun y => f (c :: y) := by cases x <;> rfl
theorem bind_map_cons {x : Option (List C5)} {c : C5} {f : List C5 → Option (List C5)} : (x.bind f).map (c :: ·) = x.bind fun y => (f y).map (c :: ·) := by cases x <;> rfl
/-- **What U and then V do, they do as one.** -/
theorem edit_comp : ∀ (U V : List U6) (cs : List C5), (∀ u ∈ U, GoodU u) → (∀ u ∈ V, GoodU u) → SetC cs → edit (compU U V) cs = (edit U cs).bind (edit V)
  | U, [], cs, _, _, _ => by rw [compU]; cases edit U cs <;> rfl
  | U, .ins c :: V, cs, hU, hV, hs => by
    rw [compU, edit_ins, edit_comp U V cs hU (fun u hu => hV u (List.mem_cons_of_mem _ hu)) hs, bind_map_cons]
    congr 1; funext y; rw [edit_ins]
  | [], .keep B :: V, cs, _, _, _ => by rw [compU]; rfl
  | [], .del :: V, cs, _, _, _ => by rw [compU]; rfl
  | .del :: U, .keep B :: V, [], _, _, _ => by rw [compU]; rfl
  | .del :: U, .keep B :: V, c :: cs, hU, hV, hs => by
    rw [compU, edit_del, edit_del]
    exact edit_comp U (.keep B :: V) cs (fun u hu => hU u (List.mem_cons_of_mem _ hu)) hV (setc_cons.1 hs).2
  | .del :: U, .del :: V, [], _, _, _ => by rw [compU]; rfl
  | .del :: U, .del :: V, c :: cs, hU, hV, hs => by
    rw [compU, edit_del, edit_del]
    exact edit_comp U (.del :: V) cs (fun u hu => hU u (List.mem_cons_of_mem _ hu)) hV (setc_cons.1 hs).2
  | .ins c :: U, .keep B :: V, cs, hU, hV, hs => by
    rw [compU, edit_ins, edit_ins, edit_comp U V cs (fun u hu => hU u (List.mem_cons_of_mem _ hu)) (fun u hu => hV u (List.mem_cons_of_mem _ hu)) hs, bind_map_cons, map_bind_cons]
    congr 1; funext y; rw [edit_keep]
  | .ins c :: U, .del :: V, cs, hU, hV, hs => by
    rw [compU, edit_ins, edit_comp U V cs (fun u hu => hU u (List.mem_cons_of_mem _ hu)) (fun u hu => hV u (List.mem_cons_of_mem _ hu)) hs, map_bind_cons]
    congr 1
  | .keep A :: U, .keep B :: V, [], _, _, _ => by rw [compU]; rfl
  | .keep A :: U, .keep B :: V, c :: cs, hU, hV, hs => by
    obtain ⟨h1, h2⟩ := setc_cons.1 hs
    rw [compU, edit_keep, edit_keep, edit_comp U V cs (fun u hu => hU u (List.mem_cons_of_mem _ hu)) (fun u hu => hV u (List.mem_cons_of_mem _ hu)) h2, bind_map_cons, map_bind_cons,
      patC_two h1 (hU _ (List.mem_cons_self ..)) (hV _ (List.mem_cons_self ..))]
    congr 1; funext y; rw [edit_keep]
  | .keep A :: U, .del :: V, [], _, _, _ => by rw [compU]; rfl
  | .keep A :: U, .del :: V, c :: cs, hU, hV, hs => by
    rw [compU, edit_del, edit_keep, edit_comp U V cs (fun u hu => hU u (List.mem_cons_of_mem _ hu)) (fun u hu => hV u (List.mem_cons_of_mem _ hu)) (setc_cons.1 hs).2, map_bind_cons]
    congr 1
termination_by U V => U.length + V.length

/-- V carried over U; f: U's inserts come first. -/
def transU (f : Bool) : List U6 → List U6 → List U6
  | [], V => V
  | .ins c :: U, .ins d :: V => if f then .keep [] :: transU f U (.ins d :: V) else .ins d :: transU f (.ins c :: U) V
  | .ins c :: U, [] => .keep [] :: transU f U []
  | .ins c :: U, .keep B :: V => .keep [] :: transU f U (.keep B :: V)
  | .ins c :: U, .del :: V => .keep [] :: transU f U (.del :: V)
  | .keep A :: U, .ins d :: V => .ins d :: transU f (.keep A :: U) V
  | .del :: U, .ins d :: V => .ins d :: transU f (.del :: U) V
  | .keep A :: U, [] => .keep [] :: transU f U []
  | .del :: U, [] => transU f U []
  | .keep A :: U, .keep B :: V => .keep (jn (chT f) A B) :: transU f U V
  | .keep A :: U, .del :: V => .del :: transU f U V
  | .del :: U, .keep B :: V => transU f U V
  | .del :: U, .del :: V => transU f U V
termination_by U V => U.length + V.length

theorem patC_both {c : C5} {A B : List A2} (f : Bool) (hc : listE false none c.2.2.2 = 0) (hA : Pat A) (hB : Pat B) : patC (patC c A) (jn (chT f) A B) = patC (patC c B) (jn (chT !f) B A) := by
  have p1 := Pat.jn (one_T f) hA hB
  have p2 := Pat.jn (one_T !f) hB hA
  rw [← patC_two hc hA p1, ← patC_two hc hB p2]
  cases f
  · rw [show jn (chC true) B (jn (chT !false) B A) = jn (chC true) A (jn (chT false) A B) from both1 hB.up hA.up]
  · rw [both1 hA.up hB.up]; rfl
theorem edit_trans0 (g : Bool) : ∀ (V : List U6) (cs : List C5), (∀ u ∈ V, GoodU u) → SetC cs → (edit V cs).bind (edit (transU g V [])) = edit V cs
  | [], cs, _, _ => by rw [transU]; rfl
  | .ins c :: V, cs, hV, hs => by
    rw [transU, edit_ins, map_bind_cons]
    have := edit_trans0 g V cs (fun u hu => hV u (List.mem_cons_of_mem _ hu)) hs
    simp only [edit_keep, patC_nil (hV _ (List.mem_cons_self ..)).1]
    rw [← bind_map_cons, this]
  | .keep A :: V, [], _, _ => by rw [transU]; rfl
  | .keep A :: V, c :: cs, hV, hs => by
    obtain ⟨h1, h2⟩ := setc_cons.1 hs
    rw [transU, edit_keep, map_bind_cons]
    have := edit_trans0 g V cs (fun u hu => hV u (List.mem_cons_of_mem _ hu)) h2
    simp only [edit_keep, patC_nil (patC_set h1 (hV (.keep A) (List.mem_cons_self ..)))]
    rw [← bind_map_cons, this]
  | .del :: V, [], _, _ => by rw [transU]; rfl
  | .del :: V, c :: cs, hV, hs => by
    rw [transU, edit_del]
    exact edit_trans0 g V cs (fun u hu => hV u (List.mem_cons_of_mem _ hu)) (setc_cons.1 hs).2
/-- **Both ways round make one thing of the cells: the merge.** -/
theorem edit_both (f : Bool) : ∀ (U V : List U6) (cs : List C5), (∀ u ∈ U, GoodU u) → (∀ u ∈ V, GoodU u) → SetC cs →
    (edit U cs).bind (edit (transU f U V)) = (edit V cs).bind (edit (transU (!f) V U))
  | [], V, cs, _, hV, hs => by rw [edit_trans0 _ V cs hV hs, transU]; rfl
  | .ins c :: U, [], cs, hU, _, hs => by rw [edit_trans0 _ (.ins c :: U) cs hU hs, transU]; rfl
  | .keep c :: U, [], cs, hU, _, hs => by rw [edit_trans0 _ (.keep c :: U) cs hU hs, transU]; rfl
  | .del :: U, [], cs, hU, _, hs => by rw [edit_trans0 _ (.del :: U) cs hU hs, transU]; rfl
  | .ins c :: U, .ins d :: V, cs, hU, hV, hs => by
    cases f with
    | true =>
      have ih := edit_both true U (.ins d :: V) cs (fun u hu => hU u (List.mem_cons_of_mem _ hu)) hV hs
      rw [transU, if_pos rfl, edit_ins c, map_bind_cons]
      simp only [edit_keep, patC_nil (hU _ (List.mem_cons_self ..)).1]
      rw [← bind_map_cons, ih]
      show _ = (edit (.ins d :: V) cs).bind (edit (transU false (.ins d :: V) (.ins c :: U)))
      rw [transU, if_neg (by simp), bind_map_cons]
      congr 1; funext y; rw [edit_ins]; rfl
    | false =>
      have ih := edit_both false (.ins c :: U) V cs hU (fun u hu => hV u (List.mem_cons_of_mem _ hu)) hs
      show _ = (edit (.ins d :: V) cs).bind (edit (transU true (.ins d :: V) (.ins c :: U)))
      rw [transU.eq_2 true, if_pos rfl, edit_ins d, map_bind_cons]
      simp only [edit_keep, patC_nil (hV _ (List.mem_cons_self ..)).1]
      rw [← bind_map_cons]
      have ih : _ = (edit V cs).bind (edit (transU true V (.ins c :: U))) := ih
      rw [← ih, transU, if_neg (by simp), bind_map_cons]
      congr 1; funext y; rw [edit_ins]
  | .ins c :: U, .keep B :: V, cs, hU, hV, hs => by
    have ih := edit_both f U (.keep B :: V) cs (fun u hu => hU u (List.mem_cons_of_mem _ hu)) hV hs
    rw [transU, edit_ins c, map_bind_cons]
    simp only [edit_keep, patC_nil (hU _ (List.mem_cons_self ..)).1]
    rw [← bind_map_cons, ih, transU, bind_map_cons]
    congr 1; funext y; rw [edit_ins]
  | .ins c :: U, .del :: V, cs, hU, hV, hs => by
    have ih := edit_both f U (.del :: V) cs (fun u hu => hU u (List.mem_cons_of_mem _ hu)) hV hs
    rw [transU, edit_ins c, map_bind_cons]
    simp only [edit_keep, patC_nil (hU _ (List.mem_cons_self ..)).1]
    rw [← bind_map_cons, ih, transU, bind_map_cons]
    congr 1; funext y; rw [edit_ins]
  | .keep A :: U, .ins d :: V, cs, hU, hV, hs => by
    have ih := edit_both f (.keep A :: U) V cs hU (fun u hu => hV u (List.mem_cons_of_mem _ hu)) hs
    rw [transU.eq_4, edit_ins d, map_bind_cons]
    simp only [edit_keep, patC_nil (hV _ (List.mem_cons_self ..)).1]
    rw [← bind_map_cons, ← ih, transU, bind_map_cons]
    congr 1; funext y; rw [edit_ins]
  | .del :: U, .ins d :: V, cs, hU, hV, hs => by
    have ih := edit_both f (.del :: U) V cs hU (fun u hu => hV u (List.mem_cons_of_mem _ hu)) hs
    rw [transU.eq_5, edit_ins d, map_bind_cons]
    simp only [edit_keep, patC_nil (hV _ (List.mem_cons_self ..)).1]
    rw [← bind_map_cons, ← ih, transU, bind_map_cons]
    congr 1; funext y; rw [edit_ins]
  | .keep A :: U, .keep B :: V, [], _, _, _ => rfl
  | .keep A :: U, .keep B :: V, c :: cs, hU, hV, hs => by
    obtain ⟨h1, h2⟩ := setc_cons.1 hs
    have ih := edit_both f U V cs (fun u hu => hU u (List.mem_cons_of_mem _ hu)) (fun u hu => hV u (List.mem_cons_of_mem _ hu)) h2
    rw [transU, edit_keep, map_bind_cons, transU, edit_keep, map_bind_cons]
    simp only [edit_keep]
    rw [patC_both f h1 (hU (.keep A) (List.mem_cons_self ..)) (hV (.keep B) (List.mem_cons_self ..)), ← bind_map_cons, ih, bind_map_cons]
  | .keep A :: U, .del :: V, [], _, _, _ => rfl
  | .keep A :: U, .del :: V, c :: cs, hU, hV, hs => by
    have ih := edit_both f U V cs (fun u hu => hU u (List.mem_cons_of_mem _ hu)) (fun u hu => hV u (List.mem_cons_of_mem _ hu)) (setc_cons.1 hs).2
    rw [transU, edit_keep, map_bind_cons, transU, edit_del]
    exact ih
  | .del :: U, .keep B :: V, [], _, _, _ => rfl
  | .del :: U, .keep B :: V, c :: cs, hU, hV, hs => by
    have ih := edit_both f U V cs (fun u hu => hU u (List.mem_cons_of_mem _ hu)) (fun u hu => hV u (List.mem_cons_of_mem _ hu)) (setc_cons.1 hs).2
    rw [transU, edit_keep, map_bind_cons, transU, edit_del]
    exact ih
  | .del :: U, .del :: V, [], _, _, _ => rfl
  | .del :: U, .del :: V, c :: cs, hU, hV, hs => by
    have ih := edit_both f U V cs (fun u hu => hU u (List.mem_cons_of_mem _ hu)) (fun u hu => hV u (List.mem_cons_of_mem _ hu)) (setc_cons.1 hs).2
    rw [transU, edit_del, transU, edit_del]
    exact ih
termination_by U V => U.length + V.length
end Go.Proofs.YtalfdjglbbmjcaaGreatDoor

/- Two canonical lists that do the same to all long enough documents are one. -/
namespace Go.Proofs.YtalfdjglbbmjcaaGreatDoor
open Go Go.RowKit Go.Lib
set_option linter.unusedVariables false

/-- Nothing comes right behind a cell that goes (d: one has just gone). -/
def NrmP : Bool → List U6 → Prop
  | _, [] => True
  | d, .ins c :: U => d = false ∧ NrmP false U
  | _, .keep A :: U => NrmP false U
  | _, .del :: U => NrmP true U
theorem nrmP_weak : ∀ {U : List U6}, NrmP true U → NrmP false U
  | [], _ => trivial
  | .ins c :: U, h => absurd h.1 (by simp)
  | .keep A :: U, h => h
  | .del :: U, h => h
theorem nrmP_ins : ∀ (l : List C5) {U : List U6}, NrmP false U → NrmP false (l.map .ins ++ U)
  | [], _, h => h
  | c :: l, _, h => ⟨rfl, nrmP_ins l h⟩
theorem nrmP_dels : ∀ (n : Nat) {d : Bool} {U : List U6}, NrmP true U → (d = true ∨ 0 < n ∨ NrmP d U) → NrmP d (List.replicate n .del ++ U)
  | 0, d, U, h, h2 => by
    rcases h2 with rfl | h2 | h2
    · exact h
    · omega
    · exact h2
  | n + 1, d, U, h, h2 => by
    rw [List.replicate_succ]
    exact nrmP_dels n (d := true) h (Or.inl rfl)
theorem nrmP_nrm : ∀ (U : List U6) (l : List C5) (d : Nat), NrmP false (nrm (l.map .ins) d U)
  | [], l, d => by
    rw [nrm]
    refine nrmP_ins l ?_
    have := nrmP_dels d (d := false) (U := []) trivial (Or.inr (Or.inr trivial))
    simpa using this
  | .keep A :: r, l, d => by
    rw [nrm]
    refine nrmP_ins l (nrmP_dels d (d := false) ?_ (Or.inr (Or.inr ?_)))
    · exact nrmP_nrm r [] 0
    · exact nrmP_nrm r [] 0
  | .del :: r, l, d => by rw [nrm]; exact nrmP_nrm r l (d + 1)
  | .ins c :: r, l, d => by
    rw [nrm, show l.map U6.ins ++ [.ins c] = (l ++ [c]).map U6.ins by simp]
    exact nrmP_nrm r (l ++ [c]) d
theorem nrmP_chain {E : List Op5} (h : ∀ o ∈ E, Wel o) (hc : chainB E = true) : NrmP false (units E) := by
  have := nrmP_nrm (units E) [] 0
  rw [show (([] : List C5).map U6.ins) = [] from rfl, nrm_chain [] h hc] at this
  exact this
theorem nrmP_keeps (A : List A2) (n : Nat) : ∀ {d : Bool} {U : List U6}, NrmP d U → NrmP d (U ++ List.replicate n (.keep A))
  | d, [], _ => by
    rw [List.nil_append]
    have aux : ∀ (n : Nat) (d : Bool), NrmP d (List.replicate n (.keep A)) := fun n => by
      induction n with
      | zero => intro d; trivial
      | succ n ih => intro d; rw [List.replicate_succ]; exact ih false
    exact aux n d
  | d, .ins c :: U, h => ⟨h.1, nrmP_keeps A n (d := false) (U := U) h.2⟩
  | d, .keep B :: U, h => nrmP_keeps A n (d := false) (U := U) h
  | d, .del :: U, h => nrmP_keeps A n (d := true) (U := U) h

/-- Cells that are told apart by their numbers, with attributes at will. -/
def docS (S : Nat → List A2) : Nat → Nat → List C5
  | _, 0 => []
  | k, n + 1 => (-(2 + (k : Int)), ⟨#[]⟩, z0, S k) :: docS S (k + 1) n
theorem docS_len (S : Nat → List A2) : ∀ (n k : Nat), (docS S k n).length = n
  | 0, _ => rfl
  | n + 1, k => by show _ + 1 = _; rw [docS_len S n (k + 1)]
theorem docS_set {S : Nat → List A2} (h : ∀ i, listE false none (S i) = 0) : ∀ (n k : Nat), SetC (docS S k n)
  | 0, _ => fun c hc => by cases hc
  | n + 1, k => setc_cons.2 ⟨h k, docS_set h n (k + 1)⟩
theorem base_cons (u : U6) (U : List U6) : baseU (u :: U) = baseU U + (match u with | .ins _ => 0 | _ => 1) := by
  unfold baseU
  rw [List.countP_cons]
  cases u <;> rfl
theorem run_some : ∀ (U : List U6) (cs : List C5), baseU U ≤ cs.length → ∃ o, runU U cs = some (o, cs.drop (baseU U))
  | [], cs, _ => ⟨[], rfl⟩
  | .ins c :: U, cs, h => by
    rw [base_cons] at h ⊢
    obtain ⟨o, ho⟩ := run_some U cs (by simpa using h)
    refine ⟨c :: o, ?_⟩
    show (runU U cs).map _ = _
    rw [ho]; rfl
  | .keep A :: U, [], h => by rw [base_cons] at h; simp at h
  | .keep A :: U, c :: cs, h => by
    rw [base_cons] at h ⊢
    obtain ⟨o, ho⟩ := run_some U cs (by simpa using h)
    refine ⟨patC c A :: o, ?_⟩
    show (runU U cs).map _ = _
    rw [ho]; rfl
  | .del :: U, [], h => by rw [base_cons] at h; simp at h
  | .del :: U, c :: cs, h => by
    rw [base_cons] at h ⊢
    obtain ⟨o, ho⟩ := run_some U cs (by simpa using h)
    exact ⟨o, ho⟩
theorem edit_some {U : List U6} {cs : List C5} (h : baseU U ≤ cs.length) : ∃ xs, edit U cs = some xs := by
  obtain ⟨o, ho⟩ := run_some U cs h
  exact ⟨_, by unfold edit; rw [ho]; rfl⟩
theorem edit_keeps : ∀ (n : Nat) (cs : List C5), SetC cs → n ≤ cs.length → edit (List.replicate n (.keep [])) cs = some cs
  | 0, cs, _, _ => rfl
  | n + 1, [], _, h => by simp at h
  | n + 1, c :: cs, hs, h => by
    obtain ⟨h1, h2⟩ := setc_cons.1 hs
    rw [List.replicate_succ, edit_keep, edit_keeps n cs h2 (by simpa using h), patC_nil h1]; rfl
/-- Plain retains at the end do nothing. -/
theorem edit_pad {U : List U6} {cs : List C5} {n : Nat} (hs : SetC cs) (h : baseU U + n ≤ cs.length) : edit (U ++ List.replicate n (.keep [])) cs = edit U cs := by
  obtain ⟨o, ho⟩ := run_some U cs (by omega)
  have hr : SetC (cs.drop (baseU U)) := fun c hc => hs c (List.mem_of_mem_drop hc)
  have hk := edit_keeps n (cs.drop (baseU U)) hr (by rw [List.length_drop]; omega)
  unfold edit at hk ⊢
  rw [run_append, ho]
  simp only [Option.bind_some]
  obtain ⟨x, hx, he⟩ := Option.map_eq_some_iff.1 hk
  rw [hx]
  simp only [Option.map_some]
  rw [← he, List.append_assoc]
/-- What comes first behind a cell that goes lies behind it. -/
theorem head_del {S : Nat → List A2} : ∀ {V : List U6} {j m : Nat} {xs : List C5}, NrmP true V → edit V (docS S j m) = some xs → ∀ x t, xs = x :: t → x.1 ≤ -(2 + (j : Int))
  | [], j, m, xs, _, h, x, t, e => by
    have h : docS S j m = xs := Option.some.inj h
    cases m with
    | zero => rw [← h] at e; cases e
    | succ m => rw [← h] at e; obtain ⟨rfl, -⟩ := List.cons.inj e; exact Int.le_refl _
  | .ins c :: V, j, m, xs, hn, _, x, t, e => absurd hn.1 (by simp)
  | .keep A :: V, j, 0, xs, _, h, x, t, e => by cases h
  | .keep A :: V, j, m + 1, xs, _, h, x, t, e => by
    rw [show docS S j (m + 1) = (-(2 + (j : Int)), ⟨#[]⟩, z0, S j) :: docS S (j + 1) m from rfl, edit_keep] at h
    obtain ⟨y, hy, rfl⟩ := Option.map_eq_some_iff.1 h
    obtain ⟨rfl, -⟩ := List.cons.inj e
    exact Int.le_refl _
  | .del :: V, j, 0, xs, _, h, x, t, e => by cases h
  | .del :: V, j, m + 1, xs, hn, h, x, t, e => by
    have := head_del (V := V) (j := j + 1) (m := m) hn h x t e
    omega
theorem pat_one {k : ByteArray} {n : Int} {A : List A2} (hA : Pat A) {p : P3} (h : look k A = some p) : listE false none [(k, 2, n, ⟨#[]⟩)] = 0 := by
  have hg := hA.good _ (look_mem h)
  have hk := (pairE_zero.1 hg).1
  have hp : Pat [(k, 2, n, (⟨#[]⟩ : ByteArray))] := ⟨fun q hq => by rw [List.mem_singleton.1 hq]; exact pairE_zero.2 ⟨hk, chk_num n⟩, List.pairwise_singleton _ _⟩
  exact hp.set fun q hq => by rw [List.mem_singleton.1 hq]; show (2 : Int) ≠ 0; decide
/-- Patches that do the same to every set are one. -/
theorem pat_ext {A B : List A2} (hA : Pat A) (hB : Pat B) (h : ∀ S, listE false none S = 0 → jn (chC false) S A = jn (chC false) S B) : A = B := by
  have e0 : listE false none [] = 0 := by rw [listE]
  have one : ∀ {A B : List A2}, Pat A → Pat B → (∀ S, listE false none S = 0 → jn (chC false) S A = jn (chC false) S B) → ∀ k v, look k A = some v → look k B = none → False := fun {A B} hA hB h k v e1 e2 => by
    have key : ∀ n : Int, at2 (fOf (chC false)) (some (2, n, ⟨#[]⟩)) (some v) = some (2, n, ⟨#[]⟩) := fun n => by
      have hs := pat_one (n := n) hA e1
      obtain ⟨ps, _⟩ := set_of hs
      have := congrArg (look k) (h _ hs)
      rw [look_join _ ps.up hA.up, look_join _ ps.up hB.up, e1, e2, show look k [(k, (2 : Int), n, (⟨#[]⟩ : ByteArray))] = some (2, n, ⟨#[]⟩) by rw [look, if_pos rfl]] at this
      rw [this]; rfl
    have k0 := key 0
    have k1 := key 1
    by_cases hv : v.1 = 0
    · simp [at2, fOf, chC, hv] at k0
    · simp [at2, fOf, chC, hv] at k0 k1
      rw [k0] at k1
      simp at k1
  refine up_ext hA.up hB.up fun k => ?_
  cases e1 : look k A with
  | none =>
    cases e2 : look k B with
    | none => rfl
    | some v => exact (one hB hA (fun S hS => (h S hS).symm) k v e2 e1).elim
  | some u =>
    cases e2 : look k B with
    | none => exact (one hA hB h k u e1 e2).elim
    | some v =>
      have := congrArg (look k) (h [] e0)
      rw [look_join _ up_nil hA.up, look_join _ up_nil hB.up, e1, e2] at this
      have n1 := hA.null0 _ (look_mem e1)
      have n2 := hB.null0 _ (look_mem e2)
      simp only at n1 n2
      by_cases hu : u.1 = 0
      · by_cases hv : v.1 = 0
        · rw [n1 hu, n2 hv]
        · simp [look, at2, fOf, chC, hu, hv] at this
      · by_cases hv : v.1 = 0
        · simp [look, at2, fOf, chC, hu, hv] at this
        · simp [look, at2, fOf, chC, hu, hv] at this
          rw [this]
theorem units_ext : ∀ {U V : List U6} {d : Bool} {k n : Nat}, (∀ u ∈ U, GoodU u) → (∀ u ∈ V, GoodU u) → NrmP d U → NrmP d V → baseU U = n → baseU V = n →
    (∀ S : Nat → List A2, (∀ i, listE false none (S i) = 0) → edit U (docS S k n) = edit V (docS S k n)) → U = V
  | [], [], _, _, _, _, _, _, _, _, _, _ => rfl
  | [], .ins c :: V, d, k, n, gU, gV, nU, nV, bU, bV, h => by
    exfalso
    have := h (fun _ => []) (fun _ => by rw [listE])
    have b0 : n = 0 := bU.symm
    subst b0
    rw [edit_ins] at this
    have e : some ([] : List C5) = _ := this
    cases hx : edit V (docS (fun _ => []) k 0) with
    | none => rw [hx] at e; cases e
    | some y => rw [hx] at e; simp at e
  | [], .keep A :: V, d, k, n, gU, gV, nU, nV, bU, bV, h => by
    exfalso
    rw [base_cons] at bV
    have b0 : n = 0 := bU.symm
    simp at bV; omega
  | [], .del :: V, d, k, n, gU, gV, nU, nV, bU, bV, h => by
    exfalso
    rw [base_cons] at bV
    have b0 : n = 0 := bU.symm
    simp at bV; omega
  | .ins c :: U, [], d, k, n, gU, gV, nU, nV, bU, bV, h => by
    exfalso
    have := h (fun _ => []) (fun _ => by rw [listE])
    have b0 : n = 0 := bV.symm
    subst b0
    rw [edit_ins] at this
    have e : _ = some ([] : List C5) := this
    cases hx : edit U (docS (fun _ => []) k 0) with
    | none => rw [hx] at e; cases e
    | some y => rw [hx] at e; simp at e
  | .keep A :: U, [], d, k, n, gU, gV, nU, nV, bU, bV, h => by
    exfalso
    rw [base_cons] at bU
    have b0 : n = 0 := bV.symm
    simp at bU; omega
  | .del :: U, [], d, k, n, gU, gV, nU, nV, bU, bV, h => by
    exfalso
    rw [base_cons] at bU
    have b0 : n = 0 := bV.symm
    simp at bU; omega
  | .ins c :: U, .ins e :: V, d, k, n, gU, gV, nU, nV, bU, bV, h => by
    rw [base_cons] at bU bV
    simp only [Nat.add_zero] at bU bV
    have one : ∀ S : Nat → List A2, (∀ i, listE false none (S i) = 0) → c = e ∧ edit U (docS S k n) = edit V (docS S k n) := fun S hS => by
      have := h S hS
      rw [edit_ins, edit_ins] at this
      obtain ⟨x, hx⟩ := edit_some (U := U) (cs := docS S k n) (by rw [docS_len]; omega)
      obtain ⟨y, hy⟩ := edit_some (U := V) (cs := docS S k n) (by rw [docS_len]; omega)
      rw [hx, hy] at this
      simp only [Option.map_some, Option.some.injEq, List.cons.injEq] at this
      exact ⟨this.1, by rw [hx, hy, this.2]⟩
    rw [(one (fun _ => []) (fun _ => by rw [listE])).1, units_ext (U := U) (V := V) (fun u hu => gU u (List.mem_cons_of_mem _ hu)) (fun u hu => gV u (List.mem_cons_of_mem _ hu)) nU.2 nV.2 bU bV fun S hS => (one S hS).2]
  | .ins c :: U, .keep B :: V, d, k, n, gU, gV, nU, nV, bU, bV, h => by
    exfalso
    rw [base_cons] at bU bV
    simp only [Nat.add_zero] at bU bV
    obtain ⟨m, rfl⟩ : ∃ m, n = m + 1 := ⟨n - 1, by omega⟩
    have := h (fun _ => []) (fun _ => by rw [listE])
    rw [edit_ins, show docS (fun _ => []) k (m + 1) = (-(2 + (k : Int)), ⟨#[]⟩, z0, []) :: docS (fun _ => []) (k + 1) m from rfl, edit_keep] at this
    obtain ⟨y, hy⟩ := edit_some (U := V) (cs := docS (fun _ => []) (k + 1) m) (by rw [docS_len]; omega)
    rw [hy] at this
    obtain ⟨x, hx, he⟩ := Option.map_eq_some_iff.1 this
    have hc := (gU _ (List.mem_cons_self ..)).2
    have e1 : c = patC _ B := (List.cons.inj he).1
    rw [e1] at hc
    have hc : (-1 : Int) ≤ -(2 + (k : Int)) := hc
    omega
  | .ins c :: U, .del :: V, d, k, n, gU, gV, nU, nV, bU, bV, h => by
    exfalso
    rw [base_cons] at bU bV
    simp only [Nat.add_zero] at bU bV
    obtain ⟨m, rfl⟩ : ∃ m, n = m + 1 := ⟨n - 1, by omega⟩
    have := h (fun _ => []) (fun _ => by rw [listE])
    rw [edit_ins, show docS (fun _ => []) k (m + 1) = (-(2 + (k : Int)), ⟨#[]⟩, z0, []) :: docS (fun _ => []) (k + 1) m from rfl, edit_del] at this
    obtain ⟨y, hy⟩ := edit_some (U := V) (cs := docS (fun _ => []) (k + 1) m) (by rw [docS_len]; omega)
    rw [hy] at this
    obtain ⟨x, hx, he⟩ := Option.map_eq_some_iff.1 this
    have hc := (gU _ (List.mem_cons_self ..)).2
    have := head_del (V := V) nV hy c x he.symm
    omega
  | .keep A :: U, .ins e :: V, d, k, n, gU, gV, nU, nV, bU, bV, h => by
    exfalso
    rw [base_cons] at bU bV
    simp only [Nat.add_zero] at bU bV
    obtain ⟨m, rfl⟩ : ∃ m, n = m + 1 := ⟨n - 1, by omega⟩
    have := (h (fun _ => []) (fun _ => by rw [listE])).symm
    rw [edit_ins, show docS (fun _ => []) k (m + 1) = (-(2 + (k : Int)), ⟨#[]⟩, z0, []) :: docS (fun _ => []) (k + 1) m from rfl, edit_keep] at this
    obtain ⟨y, hy⟩ := edit_some (U := U) (cs := docS (fun _ => []) (k + 1) m) (by rw [docS_len]; omega)
    rw [hy] at this
    obtain ⟨x, hx, he⟩ := Option.map_eq_some_iff.1 this
    have hc := (gV _ (List.mem_cons_self ..)).2
    have e1 : e = patC _ A := (List.cons.inj he).1
    rw [e1] at hc
    have hc : (-1 : Int) ≤ -(2 + (k : Int)) := hc
    omega
  | .del :: U, .ins e :: V, d, k, n, gU, gV, nU, nV, bU, bV, h => by
    exfalso
    rw [base_cons] at bU bV
    simp only [Nat.add_zero] at bU bV
    obtain ⟨m, rfl⟩ : ∃ m, n = m + 1 := ⟨n - 1, by omega⟩
    have := (h (fun _ => []) (fun _ => by rw [listE])).symm
    rw [edit_ins, show docS (fun _ => []) k (m + 1) = (-(2 + (k : Int)), ⟨#[]⟩, z0, []) :: docS (fun _ => []) (k + 1) m from rfl, edit_del] at this
    obtain ⟨y, hy⟩ := edit_some (U := U) (cs := docS (fun _ => []) (k + 1) m) (by rw [docS_len]; omega)
    rw [hy] at this
    obtain ⟨x, hx, he⟩ := Option.map_eq_some_iff.1 this
    have hc := (gV _ (List.mem_cons_self ..)).2
    have := head_del (V := U) nU hy e x he.symm
    omega
  | .keep A :: U, .keep B :: V, d, k, n, gU, gV, nU, nV, bU, bV, h => by
    rw [base_cons] at bU bV
    obtain ⟨m, rfl⟩ : ∃ m, n = m + 1 := ⟨n - 1, by simp only at bU; omega⟩
    simp only [Nat.add_right_cancel_iff] at bU bV
    have one : ∀ S : Nat → List A2, (∀ i, listE false none (S i) = 0) → jn (chC false) (S k) A = jn (chC false) (S k) B ∧ edit U (docS S (k + 1) m) = edit V (docS S (k + 1) m) := fun S hS => by
      have := h S hS
      rw [show docS S k (m + 1) = (-(2 + (k : Int)), ⟨#[]⟩, z0, S k) :: docS S (k + 1) m from rfl, edit_keep, edit_keep] at this
      obtain ⟨x, hx⟩ := edit_some (U := U) (cs := docS S (k + 1) m) (by rw [docS_len]; omega)
      obtain ⟨y, hy⟩ := edit_some (U := V) (cs := docS S (k + 1) m) (by rw [docS_len]; omega)
      rw [hx, hy] at this
      simp only [Option.map_some, Option.some.injEq, List.cons.injEq] at this
      exact ⟨congrArg (fun c : C5 => c.2.2.2) this.1, by rw [hx, hy, this.2]⟩
    have hAB : A = B := pat_ext (gU (.keep A) (List.mem_cons_self ..)) (gV (.keep B) (List.mem_cons_self ..)) fun S hS => (one (fun _ => S) (fun _ => hS)).1
    rw [hAB, units_ext (U := U) (V := V) (fun u hu => gU u (List.mem_cons_of_mem _ hu)) (fun u hu => gV u (List.mem_cons_of_mem _ hu)) nU nV bU bV fun S hS => (one S hS).2]
  | .keep A :: U, .del :: V, d, k, n, gU, gV, nU, nV, bU, bV, h => by
    exfalso
    rw [base_cons] at bU bV
    obtain ⟨m, rfl⟩ : ∃ m, n = m + 1 := ⟨n - 1, by simp only at bU; omega⟩
    simp only [Nat.add_right_cancel_iff] at bU bV
    have := h (fun _ => []) (fun _ => by rw [listE])
    rw [show docS (fun _ => []) k (m + 1) = (-(2 + (k : Int)), ⟨#[]⟩, z0, []) :: docS (fun _ => []) (k + 1) m from rfl, edit_keep, edit_del] at this
    obtain ⟨y, hy⟩ := edit_some (U := V) (cs := docS (fun _ => []) (k + 1) m) (by rw [docS_len]; omega)
    rw [hy] at this
    obtain ⟨x, hx, he⟩ := Option.map_eq_some_iff.1 this
    have h1 := head_del (V := V) nV hy _ x he.symm
    have h1 : -(2 + (k : Int)) ≤ -(2 + ((k + 1 : Nat) : Int)) := h1
    omega
  | .del :: U, .keep B :: V, d, k, n, gU, gV, nU, nV, bU, bV, h => by
    exfalso
    rw [base_cons] at bU bV
    obtain ⟨m, rfl⟩ : ∃ m, n = m + 1 := ⟨n - 1, by simp only at bU; omega⟩
    simp only [Nat.add_right_cancel_iff] at bU bV
    have := (h (fun _ => []) (fun _ => by rw [listE])).symm
    rw [show docS (fun _ => []) k (m + 1) = (-(2 + (k : Int)), ⟨#[]⟩, z0, []) :: docS (fun _ => []) (k + 1) m from rfl, edit_keep, edit_del] at this
    obtain ⟨y, hy⟩ := edit_some (U := U) (cs := docS (fun _ => []) (k + 1) m) (by rw [docS_len]; omega)
    rw [hy] at this
    obtain ⟨x, hx, he⟩ := Option.map_eq_some_iff.1 this
    have h1 := head_del (V := U) nU hy _ x he.symm
    have h1 : -(2 + (k : Int)) ≤ -(2 + ((k + 1 : Nat) : Int)) := h1
    omega
  | .del :: U, .del :: V, d, k, n, gU, gV, nU, nV, bU, bV, h => by
    rw [base_cons] at bU bV
    obtain ⟨m, rfl⟩ : ∃ m, n = m + 1 := ⟨n - 1, by simp only at bU; omega⟩
    simp only [Nat.add_right_cancel_iff] at bU bV
    rw [units_ext (U := U) (V := V) (fun u hu => gU u (List.mem_cons_of_mem _ hu)) (fun u hu => gV u (List.mem_cons_of_mem _ hu)) nU nV bU bV fun S hS => h S hS]
/-- **Two canonical lists that do the same to all long documents are one.** -/
theorem canon_ext {E F : List Op5} (hE : ∀ o ∈ E, Wel o) (hF : ∀ o ∈ F, Wel o) (cE : chainB E = true) (cF : chainB F = true) (lE : lastP E = true) (lF : lastP F = true) (N : Nat)
    (h : ∀ cs, SetC cs → N ≤ cs.length → edit (units E) cs = edit (units F) cs) : E = F := by
  obtain ⟨n, hn⟩ : ∃ n, n = N + baseU (units E) + baseU (units F) := ⟨_, rfl⟩
  have pk : ∀ m (u : U6), u ∈ List.replicate m (U6.keep []) → GoodU u := fun m u hu => by rw [List.eq_of_mem_replicate hu]; exact Pat.nil
  have bk : ∀ m, baseU (List.replicate m (U6.keep [])) = m := fun m => by
    unfold baseU
    rw [countP_all (fun u hu => by rw [List.eq_of_mem_replicate hu]), List.length_replicate]
  have ba : ∀ U V, baseU (U ++ V) = baseU U + baseU V := fun U V => by unfold baseU; rw [List.countP_append]
  have e := units_ext (U := units E ++ List.replicate (n - baseU (units E)) (.keep [])) (V := units F ++ List.replicate (n - baseU (units F)) (.keep [])) (d := false) (k := 0) (n := n)
    (fun u hu => (List.mem_append.1 hu).elim (good_units hE u) (pk _ u)) (fun u hu => (List.mem_append.1 hu).elim (good_units hF u) (pk _ u))
    (nrmP_keeps _ _ (nrmP_chain hE cE)) (nrmP_keeps _ _ (nrmP_chain hF cF)) (by rw [ba, bk]; omega) (by rw [ba, bk]; omega)
    (fun S hS => by
      have hs := docS_set hS n 0
      rw [edit_pad hs (by rw [docS_len]; omega), edit_pad hs (by rw [docS_len]; omega)]
      exact h _ hs (by rw [docS_len]; omega))
  have e := congrArg stripU e
  rw [strip_plain rfl, strip_plain rfl, strip_can hE lE, strip_can hF lF] at e
  exact units_inj hE hF cE cF e
end Go.Proofs.YtalfdjglbbmjcaaGreatDoor

/- Deltas unit by unit: inverses; lengths of what comes; compositions and carried deltas are well formed. -/
namespace Go.Proofs.YtalfdjglbbmjcaaGreatDoor
open Go Go.RowKit Go.Lib
set_option linter.unusedVariables false

/-- What undoes U over cells. -/
def invU : List U6 → List C5 → List U6
  | [], _ => []
  | .ins c :: U, cs => .del :: invU U cs
  | .keep A :: U, c :: cs => .keep (jn chD (patC c A).2.2.2 c.2.2.2) :: invU U cs
  | .keep A :: U, [] => []
  | .del :: U, c :: cs => .ins c :: invU U cs
  | .del :: U, [] => []
theorem patC_back {c : C5} {A : List A2} (hc : listE false none c.2.2.2 = 0) (hA : Pat A) : patC (patC c A) (jn chD (patC c A).2.2.2 c.2.2.2) = c := by
  obtain ⟨p, n⟩ := set_of hc
  obtain ⟨p', n'⟩ := set_of (patC_set hc hA)
  obtain ⟨a, b, d, e⟩ := c
  show (a, b, d, jn (chC false) (patC (a, b, d, e) A).2.2.2 _) = _
  rw [undone2 p'.up p.up n' n]
/-- **What U did, its inverse undoes.** -/
theorem edit_inv : ∀ (U : List U6) (cs xs : List C5), (∀ u ∈ U, GoodU u) → SetC cs → edit U cs = some xs → edit (invU U cs) xs = some cs
  | [], cs, xs, _, _, h => by
    obtain rfl := Option.some.inj h
    rw [invU]; rfl
  | .ins c :: U, cs, xs, hU, hs, h => by
    rw [edit_ins] at h
    obtain ⟨y, hy, rfl⟩ := Option.map_eq_some_iff.1 h
    rw [invU, edit_del]
    exact edit_inv U cs y (fun u hu => hU u (List.mem_cons_of_mem _ hu)) hs hy
  | .keep A :: U, [], xs, _, _, h => by cases h
  | .keep A :: U, c :: cs, xs, hU, hs, h => by
    obtain ⟨h1, h2⟩ := setc_cons.1 hs
    rw [edit_keep] at h
    obtain ⟨y, hy, rfl⟩ := Option.map_eq_some_iff.1 h
    rw [invU, edit_keep, edit_inv U cs y (fun u hu => hU u (List.mem_cons_of_mem _ hu)) h2 hy, patC_back h1 (hU (.keep A) (List.mem_cons_self ..))]
    rfl
  | .del :: U, [], xs, _, _, h => by cases h
  | .del :: U, c :: cs, xs, hU, hs, h => by
    rw [edit_del] at h
    rw [invU, edit_ins, edit_inv U cs xs (fun u hu => hU u (List.mem_cons_of_mem _ hu)) (setc_cons.1 hs).2 h]
    rfl
/-- How many cells come of it. -/
theorem edit_len : ∀ (U : List U6) (cs xs : List C5), edit U cs = some xs → xs.length + baseU U = cs.length + resU U
  | [], cs, xs, h => by obtain rfl := Option.some.inj h; rfl
  | .ins c :: U, cs, xs, h => by
    rw [edit_ins] at h
    obtain ⟨y, hy, rfl⟩ := Option.map_eq_some_iff.1 h
    have := edit_len U cs y hy
    have e : resU (.ins c :: U) = resU U + 1 := by unfold resU; rw [List.countP_cons]; rfl
    rw [base_cons, e, List.length_cons]
    simp only; omega
  | .keep A :: U, [], xs, h => by cases h
  | .keep A :: U, c :: cs, xs, h => by
    rw [edit_keep] at h
    obtain ⟨y, hy, rfl⟩ := Option.map_eq_some_iff.1 h
    have := edit_len U cs y hy
    have e : resU (.keep A :: U) = resU U + 1 := by unfold resU; rw [List.countP_cons]; rfl
    rw [base_cons, e, List.length_cons, List.length_cons]
    simp only; omega
  | .del :: U, [], xs, h => by cases h
  | .del :: U, c :: cs, xs, h => by
    have := edit_len U cs xs h
    have e : resU (.del :: U) = resU U := by unfold resU; rw [List.countP_cons]; rfl
    rw [base_cons, e, List.length_cons]
    simp only; omega
theorem edit_none : ∀ (U : List U6) (cs : List C5), cs.length < baseU U → edit U cs = none
  | [], cs, h => by simp [baseU] at h
  | .ins c :: U, cs, h => by
    rw [base_cons] at h
    rw [edit_ins, edit_none U cs (by simpa using h)]; rfl
  | .keep A :: U, [], _ => rfl
  | .keep A :: U, c :: cs, h => by
    rw [base_cons] at h
    rw [edit_keep, edit_none U cs (by simpa using h)]; rfl
  | .del :: U, [], _ => rfl
  | .del :: U, c :: cs, h => by
    rw [base_cons] at h
    rw [edit_del, edit_none U cs (by simpa using h)]
theorem good_comp : ∀ (U V : List U6), (∀ u ∈ U, GoodU u) → (∀ u ∈ V, GoodU u) → ∀ u ∈ compU U V, GoodU u
  | U, [], hU, _ => by rw [compU]; exact hU
  | U, .ins c :: V, hU, hV => by
    rw [compU]
    intro u hu
    rcases List.mem_cons.1 hu with rfl | hu
    · exact hV _ (List.mem_cons_self ..)
    · exact good_comp U V hU (fun u hu => hV u (List.mem_cons_of_mem _ hu)) u hu
  | [], .keep B :: V, _, hV => by rw [compU]; exact hV
  | [], .del :: V, _, hV => by rw [compU]; exact hV
  | .del :: U, .keep B :: V, hU, hV => by
    rw [compU]
    intro u hu
    rcases List.mem_cons.1 hu with rfl | hu
    · trivial
    · exact good_comp U (.keep B :: V) (fun u hu => hU u (List.mem_cons_of_mem _ hu)) hV u hu
  | .del :: U, .del :: V, hU, hV => by
    rw [compU]
    intro u hu
    rcases List.mem_cons.1 hu with rfl | hu
    · trivial
    · exact good_comp U (.del :: V) (fun u hu => hU u (List.mem_cons_of_mem _ hu)) hV u hu
  | .ins c :: U, .keep B :: V, hU, hV => by
    rw [compU]
    intro u hu
    rcases List.mem_cons.1 hu with rfl | hu
    · have h1 := hU (.ins c) (List.mem_cons_self ..)
      exact ⟨patC_set h1.1 (hV (.keep B) (List.mem_cons_self ..)), h1.2⟩
    · exact good_comp U V (fun u hu => hU u (List.mem_cons_of_mem _ hu)) (fun u hu => hV u (List.mem_cons_of_mem _ hu)) u hu
  | .ins c :: U, .del :: V, hU, hV => by
    rw [compU]
    exact good_comp U V (fun u hu => hU u (List.mem_cons_of_mem _ hu)) (fun u hu => hV u (List.mem_cons_of_mem _ hu))
  | .keep A :: U, .keep B :: V, hU, hV => by
    rw [compU]
    intro u hu
    rcases List.mem_cons.1 hu with rfl | hu
    · exact Pat.jn (one_C true) (hU (.keep A) (List.mem_cons_self ..)) (hV (.keep B) (List.mem_cons_self ..))
    · exact good_comp U V (fun u hu => hU u (List.mem_cons_of_mem _ hu)) (fun u hu => hV u (List.mem_cons_of_mem _ hu)) u hu
  | .keep A :: U, .del :: V, hU, hV => by
    rw [compU]
    intro u hu
    rcases List.mem_cons.1 hu with rfl | hu
    · trivial
    · exact good_comp U V (fun u hu => hU u (List.mem_cons_of_mem _ hu)) (fun u hu => hV u (List.mem_cons_of_mem _ hu)) u hu
termination_by U V => U.length + V.length
theorem good_trans (f : Bool) : ∀ (U V : List U6), (∀ u ∈ U, GoodU u) → (∀ u ∈ V, GoodU u) → ∀ u ∈ transU f U V, GoodU u
  | [], V, _, hV => by rw [transU]; exact hV
  | .ins c :: U, .ins d :: V, hU, hV => by
    rw [transU]
    intro u hu
    split at hu
    · rcases List.mem_cons.1 hu with rfl | hu
      · exact Pat.nil
      · exact good_trans f U (.ins d :: V) (fun u hu => hU u (List.mem_cons_of_mem _ hu)) hV u hu
    · rcases List.mem_cons.1 hu with rfl | hu
      · exact hV _ (List.mem_cons_self ..)
      · exact good_trans f (.ins c :: U) V hU (fun u hu => hV u (List.mem_cons_of_mem _ hu)) u hu
  | .ins c :: U, [], hU, hV => by
    rw [transU]
    intro u hu
    rcases List.mem_cons.1 hu with rfl | hu
    · exact Pat.nil
    · exact good_trans f U [] (fun u hu => hU u (List.mem_cons_of_mem _ hu)) hV u hu
  | .ins c :: U, .keep B :: V, hU, hV => by
    rw [transU]
    intro u hu
    rcases List.mem_cons.1 hu with rfl | hu
    · exact Pat.nil
    · exact good_trans f U (.keep B :: V) (fun u hu => hU u (List.mem_cons_of_mem _ hu)) hV u hu
  | .ins c :: U, .del :: V, hU, hV => by
    rw [transU]
    intro u hu
    rcases List.mem_cons.1 hu with rfl | hu
    · exact Pat.nil
    · exact good_trans f U (.del :: V) (fun u hu => hU u (List.mem_cons_of_mem _ hu)) hV u hu
  | .keep A :: U, .ins d :: V, hU, hV => by
    rw [transU]
    intro u hu
    rcases List.mem_cons.1 hu with rfl | hu
    · exact hV _ (List.mem_cons_self ..)
    · exact good_trans f (.keep A :: U) V hU (fun u hu => hV u (List.mem_cons_of_mem _ hu)) u hu
  | .del :: U, .ins d :: V, hU, hV => by
    rw [transU]
    intro u hu
    rcases List.mem_cons.1 hu with rfl | hu
    · exact hV _ (List.mem_cons_self ..)
    · exact good_trans f (.del :: U) V hU (fun u hu => hV u (List.mem_cons_of_mem _ hu)) u hu
  | .keep A :: U, [], hU, hV => by
    rw [transU]
    intro u hu
    rcases List.mem_cons.1 hu with rfl | hu
    · exact Pat.nil
    · exact good_trans f U [] (fun u hu => hU u (List.mem_cons_of_mem _ hu)) hV u hu
  | .del :: U, [], hU, hV => by rw [transU]; exact good_trans f U [] (fun u hu => hU u (List.mem_cons_of_mem _ hu)) hV
  | .keep A :: U, .keep B :: V, hU, hV => by
    rw [transU]
    intro u hu
    rcases List.mem_cons.1 hu with rfl | hu
    · exact Pat.jn (one_T f) (hU (.keep A) (List.mem_cons_self ..)) (hV (.keep B) (List.mem_cons_self ..))
    · exact good_trans f U V (fun u hu => hU u (List.mem_cons_of_mem _ hu)) (fun u hu => hV u (List.mem_cons_of_mem _ hu)) u hu
  | .keep A :: U, .del :: V, hU, hV => by
    rw [transU]
    intro u hu
    rcases List.mem_cons.1 hu with rfl | hu
    · trivial
    · exact good_trans f U V (fun u hu => hU u (List.mem_cons_of_mem _ hu)) (fun u hu => hV u (List.mem_cons_of_mem _ hu)) u hu
  | .del :: U, .keep B :: V, hU, hV => by rw [transU]; exact good_trans f U V (fun u hu => hU u (List.mem_cons_of_mem _ hu)) (fun u hu => hV u (List.mem_cons_of_mem _ hu))
  | .del :: U, .del :: V, hU, hV => by rw [transU]; exact good_trans f U V (fun u hu => hU u (List.mem_cons_of_mem _ hu)) (fun u hu => hV u (List.mem_cons_of_mem _ hu))
termination_by U V => U.length + V.length

/-- A list of operations whose units are some and the canonical list of it: how the units of what is computed by runs are used. -/
theorem canon_edit {R : List Op5} (hR : ∀ o ∈ R, Wel o) {cs : List C5} (hs : SetC cs) (hl : baseU (units R) ≤ cs.length) : edit (units (canonL R)) cs = edit (units R) cs := by
  obtain ⟨xs, hx⟩ := edit_some hl
  rw [edit_canon hR hs hx, hx]
/-- **Composing is associative**: E then F then G, in any brackets, the parts put in order behind each step. -/
theorem comp_assoc {E F G R S L M : List Op5} (hE : ∀ o ∈ E, Wel o) (hF : ∀ o ∈ F, Wel o) (hG : ∀ o ∈ G, Wel o)
    (hR : ∀ o ∈ R, Wel o) (eR : units R = compU (units E) (units F)) (hS : ∀ o ∈ S, Wel o) (eS : units S = compU (units F) (units G))
    (hL : ∀ o ∈ L, Wel o) (eL : units L = compU (units (canonL R)) (units G)) (hM : ∀ o ∈ M, Wel o) (eM : units M = compU (units E) (units (canonL S))) : canonL L = canonL M := by
  obtain ⟨l1, l2, l3, _⟩ := canon_spec hL
  obtain ⟨m1, m2, m3, _⟩ := canon_spec hM
  obtain ⟨r1, _, _, _⟩ := canon_spec hR
  obtain ⟨s1, _, _, _⟩ := canon_spec hS
  refine canon_ext l1 m1 l2 m2 l3 m3 (baseU (units L) + baseU (units M) + baseU (units R) + baseU (units E) + baseU (units S)) fun cs hs hn => ?_
  rw [canon_edit hL hs (by omega), canon_edit hM hs (by omega), eL, eM, edit_comp _ _ _ (good_units r1) (good_units hG) hs, edit_comp _ _ _ (good_units hE) (good_units s1) hs,
    canon_edit hR hs (by omega), eR, edit_comp _ _ _ (good_units hE) (good_units hF) hs]
  obtain ⟨xs, hx⟩ := edit_some (U := units E) (cs := cs) (by omega)
  have hxs := edit_setc (good_units hE) hs hx
  have hlen := edit_len _ _ _ hx
  rw [hx]
  simp only [Option.bind_some]
  have key : edit (units (canonL S)) xs = edit (units S) xs := canon_edit hS hxs (by omega)
  rw [key, eS, edit_comp _ _ _ (good_units hF) (good_units hG) hxs]
/-- **Both ways round make one delta**: E and what F is carried over it, F and what E is carried over it. -/
theorem both_one {E F P Q L M : List Op5} (f : Bool) (hE : ∀ o ∈ E, Wel o) (hF : ∀ o ∈ F, Wel o)
    (hP : ∀ o ∈ P, Wel o) (eP : units P = transU f (units E) (units F)) (hQ : ∀ o ∈ Q, Wel o) (eQ : units Q = transU (!f) (units F) (units E))
    (hL : ∀ o ∈ L, Wel o) (eL : units L = compU (units E) (units (canonL P))) (hM : ∀ o ∈ M, Wel o) (eM : units M = compU (units F) (units (canonL Q))) : canonL L = canonL M := by
  obtain ⟨l1, l2, l3, _⟩ := canon_spec hL
  obtain ⟨m1, m2, m3, _⟩ := canon_spec hM
  obtain ⟨p1, _, _, _⟩ := canon_spec hP
  obtain ⟨q1, _, _, _⟩ := canon_spec hQ
  refine canon_ext l1 m1 l2 m2 l3 m3 (baseU (units L) + baseU (units M) + baseU (units E) + baseU (units F) + baseU (units P) + baseU (units Q)) fun cs hs hn => ?_
  rw [canon_edit hL hs (by omega), canon_edit hM hs (by omega), eL, eM, edit_comp _ _ _ (good_units hE) (good_units p1) hs, edit_comp _ _ _ (good_units hF) (good_units q1) hs]
  have hb := edit_both f (units E) (units F) cs (good_units hE) (good_units hF) hs
  rw [← eP, ← eQ] at hb
  obtain ⟨xs, hx⟩ := edit_some (U := units E) (cs := cs) (by omega)
  obtain ⟨ys, hy⟩ := edit_some (U := units F) (cs := cs) (by omega)
  have sx := edit_setc (good_units hE) hs hx
  have sy := edit_setc (good_units hF) hs hy
  have lx := edit_len _ _ _ hx
  have ly := edit_len _ _ _ hy
  rw [hx, hy] at hb ⊢
  simp only [Option.bind_some] at hb ⊢
  rw [canon_edit hP sx (by omega), canon_edit hQ sy (by omega)]
  exact hb
end Go.Proofs.YtalfdjglbbmjcaaGreatDoor

/- The pieces of a cut text, purely. -/
namespace Go.Proofs.YtalfdjglbbmjcaaGreatDoor
open Go Go.RowKit Go.Lib
set_option linter.unusedVariables false

/-- The two pieces of an insert. -/
def headO (o : Op5) (m : Nat) : Op5 := ⟨1, o.t.extract 0 (pos (scs o.t.data.toList) m), z0, 0, o.A⟩
def tailO (o : Op5) (m : Nat) : Op5 := ⟨1, o.t.extract (pos (scs o.t.data.toList) m) o.t.size, z0, 0, o.A⟩

theorem scs_of {rs : List Nat} (h : ∀ r ∈ rs, scal r) : scs (encs rs) = rs ∧ brk (encs rs) = (encs rs).length := by
  have h1 := scs_eq (t := []) h (Or.inl rfl)
  have h2 := brk_eq (t := []) h (Or.inl rfl)
  rw [List.append_nil] at h1 h2
  exact ⟨h1, h2⟩
theorem head_list {o : Op5} (h : brk o.t.data.toList = o.t.size) (m : Nat) : (headO o m).t.data.toList = encs ((scs o.t.data.toList).take m) := by
  obtain ⟨_, h2, _⟩ := valid_text o.t h
  obtain ⟨rs, hrs⟩ : ∃ rs, scs o.t.data.toList = rs := ⟨_, rfl⟩
  show (o.t.extract 0 _).data.toList = _
  rw [hrs] at h2 ⊢
  rw [extract_of o.t (encs (rs.take m)) 0 _ (by rw [h2, List.drop_zero, Nat.sub_zero, take_pos])]
theorem tail_list {o : Op5} (h : brk o.t.data.toList = o.t.size) (m : Nat) : (tailO o m).t.data.toList = encs ((scs o.t.data.toList).drop m) := by
  obtain ⟨_, h2, _⟩ := valid_text o.t h
  have hs := size_toList o.t
  obtain ⟨rs, hrs⟩ : ∃ rs, scs o.t.data.toList = rs := ⟨_, rfl⟩
  show (o.t.extract _ _).data.toList = _
  rw [hrs] at h2 ⊢
  rw [extract_of o.t (encs (rs.drop m)) _ _ (by
    rw [List.take_of_length_le (by rw [List.length_drop, hs]; exact Nat.le_refl _), h2, drop_pos])]
theorem encs_len0 {rs : List Nat} (h : ∀ r ∈ rs, scal r) : rs.length ≤ (encs rs).length := by
  induction rs with
  | nil => exact Nat.le_refl _
  | cons x rs ih =>
    have := enc_pos (h x (by simp))
    have := ih fun r hr => h r (by simp [hr])
    simp only [encs, List.length_append, List.length_cons]
    omega
/-- A text of scalars, one at least, is an insert. -/
theorem ins_list {o o' : Op5} {rs : List Nat} (h : Ins o) (hs : ∀ r ∈ rs, scal r) (h0 : 0 < rs.length) (hk : o'.k = 1) (hv : o'.v = z0) (hc : o'.c = 0) (hA : o'.A = o.A) (ht : o'.t.data.toList = encs rs) : Ins o' ∧ lenO o' = rs.length := by
  obtain ⟨e1, e2⟩ := scs_of hs
  have hl := encs_len0 hs
  have hz := size_toList o'.t
  rw [ht] at hz
  refine ⟨⟨Or.inl ⟨hk, hv⟩, size_isEmp (by omega), hc, by rw [ht, e2, hz], by rw [hv]; exact chk_z0, by rw [hA]; exact h.set⟩, ?_⟩
  unfold lenO
  rw [if_pos hk, ht, e1]
theorem ins_head {o : Op5} (h : Ins o) {m : Nat} (h1 : 1 ≤ m) (hm : m < (scs o.t.data.toList).length) : Ins (headO o m) ∧ lenO (headO o m) = m := by
  have := ins_list (o' := headO o m) h (rs := (scs o.t.data.toList).take m) (fun r hr => (valid_text o.t h.utf).1 r (List.mem_of_mem_take hr)) (by rw [List.length_take]; omega) rfl rfl rfl rfl (head_list h.utf m)
  rw [List.length_take] at this
  exact ⟨this.1, by rw [this.2]; omega⟩
theorem ins_tail {o : Op5} (h : Ins o) {m : Nat} (hm : m < (scs o.t.data.toList).length) : Ins (tailO o m) ∧ lenO (tailO o m) = (scs o.t.data.toList).length - m := by
  have := ins_list (o' := tailO o m) h (rs := (scs o.t.data.toList).drop m) (fun r hr => (valid_text o.t h.utf).1 r (List.mem_of_mem_drop hr)) (by rw [List.length_drop]; omega) rfl rfl rfl rfl (tail_list h.utf m)
  rw [List.length_drop] at this
  exact this
theorem head_tail {o : Op5} (h : Ins o) (hk : o.k = 1) (m : Nat) : joinO (headO o m) (tailO o m) = o := by
  have hv : o.v = z0 := by
    rcases h.kind with ⟨_, hv⟩ | ⟨h2, _⟩
    · exact hv
    · omega
  have ht : (headO o m).t ++ (tailO o m).t = o.t := by
    apply ByteArray.ext
    apply Array.ext'
    rw [cat_list, head_list h.utf, tail_list h.utf, ← encs_append, List.take_append_drop]
    exact (valid_text o.t h.utf).2.1.symm
  have hc := h.count
  obtain ⟨k, t, v, c, A⟩ := o
  simp only at hk hv hc
  subst hk hv hc
  show (⟨1, (headO _ m).t ++ (tailO _ m).t, z0, 0, A⟩ : Op5) = _
  rw [ht]
theorem size_head (o : Op5) (m : Nat) : (headO o m).t.size ≤ o.t.size := by show (o.t.extract _ _).size ≤ _; rw [ByteArray.size_extract]; omega
theorem size_tail (o : Op5) (m : Nat) : (tailO o m).t.size ≤ o.t.size := by show (o.t.extract _ _).size ≤ _; rw [ByteArray.size_extract]; omega
theorem fit_head {o : Op5} (h : Fit o) (m : Nat) : Fit (headO o m) := ⟨Nat.le_trans (size_head o m) h.t, by show (0 : Nat) ≤ 1048576; decide, h.A, h.n⟩
theorem fit_tail {o : Op5} (h : Fit o) (m : Nat) : Fit (tailO o m) := ⟨Nat.le_trans (size_tail o m) h.t, by show (0 : Nat) ≤ 1048576; decide, h.A, h.n⟩
theorem cells_cut {o : Op5} (h : Ins o) (hk : o.k = 1) {m : Nat} (h1 : 1 ≤ m) (hm : m < (scs o.t.data.toList).length) : cellsOf o = cellsOf (headO o m) ++ cellsOf (tailO o m) := by
  have := cells_join (ins_head h h1 hm).1 (ins_tail h hm).1 rfl rfl rfl
  rwa [head_tail h hk] at this
theorem lenO_pos {o : Op5} (h : Ins o) : 1 ≤ lenO o := by
  unfold lenO
  split
  · have h0 := isEmp_size h.full
    obtain ⟨_, h2, _⟩ := valid_text o.t h.utf
    rcases Nat.eq_zero_or_pos (scs o.t.data.toList).length with e | e
    · rw [List.eq_nil_of_length_eq_zero e] at h2
      have := size_toList o.t
      rw [h2] at this
      simp only [encs, List.length_nil] at this
      omega
    · exact e
  · exact Nat.le_refl _
theorem lenO_2 {o : Op5} (h : Ins o) (h2 : 2 ≤ lenO o) : o.k = 1 ∧ lenO o = (scs o.t.data.toList).length := by
  unfold lenO at h2 ⊢
  by_cases hk : o.k = 1
  · exact ⟨hk, if_pos hk⟩
  · rw [if_neg hk] at h2; omega
end Go.Proofs.YtalfdjglbbmjcaaGreatDoor

/- Deltas unit by unit: parts and turned parts; documents and their cells. -/
namespace Go.Proofs.YtalfdjglbbmjcaaGreatDoor
open Go Go.RowKit Go.Lib
set_option linter.unusedVariables false

theorem nrm_state : ∀ (X I : List U6) (d : Nat), ∃ (P J : List U6) (e : Nat), ∀ R, nrm I d (X ++ R) = P ++ nrm J e R
  | [], I, d => ⟨[], I, d, fun R => rfl⟩
  | .keep A :: X, I, d => by
    obtain ⟨P, J, e, h⟩ := nrm_state X [] 0
    refine ⟨I ++ (List.replicate d .del ++ .keep A :: P), J, e, fun R => ?_⟩
    show I ++ (List.replicate d .del ++ .keep A :: nrm [] 0 (X ++ R)) = _
    rw [h]; simp
  | .del :: X, I, d => nrm_state X I (d + 1)
  | .ins c :: X, I, d => nrm_state X (I ++ [.ins c]) d
/-- What comes and what goes beside it may be gathered in any order. -/
theorem nrm_swap (X I : List U6) (d : Nat) (l : List C5) (n : Nat) (R : List U6) :
    nrm I d (X ++ (List.replicate n .del ++ (l.map .ins ++ R))) = nrm I d (X ++ (l.map .ins ++ (List.replicate n .del ++ R))) := by
  obtain ⟨P, J, e, h⟩ := nrm_state X I d
  rw [h, h, nrm_del, nrm_ins, nrm_ins, nrm_del]
/-- Operations that are the same but for an insert and a delete that are turned. -/
theorem canon_swap {X R : List Op5} {i o : Op5} (hX : ∀ x ∈ X, Wel x) (hR : ∀ x ∈ R, Wel x) (hi : Wel i) (ho : Wel o) (ki : i.k = 1 ∨ i.k = 2) (ko : o.k = 4) :
    canonL (X ++ o :: i :: R) = canonL (X ++ i :: o :: R) := by
  have w1 : ∀ x ∈ X ++ o :: i :: R, Wel x := fun x hx => by
    rcases List.mem_append.1 hx with h | h
    · exact hX x h
    · rcases List.mem_cons.1 h with rfl | h
      · exact ho
      · rcases List.mem_cons.1 h with rfl | h
        · exact hi
        · exact hR x h
  have w2 : ∀ x ∈ X ++ i :: o :: R, Wel x := fun x hx => by
    rcases List.mem_append.1 hx with h | h
    · exact hX x h
    · rcases List.mem_cons.1 h with rfl | h
      · exact hi
      · rcases List.mem_cons.1 h with rfl | h
        · exact ho
        · exact hR x h
  obtain ⟨t1, t2, t3, t4⟩ := canon_spec w2
  refine canon_unique w1 t1 t2 ?_
  rw [t4]
  congr 1
  have e1 : units (X ++ o :: i :: R) = units X ++ (List.replicate o.c.toNat .del ++ ((cellsOf i).map .ins ++ units R)) := by
    rw [units_append, ← unitsO_4 ko, ← unitsO_1 ki]; rfl
  have e2 : units (X ++ i :: o :: R) = units X ++ ((cellsOf i).map .ins ++ (List.replicate o.c.toNat .del ++ units R)) := by
    rw [units_append, ← unitsO_4 ko, ← unitsO_1 ki]; rfl
  rw [e1, e2, nrm_swap]
/-- Parts of a canonical list make it again. -/
theorem canon_parts {F P : List Op5} (hF : ∀ o ∈ F, Wel o) (hc : chainB F = true) (hl : lastP F = true) (hP : ∀ o ∈ P, Wel o) (e : units P = units F) : canonL P = F :=
  canon_unique hP hF hc (by rw [e, nrm_chain [] hF hc, List.nil_append, strip_can hF hl])

/-- A cell that may be in a document. -/
def GoodC (c : C5) : Prop := (c.1 = -1 ∧ c.2.1.toList.isEmpty = false ∧ c.2.1.size ≤ 64 ∧ brk c.2.1.data.toList = c.2.1.size ∧ chkP c.2.2.1 = 0 ∨ ∃ r : Nat, c.1 = (r : Int) ∧ scal r ∧ c.2.1 = ⟨#[]⟩ ∧ c.2.2.1 = z0) ∧ listE false none c.2.2.2 = 0
/-- The operation that inserts a cell. -/
def opOf (c : C5) : Op5 := if c.1 = -1 then ⟨2, c.2.1, c.2.2.1, 0, c.2.2.2⟩ else ⟨1, ⟨(enc c.1.toNat).toArray⟩, z0, 0, c.2.2.2⟩
theorem opOf_good {c : C5} (h : GoodC c) : Wel (opOf c) ∧ unitsO (opOf c) = [.ins c] ∧ ((opOf c).k = 1 ∨ (opOf c).k = 2) := by
  obtain ⟨h, hs⟩ := h
  obtain ⟨a, t, v, A⟩ := c
  simp only at h hs
  rcases h with ⟨rfl, h1, h2, h3, h4⟩ | ⟨r, rfl, h1, rfl, rfl⟩
  · have e : opOf (-1, t, v, A) = ⟨2, t, v, 0, A⟩ := rfl
    rw [e]
    refine ⟨Or.inl ⟨⟨Or.inr ⟨rfl, h2⟩, h1, rfl, h3, h4, hs⟩, Or.inr rfl⟩, ?_, Or.inr rfl⟩
    rw [unitsO_1 (Or.inr rfl), cells2 rfl]
  · have e : opOf ((r : Int), ⟨#[]⟩, z0, A) = ⟨1, ⟨(enc r).toArray⟩, z0, 0, A⟩ := by
      unfold opOf
      rw [if_neg (by simp only; omega)]
      simp
    rw [e]
    obtain ⟨s1, s2⟩ := scs_of (rs := [r]) (fun x hx => by rw [List.mem_singleton.1 hx]; exact h1)
    have e2 : encs [r] = enc r := by simp [encs]
    rw [e2] at s1 s2
    have hp := enc_pos h1
    have hsz : (⟨(enc r).toArray⟩ : ByteArray).size = (enc r).length := by simp [ByteArray.size]
    refine ⟨Or.inl ⟨⟨Or.inl ⟨rfl, rfl⟩, size_isEmp (by rw [hsz]; exact hp.1), rfl, ?_, chk_z0, hs⟩, Or.inl rfl⟩, ?_, Or.inl rfl⟩
    · show brk (enc r) = _
      rw [s2, hsz]
    · rw [unitsO_1 (Or.inl rfl)]
      unfold cellsOf
      rw [if_pos rfl]
      show (mkC A (scs (enc r))).map U6.ins = _
      rw [s1]; rfl
/-- A list of inserts alone. -/
def DocL (E : List Op5) : Prop := ∀ o ∈ E, o.k = 1 ∨ o.k = 2
/-- A document's cells. -/
def cellsL (E : List Op5) : List C5 := E.flatMap cellsOf
theorem units_doc : ∀ {E : List Op5}, DocL E → units E = (cellsL E).map .ins
  | [], _ => rfl
  | o :: r, h => by
    show unitsO o ++ units r = _
    rw [unitsO_1 (h o (List.mem_cons_self ..)), units_doc fun x hx => h x (List.mem_cons_of_mem _ hx)]
    show _ = ((cellsOf o ++ cellsL r).map U6.ins)
    rw [List.map_append]
theorem units_ops : ∀ {cs : List C5}, (∀ c ∈ cs, GoodC c) → units (cs.map opOf) = cs.map .ins
  | [], _ => rfl
  | c :: cs, h => by
    show unitsO (opOf c) ++ units (cs.map opOf) = _
    rw [(opOf_good (h c (List.mem_cons_self ..))).2.1, units_ops fun x hx => h x (List.mem_cons_of_mem _ hx)]; rfl
/-- The document of cells. -/
def docOf (cs : List C5) : List Op5 := canonL (cs.map opOf)
theorem strip_ins : ∀ (l : List C5), stripU (l.map U6.ins) = l.map U6.ins := fun l => by
  rcases List.eq_nil_or_concat l with rfl | ⟨m, c, rfl⟩
  · rfl
  · rw [List.concat_eq_append, List.map_append]
    exact strip_end rfl
theorem nrm_ins0 (l : List C5) : nrm [] 0 (l.map .ins) = l.map .ins := by
  have := nrm_ins l [] 0 []
  rw [List.append_nil] at this
  rw [this]; simp [nrm]
theorem doc_units {cs : List C5} (h : ∀ c ∈ cs, GoodC c) : (∀ o ∈ docOf cs, Wel o) ∧ chainB (docOf cs) = true ∧ lastP (docOf cs) = true ∧ units (docOf cs) = cs.map .ins := by
  have hw : ∀ o ∈ cs.map opOf, Wel o := fun o ho => by
    obtain ⟨c, hc, rfl⟩ := List.mem_map.1 ho
    exact (opOf_good (h c hc)).1
  obtain ⟨t1, t2, t3, t4⟩ := canon_spec hw
  exact ⟨t1, t2, t3, by rw [show units (docOf cs) = _ from t4, units_ops h, nrm_ins0, strip_ins]⟩
theorem ins_map_inj {a b : List C5} (h : a.map U6.ins = b.map U6.ins) : a = b := (List.map_inj_right fun x y h => U6.ins.inj h).1 h
theorem wel_doc {E : List Op5} (h : ∀ o ∈ E, Wel o) {cs : List C5} (e : units E = cs.map .ins) : DocL E := fun o ho => by
  have hw := h o ho
  obtain ⟨u, us, hu⟩ := List.exists_cons_of_ne_nil (unitsO_ne hw)
  have m : u ∈ unitsO o := by rw [hu]; exact List.mem_cons_self ..
  have mem : ∀ {E : List Op5} {o : Op5} {u : U6}, o ∈ E → u ∈ unitsO o → u ∈ units E := fun {E} => by
    induction E with
    | nil => intro o u h; cases h
    | cons x r ih =>
      intro o u h hu
      show u ∈ unitsO x ++ units r
      rcases List.mem_cons.1 h with rfl | h
      · exact List.mem_append_left _ hu
      · exact List.mem_append_right _ (ih h hu)
  have := mem ho m
  rw [e] at this
  obtain ⟨c, _, rfl⟩ := List.mem_map.1 this
  rcases unit_cases hw m with ⟨hk, _⟩ | ⟨hk, _⟩ | ⟨_, h⟩ | ⟨_, h⟩
  · exact Or.inl hk
  · exact Or.inr hk
  · cases h
  · cases h
/-- **Cells make a document, and its cells are those.** -/
theorem cells_doc {cs : List C5} (h : ∀ c ∈ cs, GoodC c) : DocL (docOf cs) ∧ cellsL (docOf cs) = cs := by
  obtain ⟨t1, _, _, t4⟩ := doc_units h
  have hd := wel_doc t1 t4
  exact ⟨hd, ins_map_inj (by rw [← units_doc hd, t4])⟩
theorem good_cells {E : List Op5} (h : ∀ o ∈ E, Wel o) (hd : DocL E) : ∀ c ∈ cellsL E, GoodC c := fun c hc => by
  obtain ⟨o, ho, hc⟩ := List.mem_flatMap.1 hc
  have hw := h o ho
  obtain ⟨i, _⟩ := hw.resolve_right (by have := hd o ho; rintro (h | h) <;> omega)
  rcases hd o ho with hk | hk
  · unfold cellsOf at hc
    rw [if_pos hk, mkC] at hc
    obtain ⟨r, hr, rfl⟩ := List.mem_map.1 hc
    obtain ⟨_, hsc, _, _⟩ := text_cases o.t.data.toList
    exact ⟨Or.inr ⟨r, rfl, hsc r hr, rfl, rfl⟩, i.set⟩
  · unfold cellsOf at hc
    rw [if_neg (by omega)] at hc
    rw [List.mem_singleton.1 hc]
    exact ⟨Or.inl ⟨rfl, i.full, (i.kind.resolve_left (by omega)).2, i.utf, i.val⟩, i.set⟩
/-- **A canonical document is that of its cells.** -/
theorem doc_cells {E : List Op5} (h : ∀ o ∈ E, Wel o) (hc : chainB E = true) (hd : DocL E) : docOf (cellsL E) = E := by
  obtain ⟨t1, t2, _, t4⟩ := doc_units (good_cells h hd)
  exact units_inj t1 h t2 hc (by rw [t4, units_doc hd])
end Go.Proofs.YtalfdjglbbmjcaaGreatDoor

/- A delta gone through in pieces, purely. -/
namespace Go.Proofs.YtalfdjglbbmjcaaGreatDoor
open Go Go.RowKit Go.Lib
set_option linter.unusedVariables false

/-- The first n cells of an operation that has more, and the others. -/
def hd7 (o : Op5) (n : Int) : Op5 := if o.k = 1 then headO o n.toNat else ⟨o.k, o.t, o.v, n, o.A⟩
def tl7 (o : Op5) (n : Int) : Op5 := if o.k = 1 then tailO o n.toNat else ⟨o.k, o.t, o.v, o.c - n, o.A⟩
/-- A plain retain. -/
def pl7 (n : Int) : Op5 := ⟨3, ⟨#[]⟩, z0, n, []⟩
/-- A piece of at most n cells, and what is left. -/
def nx7 : List Op5 → Int → Op5 × List Op5
  | [], n => (pl7 (min n 1099511627776), [])
  | o :: r, n => if len5 o ≤ n then (o, r) else (hd7 o n, tl7 o n :: r)
def left7 : List Op5 → Int
  | [] => 1099511627776
  | o :: _ => len5 o
def kind7 : List Op5 → Int
  | [] => 3
  | o :: _ => o.k
theorem nx_nil (n : Int) : nx7 [] n = (pl7 (min n 1099511627776), []) := rfl
theorem nx_all {o : Op5} {r : List Op5} {n : Int} (h : len5 o ≤ n) : nx7 (o :: r) n = (o, r) := if_pos h
theorem nx_part {o : Op5} {r : List Op5} {n : Int} (h : ¬ len5 o ≤ n) : nx7 (o :: r) n = (hd7 o n, tl7 o n :: r) := if_neg h
theorem pl_good {n : Int} (h1 : 1 ≤ n) (h2 : n ≤ 1099511627776) : opE (pl7 n) = 0 ∧ len5 (pl7 n) = n := by
  have h : cntE (pl7 n) = 0 := cnt_iff.2 ⟨by kernel_rfl, rfl, h1, h2⟩
  refine ⟨?_, by unfold len5; rw [if_neg (by show ¬ ((3 : Int) = 1 ∨ (3 : Int) = 2); decide)]; rfl⟩
  unfold opE
  rw [if_neg (by show ¬ ((3 : Int) = 1 ∨ (3 : Int) = 2); decide), if_pos (show (pl7 n).k = 3 from rfl), if_neg (by rw [h]; decide)]
  rfl

/-- What a cut operation's two pieces are. -/
structure Cut7 (o : Op5) (n : Int) : Prop where
  nk : o.k ≠ 2
  h0 : opE (hd7 o n) = 0
  t0 : opE (tl7 o n) = 0
  hk : (hd7 o n).k = o.k
  tk : (tl7 o n).k = o.k
  hA : (hd7 o n).A = o.A
  tA : (tl7 o n).A = o.A
  hl : len5 (hd7 o n) = n
  tl : len5 (tl7 o n) = len5 o - n
  hz : (hd7 o n).t.size ≤ o.t.size
  tz : (tl7 o n).t.size ≤ o.t.size
  hv : (hd7 o n).v = o.v
  tv : (tl7 o n).v = o.v
  un : unitsO o = unitsO (hd7 o n) ++ unitsO (tl7 o n)
theorem opE_12 {o : Op5} (h : Ins o) (hk : o.k = 1 ∨ o.k = 2) : opE o = 0 := by
  unfold opE; rw [if_pos hk]; exact h.zero
theorem opE_3 {o : Op5} (h : Cnt o) (hA : listE true none o.A = 0) (hk : o.k = 3) : opE o = 0 := by
  unfold opE
  rw [if_neg (by omega), if_pos hk, if_neg (by rw [cnt_iff.2 h]; decide)]
  exact hA
theorem opE_4 {o : Op5} (h : Cnt o) (hA : o.A = []) (hk : o.k = 4) : opE o = 0 := by
  unfold opE
  rw [if_neg (by omega), if_neg (by omega), if_pos hk, if_neg (by rw [hA]; simp)]
  exact cnt_iff.2 h
theorem cut7 {o : Op5} {n : Int} (h : opE o = 0) (h1 : 1 ≤ n) (h2 : n < len5 o) : Cut7 o n := by
  rcases op_good h with ⟨hi, hk⟩ | ⟨hc, hA, hk⟩ | ⟨hc, hA, hk⟩
  · have e : len5 o = (lenO o : Int) := by unfold len5; rw [if_pos hk]
    rw [e] at h2
    obtain ⟨k1, kl⟩ := lenO_2 hi (by omega)
    obtain ⟨m, rfl⟩ : ∃ m : Nat, n = m := ⟨n.toNat, by omega⟩
    have hm : m < (scs o.t.data.toList).length := by omega
    have e1 : hd7 o m = headO o m := by unfold hd7; rw [if_pos k1]; rfl
    have e2 : tl7 o m = tailO o m := by unfold tl7; rw [if_pos k1]; rfl
    obtain ⟨a1, a2⟩ := ins_head hi (m := m) (by omega) hm
    obtain ⟨b1, b2⟩ := ins_tail hi (m := m) hm
    have hv : o.v = z0 := by
      rcases hi.kind with ⟨_, hv⟩ | ⟨h2, _⟩
      · exact hv
      · omega
    have hc := cells_cut hi k1 (m := m) (by omega) hm
    refine ⟨by omega, ?_, ?_, ?_, ?_, ?_, ?_, ?_, ?_, ?_, ?_, ?_, ?_, ?_⟩
    · rw [e1]; exact opE_12 a1 (.inl rfl)
    · rw [e2]; exact opE_12 b1 (.inl rfl)
    · rw [e1, k1]; rfl
    · rw [e2, k1]; rfl
    · rw [e1]; rfl
    · rw [e2]; rfl
    · rw [e1]; unfold len5; rw [if_pos (show (headO o m).k = 1 ∨ _ from .inl rfl), a2]
    · rw [e2, e]; unfold len5; rw [if_pos (show (tailO o m).k = 1 ∨ _ from .inl rfl), b2, kl]; omega
    · rw [e1]; exact size_head o m
    · rw [e2]; exact size_tail o m
    · rw [e1, hv]; rfl
    · rw [e2, hv]; rfl
    · rw [e1, e2, unitsO_1 (.inl k1), unitsO_1 (o := headO o m) (.inl rfl), unitsO_1 (o := tailO o m) (.inl rfl), hc, List.map_append]
  · have e : len5 o = o.c := by unfold len5; rw [if_neg (by omega)]
    rw [e] at h2
    have hh := hc.hi
    have e1 : hd7 o n = ⟨o.k, o.t, o.v, n, o.A⟩ := if_neg (by omega)
    have e2 : tl7 o n = ⟨o.k, o.t, o.v, o.c - n, o.A⟩ := if_neg (by omega)
    have c1 : Cnt (hd7 o n) := by rw [e1]; exact ⟨hc.text, hc.val, h1, by show n ≤ _; omega⟩
    have c2 : Cnt (tl7 o n) := by rw [e2]; exact ⟨hc.text, hc.val, by show 1 ≤ o.c - n; omega, by show o.c - n ≤ _; omega⟩
    refine ⟨by omega, opE_3 c1 (by rw [e1]; exact hA) (by rw [e1]; exact hk), opE_3 c2 (by rw [e2]; exact hA) (by rw [e2]; exact hk), by rw [e1], by rw [e2], by rw [e1], by rw [e2], ?_, ?_, by rw [e1]; exact Nat.le_refl _, by rw [e2]; exact Nat.le_refl _, by rw [e1], by rw [e2], ?_⟩
    · rw [e1]; unfold len5; rw [if_neg (by show ¬ (o.k = 1 ∨ o.k = 2); omega)]
    · rw [e2, e]; unfold len5; rw [if_neg (by show ¬ (o.k = 1 ∨ o.k = 2); omega)]
    · rw [e1, e2, unitsO_3 hk, unitsO_3 (o := ⟨o.k, o.t, o.v, n, o.A⟩) hk, unitsO_3 (o := ⟨o.k, o.t, o.v, o.c - n, o.A⟩) hk]
      show List.replicate o.c.toNat _ = List.replicate n.toNat _ ++ List.replicate (o.c - n).toNat _
      rw [List.replicate_append_replicate]
      congr 1; omega
  · have e : len5 o = o.c := by unfold len5; rw [if_neg (by omega)]
    rw [e] at h2
    have hh := hc.hi
    have e1 : hd7 o n = ⟨o.k, o.t, o.v, n, o.A⟩ := if_neg (by omega)
    have e2 : tl7 o n = ⟨o.k, o.t, o.v, o.c - n, o.A⟩ := if_neg (by omega)
    have c1 : Cnt (hd7 o n) := by rw [e1]; exact ⟨hc.text, hc.val, h1, by show n ≤ _; omega⟩
    have c2 : Cnt (tl7 o n) := by rw [e2]; exact ⟨hc.text, hc.val, by show 1 ≤ o.c - n; omega, by show o.c - n ≤ _; omega⟩
    refine ⟨by omega, opE_4 c1 (by rw [e1]; exact hA) (by rw [e1]; exact hk), opE_4 c2 (by rw [e2]; exact hA) (by rw [e2]; exact hk), by rw [e1], by rw [e2], by rw [e1], by rw [e2], ?_, ?_, by rw [e1]; exact Nat.le_refl _, by rw [e2]; exact Nat.le_refl _, by rw [e1], by rw [e2], ?_⟩
    · rw [e1]; unfold len5; rw [if_neg (by show ¬ (o.k = 1 ∨ o.k = 2); omega)]
    · rw [e2, e]; unfold len5; rw [if_neg (by show ¬ (o.k = 1 ∨ o.k = 2); omega)]
    · rw [e1, e2, unitsO_4 hk, unitsO_4 (o := ⟨o.k, o.t, o.v, n, o.A⟩) hk, unitsO_4 (o := ⟨o.k, o.t, o.v, o.c - n, o.A⟩) hk]
      show List.replicate o.c.toNat _ = List.replicate n.toNat _ ++ List.replicate (o.c - n).toNat _
      rw [List.replicate_append_replicate]
      congr 1; omega
theorem len5_pos {o : Op5} (h : opE o = 0) : 1 ≤ len5 o := by
  rcases op_good h with ⟨hi, hk⟩ | ⟨hc, hA, hk⟩ | ⟨hc, hA, hk⟩
  · unfold len5; rw [if_pos hk]; have := lenO_pos hi; omega
  · unfold len5; rw [if_neg (by omega)]; exact hc.lo
  · unfold len5; rw [if_neg (by omega)]; exact hc.lo

/-- What is left of a canonical delta is canonical, and fits as it did. -/
structure Rst (E : List Op5) (N T K : Nat) : Prop where
  good : ∀ o ∈ E, opE o = 0
  fit : ∀ o ∈ E, FitA o
  txt : txtS E ≤ T
  attr : ∀ o ∈ E, o.A.length ≤ K
  len : E.length ≤ N
  chain : chainB E = true
  last : lastP E = true
  base : sumB E ≤ 1099511627776
  res : sumR E ≤ 1099511627776
theorem Rst.size {E : List Op5} {N T K : Nat} (h : Rst E N T K) : ∀ o ∈ E, o.t.size ≤ T := fun o ho => Nat.le_trans (txtS_mem ho) h.txt
theorem txtS_cons (o : Op5) (r : List Op5) : txtS (o :: r) = o.t.size + txtS r := by unfold txtS; rfl
theorem Rst.okE {E : List Op5} {N T K : Nat} (h : Rst E N T K) (hT : T ≤ 8388608) (hN : N ≤ 4194304) : OkE E :=
  ⟨h.good, h.fit, Nat.le_trans h.txt hT, Nat.le_trans h.len hN, h.base, h.res⟩
theorem Rst.nil (N T K : Nat) : Rst [] N T K := ⟨fun _ h => (by cases h), fun _ h => (by cases h), Nat.zero_le _, fun _ h => (by cases h), Nat.zero_le _, rfl, rfl, by show (0 : Int) ≤ _; omega, by show (0 : Int) ≤ _; omega⟩
theorem lastP_cons {x y : Op5} {r : List Op5} : lastP (x :: y :: r) = lastP (y :: r) := by
  unfold lastP
  rw [List.getLast?_cons_cons]
theorem Rst.tail {x : Op5} {r : List Op5} {N T K : Nat} (h : Rst (x :: r) N T K) : Rst r N T K := by
  have hx := wel_of (h.good x (List.mem_cons_self ..))
  refine ⟨fun o ho => h.good o (List.mem_cons_of_mem _ ho), fun o ho => h.fit o (List.mem_cons_of_mem _ ho), by have := h.txt; rw [txtS_cons] at this; omega, fun o ho => h.attr o (List.mem_cons_of_mem _ ho), by have := h.len; simp at this; omega, chain_tail h.chain, ?_, by have := h.base; rw [sumB_cons] at this; have := base_nn hx; omega, by have := h.res; rw [sumR_cons] at this; have := res_nn hx; omega⟩
  cases r with
  | nil => rfl
  | cons y r => rw [← lastP_cons]; exact h.last
theorem apart_same {x x' y : Op5} (hk : x'.k = x.k) (hA : x'.A = x.A) : apartB x' y = apartB x y := by unfold apartB; rw [hk, hA]
theorem plain_same {x x' : Op5} (hk : x'.k = x.k) (hA : x'.A = x.A) : plainR x' = plainR x := by unfold plainR; rw [hk, hA]
theorem Rst.part {x : Op5} {r : List Op5} {N T K : Nat} (h : Rst (x :: r) N T K) {n : Int} (h1 : 1 ≤ n) (h2 : ¬ len5 x ≤ n) : Rst (tl7 x n :: r) N T K := by
  have hx := h.good x (List.mem_cons_self ..)
  have c := cut7 hx h1 (by omega)
  have fx := h.fit x (List.mem_cons_self ..)
  have eb : baseO (tl7 x n) ≤ baseO x := by unfold baseO; rw [c.tk, c.tl]; split <;> omega
  have er : resO (tl7 x n) ≤ resO x := by unfold resO; rw [c.tk, c.tl]; split <;> omega
  refine ⟨fun o ho => ?_, fun o ho => ?_, ?_, fun o ho => ?_, by have := h.len; simp at this ⊢; omega, ?_, ?_, by have := h.base; rw [sumB_cons] at this ⊢; omega, by have := h.res; rw [sumR_cons] at this ⊢; omega⟩
  · rcases List.mem_cons.1 ho with rfl | ho
    · exact c.t0
    · exact h.good o (List.mem_cons_of_mem _ ho)
  · rcases List.mem_cons.1 ho with rfl | ho
    · exact ⟨by rw [c.tv]; exact fx.v, by rw [c.tA]; exact fx.A, by rw [c.tA]; exact fx.n⟩
    · exact h.fit o (List.mem_cons_of_mem _ ho)
  · have := h.txt
    have := c.tz
    rw [txtS_cons] at *
    omega
  · rcases List.mem_cons.1 ho with rfl | ho
    · rw [c.tA]; exact h.attr x (List.mem_cons_self ..)
    · exact h.attr o (List.mem_cons_of_mem _ ho)
  · cases r with
    | nil => rfl
    | cons y r =>
      have := h.chain
      unfold chainB at this ⊢
      rw [apart_same c.tk c.tA]; exact this
  · cases r with
    | nil =>
      have := h.last
      unfold lastP at this ⊢
      simp only [List.getLast?_singleton] at this ⊢
      rw [plain_same c.tk c.tA]; exact this
    | cons y r => rw [lastP_cons]; rw [← lastP_cons (x := x)]; exact h.last
theorem Rst.next {R : List Op5} {N T K : Nat} (h : Rst R N T K) {n : Int} (h1 : 1 ≤ n) : Rst (nx7 R n).2 N T K := by
  cases R with
  | nil => exact h
  | cons x r =>
    by_cases hn : len5 x ≤ n
    · rw [nx_all hn]; exact h.tail
    · rw [nx_part hn]; exact h.part h1 hn
theorem Rst.fitOne {x : Op5} {r : List Op5} {N T K : Nat} (h : Rst (x :: r) N T K) {n : Int} (h1 : 1 ≤ n) (h2 : ¬ len5 x ≤ n) : FitA (hd7 x n) := by
  have c := cut7 (h.good x (List.mem_cons_self ..)) h1 (by omega)
  have fx := h.fit x (List.mem_cons_self ..)
  exact ⟨by rw [c.hv]; exact fx.v, by rw [c.hA]; exact fx.A, by rw [c.hA]; exact fx.n⟩
/-- A piece that is taken is good, and has as many cells as asked for, or as there are. -/
theorem Rst.piece {R : List Op5} {N T K : Nat} (h : Rst R N T K) {n : Int} (h1 : 1 ≤ n) : opE (nx7 R n).1 = 0 ∧ FitA (nx7 R n).1 ∧ (nx7 R n).1.t.size ≤ T ∧ (nx7 R n).1.A.length ≤ K ∧ len5 (nx7 R n).1 = min n (left7 R) ∧ (nx7 R n).1.k = kind7 R := by
  cases R with
  | nil =>
    obtain ⟨p1, p2⟩ := pl_good (n := min n 1099511627776) (by omega) (by omega)
    exact ⟨p1, ⟨Nat.zero_le _, fun _ h => (by cases h), Nat.zero_le _⟩, Nat.zero_le _, Nat.zero_le _, p2, rfl⟩
  | cons x r =>
    have hx := h.good x (List.mem_cons_self ..)
    by_cases hn : len5 x ≤ n
    · rw [nx_all hn]
      exact ⟨hx, h.fit x (List.mem_cons_self ..), h.size x (List.mem_cons_self ..), h.attr x (List.mem_cons_self ..), by show len5 x = min n (len5 x); omega, rfl⟩
    · rw [nx_part hn]
      have c := cut7 hx h1 (by omega)
      exact ⟨c.h0, h.fitOne h1 hn, Nat.le_trans c.hz (h.size x (List.mem_cons_self ..)), by rw [c.hA]; exact h.attr x (List.mem_cons_self ..), by rw [c.hl]; show n = min n (len5 x); omega, c.hk⟩
/-- What has been taken and what is left have the units that were. -/
theorem Rst.units {R : List Op5} {N T K : Nat} (h : Rst R N T K) {n : Int} (h1 : 1 ≤ n) (h0 : R ≠ []) : units R = unitsO (nx7 R n).1 ++ units (nx7 R n).2 := by
  cases R with
  | nil => exact absurd rfl h0
  | cons x r =>
    by_cases hn : len5 x ≤ n
    · rw [nx_all hn]; rfl
    · rw [nx_part hn]
      have c := cut7 (h.good x (List.mem_cons_self ..)) h1 (by omega)
      show unitsO x ++ _ = unitsO (hd7 x n) ++ (unitsO (tl7 x n) ++ _)
      rw [c.un, List.append_assoc]
theorem Rst.wel {R : List Op5} {N T K : Nat} (h : Rst R N T K) : ∀ o ∈ R, Wel o := fun o ho => wel_of (h.good o ho)
theorem Rst.canon {R : List Op5} {N T K : Nat} (h : Rst R N T K) : canonL R = R := canon_self h.wel h.chain h.last
end Go.Proofs.YtalfdjglbbmjcaaGreatDoor

/- A loop over a function whose function writes memory of its own between two rounds, and asks for rounds at what it has laid. -/
namespace Go.Proofs.YtalfdjglbbmjcaaGreatDoor
open Go Go.RowKit
set_option linter.unusedVariables false

/-- What has turned is no cells, and lies at B or beyond. -/
structure Bk7 (B : Nat) (A A' : World) : Prop where
  os : A'.os = A.os
  tape : A'.tape = A.tape
  output : A'.output = A.output
  size : A.heap.size ≤ A'.heap.size
  kept : ∀ (k : Nat) (o : Obj), A.heap[k]? = some o → (k < B ∨ o.isCells = true) → A'.heap[k]? = some o
/-- What has turned is cells of certain types, at B or beyond. -/
structure It7 (T : TypeId → Prop) (B : Nat) (A A' : World) : Prop where
  os : A'.os = A.os
  tape : A'.tape = A.tape
  output : A'.output = A.output
  size : A.heap.size ≤ A'.heap.size
  kept : ∀ (k : Nat) (o : Obj), A.heap[k]? = some o → (k < B ∨ ¬ ∃ cs t fz, o = .cells cs t fz ∧ T t) → A'.heap[k]? = some o
/-- Cells of other types, and what lies below B, are as they were. -/
structure Tr7 (T : TypeId → Prop) (B : Nat) (A A' : World) : Prop where
  os : A'.os = A.os
  tape : A'.tape = A.tape
  output : A'.output = A.output
  size : A.heap.size ≤ A'.heap.size
  kept : ∀ (k : Nat) (o : Obj), A.heap[k]? = some o → (k < B ∨ ∃ cs t fz, o = .cells cs t fz ∧ ¬ T t) → A'.heap[k]? = some o
theorem Bk7.tr {T : TypeId → Prop} {B : Nat} {A A' : World} (h : Bk7 B A A') : Tr7 T B A A' :=
  ⟨h.os, h.tape, h.output, h.size, fun k o hk ho => h.kept k o hk (ho.imp id (fun ⟨cs, t, fz, e, _⟩ => by rw [e]; rfl))⟩
theorem It7.tr {T : TypeId → Prop} {B B' : Nat} {A A' : World} (h : It7 T B A A') (hB : B' ≤ B) : Tr7 T B' A A' :=
  ⟨h.os, h.tape, h.output, h.size, fun k o hk ho => h.kept k o hk (ho.elim (fun q => .inl (by omega)) (fun ⟨cs, t, fz, e, hn⟩ => .inr (fun ⟨cs', t', fz', e', ht⟩ => by rw [e] at e'; cases e'; exact hn ht)))⟩
theorem Bk7.refl (B : Nat) (A : World) : Bk7 B A A := ⟨rfl, rfl, rfl, Nat.le_refl _, fun _ _ h _ => h⟩
theorem Bk7.trans {B : Nat} {X Y Z : World} (h : Bk7 B X Y) (k : Bk7 B Y Z) : Bk7 B X Z :=
  ⟨k.os.trans h.os, k.tape.trans h.tape, k.output.trans h.output, Nat.le_trans h.size k.size, fun i o hi ho => k.kept i o (h.kept i o hi ho) ho⟩
theorem Tr7.refl (T : TypeId → Prop) (B : Nat) (A : World) : Tr7 T B A A := ⟨rfl, rfl, rfl, Nat.le_refl _, fun _ _ h _ => h⟩
theorem Tr7.trans {T : TypeId → Prop} {B : Nat} {X Y Z : World} (h : Tr7 T B X Y) (k : Tr7 T B Y Z) : Tr7 T B X Z :=
  ⟨k.os.trans h.os, k.tape.trans h.tape, k.output.trans h.output, Nat.le_trans h.size k.size, fun i o hi ho => k.kept i o (h.kept i o hi ho) ho⟩
theorem It7.refl (T : TypeId → Prop) (B : Nat) (A : World) : It7 T B A A := ⟨rfl, rfl, rfl, Nat.le_refl _, fun _ _ h _ => h⟩
theorem It7.trans {T : TypeId → Prop} {B : Nat} {X Y Z : World} (h : It7 T B X Y) (k : It7 T B Y Z) : It7 T B X Z :=
  ⟨k.os.trans h.os, k.tape.trans h.tape, k.output.trans h.output, Nat.le_trans h.size k.size, fun i o hi ho => k.kept i o (h.kept i o hi ho) ho⟩
theorem Bk7.put {B l : Nat} {W : World} {o : Obj} (o' : Obj) (hB : B ≤ l) (hl : W.heap[l]? = some o) (ho : o.isCells = false) : Bk7 B W (W.putObj l o') :=
  ⟨rfl, rfl, rfl, by simp, fun k x hk hx => by
    have : k ≠ l := fun e => by
      subst e; rw [hl] at hk; cases hk
      rcases hx with hx | hx
      · omega
      · simp [ho] at hx
    exact (World.putObj_heap_other this).trans hk⟩
theorem Bk7.alloc (B : Nat) (W : World) (o : Obj) : Bk7 B W (W.alloc o) :=
  ⟨rfl, rfl, rfl, by simp, fun k x hk _ => (Below.heap_alloc _ _ _ (Array.getElem?_eq_some_iff.1 hk).1).trans hk⟩
theorem Tr7.of_below {T : TypeId → Prop} {B : Nat} {A A' : World} (h : Below A.heap.size A A') : Tr7 T B A A' :=
  ⟨h.os, h.tape, h.output, h.size, fun k o hk _ => (h.block k (Array.getElem?_eq_some_iff.1 hk).1).trans hk⟩
theorem It7.of_below {T : TypeId → Prop} {B : Nat} {A A' : World} (h : Below A.heap.size A A') : It7 T B A A' :=
  ⟨h.os, h.tape, h.output, h.size, fun k o hk _ => (h.block k (Array.getElem?_eq_some_iff.1 hk).1).trans hk⟩
theorem Tr7.below {T : TypeId → Prop} {B : Nat} {A A' : World} (h : Tr7 T B A A') (hB : B ≤ A.heap.size) : Below B A A' :=
  ⟨h.os, h.tape, h.output, h.size, fun k hk => by
    have hl : k < A.heap.size := by omega
    rw [h.kept k A.heap[k] (Array.getElem?_eq_getElem hl) (.inl hk), Array.getElem?_eq_getElem hl]⟩

/-- The contract of a function to be ranged over: it asks for a round at x behind pre where G holds; the round keeps Kp. -/
def SeqG {α : Type} (F : Fence) (n : Nat) (P : Program) (g : Nat) (lb : Array Value) (encs : α → Array Value) (T : TypeId → Prop)
    (G : List α → α → World → Prop) (Kp : List α → α → World → World → Prop) (S : List α → Prop) (w0 : World) : Prop :=
  ∀ (l : Nat) (J Jx : List α → World → Prop) (W : World), Below w0.heap.size w0 W →
    (∀ s A A', J s A → It7 T W.heap.size A A' → J s A') → (∀ s A A', Jx s A → It7 T W.heap.size A A' → Jx s A') →
    (∀ pre x W1, J pre W1 → G pre x W1 → YieldAt F (n - 1) P l (encs x) W1 fun e W' =>
      (e = .returned (.bool true) ∧ J (pre ++ [x]) W' ∧ Kp pre x W1 W') ∨ (e = .returned (.bool false) ∧ Jx (pre ++ [x]) W')) →
    J [] W →
    CallsIn F n P g (#[.func (.yield l) #[] #[]] ++ lb) W fun e W' => (∃ v, e = .returned v) ∧ ((∃ xs, S xs ∧ J xs W') ∨ (∃ pre, Jx pre W'))

/-- How a round's body may be left. -/
def gPost {α : Type} (B : Nat) (Kp : List α → α → World → World → Prop) (I : List α → World → Prop) (Ix : Code → List α → World → Prop) (pre : List α) (x : α) (W : World) : Exit → Act → World → Prop
  | .normal, _, W' => KeepsFrom B W W' ∧ Kp pre x W W' ∧ I (pre ++ [x]) W'
  | .ret, _, W' => KeepsFrom B W W' ∧ Ix .ret (pre ++ [x]) W'
  | .exit id, _, W' => KeepsFrom B W W' ∧ Ix (.exit id) (pre ++ [x]) W'
  | .goto t, _, W' => KeepsFrom B W W' ∧ Ix (.goto t) (pre ++ [x]) W'
  | .panic _, _, _ => False
  | .outgrown, _, _ => False

variable {F : Fence} {n : Nat} {P : Program}

theorem wpIn_rangeFunc_G {α : Type} {g : Operand} {ps : Array Tmp} {assign body : Code} {Q : Exit → Act → World → Prop} {a : Act} {w : World}
    (hro : F.round = none) (h1 : 1 ≤ n) {gf : Nat} {lb : Array Value} (hg : a.eval g = .func (.func gf) #[] lb) (hFg : F.fn gf) (eg : ∀ args w, (callFunc gf args).run P w = .ok (.enter gf args) w)
    {encs : α → Array Value} {T : TypeId → Prop} {G : List α → α → World → Prop} {Kp : List α → α → World → World → Prop} {S : List α → Prop} {w0 : World}
    (hseq : SeqG F (n - 1) P gf lb encs T G Kp S w0) (hb0 : Below w0.heap.size w0 w) (hps : ∀ x, (encs x).size = ps.size)
    (hG : ∀ pre x A A', G pre x A → Bk7 w.heap.size A A' → G pre x A')
    (hK : ∀ pre x A A' B B', Bk7 w.heap.size A A' → Kp pre x A' B → Bk7 w.heap.size B B' → Kp pre x A B')
    (I : List α → World → Prop) (Ix : Code → List α → World → Prop)
    (hI : ∀ s A A', I s A → Tr7 T w.heap.size A A' → I s A') (hIx : ∀ c s A A', Ix c s A → Tr7 T w.heap.size A A' → Ix c s A') (h0 : I [] w) (a₁ : α → Act)
    (hassign : ∀ (l : Nat) (x : α) (W : World) (K : Act → World → Prop), K (a₁ x) W →
      assign.wpIn (F.inRound l) (n - 1 - 1) P (Exit.then K (fun _ _ _ => False)) { tmps := (ps.zip (encs x)).foldl (fun t (p, v) => t.setIfInBounds p v) a.tmps, defers := [] } W)
    (hbody : ∀ (l : Nat) (pre : List α) (x : α) (W : World), I pre W → G pre x W → body.wpIn (F.inRound l) (n - 1 - 1) P (gPost w.heap.size Kp I Ix pre x W) (a₁ x) W)
    (hdone : ∀ (D : Nat) (xs : List α) (W : World), w.heap.size ≤ D → S xs → I xs W → W.heap[D]? = some (.deferred (some [])) → Q .normal { a with defers := { target := .collected D, args := #[] } :: a.defers } W)
    (hstop : ∀ (D : Nat) (c : Code) (pre : List α) (W : World), w.heap.size ≤ D → Ix c pre W → W.heap[D]? = some (.deferred (some [])) → c.wpIn F n P Q { a with defers := { target := .collected D, args := #[] } :: a.defers } W) :
    (Code.rangeFunc g ps assign body).wpIn F n P Q a w := by
  refine wpIn_rangeFunc fun fn hfn => ?_
  rw [hro]
  obtain ⟨rc, hrc⟩ : ∃ rc : LoopState → Option Code → Loop, ∀ s p, rc s p = { state := s, pending := p, fn, tmps := a.tmps, params := ps, assign, body, defers := w.heap.size } := ⟨_, fun _ _ => rfl⟩
  -- the record and the block for deferred calls
  obtain ⟨L, hL⟩ : ∃ L : Option Obj → World → Prop, ∀ o W, L o W = (W.heap[w.heap.size + 1]? = o ∧ W.heap[w.heap.size]? = some (.deferred (some []))) := ⟨_, fun _ _ => rfl⟩
  obtain ⟨W1, hW1⟩ : ∃ W1, (w.alloc (.deferred (some []))).alloc (.loop (rc .ready none)) = W1 := ⟨_, rfl⟩
  have bk1 : Bk7 w.heap.size w W1 := by rw [← hW1]; exact (Bk7.alloc _ _ _).trans (Bk7.alloc _ _ _)
  have hL1 : L (some (.loop (rc .ready none))) W1 := by
    rw [hL, ← hW1]
    have e := World.alloc_heap_new (w.alloc (.deferred (some []))) (.loop (rc .ready none))
    rw [World.size_alloc] at e
    exact ⟨e, (Below.heap_alloc _ _ _ (by simp)).trans (World.alloc_heap_new w _)⟩
  have put : ∀ (o : Obj) (r : Loop) (W : World), L (some (.loop r)) W → L (some o) (W.putObj (w.heap.size + 1) o) ∧ Bk7 w.heap.size W (W.putObj (w.heap.size + 1) o) := fun o r W h => by
    rw [hL] at h ⊢
    exact ⟨⟨World.putObj_heap_same (Array.getElem?_eq_some_iff.1 h.1).1, (World.putObj_heap_other (by omega)).trans h.2⟩, Bk7.put _ (by omega) h.1 rfl⟩
  have trL : ∀ (r : Loop) (A A' : World), L (some (.loop r)) A → It7 T W1.heap.size A A' → L (some (.loop r)) A' := fun r A A' h k => by
    rw [hL] at h ⊢
    exact ⟨k.kept _ _ h.1 (.inr (fun ⟨_, _, _, e, _⟩ => by cases e)), k.kept _ _ h.2 (.inr (fun ⟨_, _, _, e, _⟩ => by cases e))⟩
  have hz : w.heap.size ≤ W1.heap.size := bk1.size
  refine ⟨w.heap.size + 1, [{ target := .collected w.heap.size, args := #[] }], W1, { target := .fn (.func gf) lb, args := #[.func (.yield (w.heap.size + 1)) #[] #[]] }, W1, gf,
    #[.func (.yield (w.heap.size + 1)) #[] #[]] ++ lb, W1, ?_, ?_, ?_, ?_, fun _ => h1, ?_⟩
  · rw [← hW1, hrc]; exact run_enterLoop_outer _ _ _ _ _
  · simp only [resolve, hg]
    simp [go_sem]
  · intro f' hf'; simp [Target.leads] at hf'; subst hf'; exact hFg
  · simp [invoke, go_sem, eg]
  · refine (hseq (w.heap.size + 1) (fun pre W => I pre W ∧ L (some (.loop (rc .ready none))) W) (fun pre W => ∃ c, Ix c pre W ∧ L (some (.loop (rc .done (some c)))) W) W1
      (hb0.trans ((Tr7.below (bk1.tr (T := T)) (Nat.le_refl _)).mono hb0.size))
      (fun s A A' h k => ⟨hI s A A' h.1 (k.tr hz), trL _ _ _ h.2 k⟩) (fun s A A' ⟨c, h, h'⟩ k => ⟨c, hIx c s A A' h (k.tr hz), trL _ _ _ h' k⟩) ?_ ⟨hI _ _ _ h0 bk1.tr, hL1⟩).mono ?_
    · rintro pre x W ⟨hi, hl⟩ hg
      obtain ⟨q1, q2⟩ := put (.loop (rc .busy none)) _ W hl
      have hlp := (show L (some (.loop (rc .ready none))) W from hl)
      rw [hL] at hlp
      have hy := run_yield (P := P) (args := encs x) hlp.1 (by rw [hrc]; exact hps x)
      rw [hrc] at hy
      refine ⟨fn, _, assign, body, hy, roundIn_of_wpIn hfn (hassign _ x W _ ⟨_, run_beginRound hlp.1 (by rw [hrc]), ?_⟩)⟩
      have eb : ({ rc .ready none with state := LoopState.busy } : Loop) = rc .busy none := by rw [hrc, hrc]
      rw [eb]
      refine wpIn_mono (hbody _ pre x _ (hI _ _ _ hi q2.tr) (hG _ _ _ _ hg q2)) ?_
      have fin : ∀ (jump : Option Code) (W3 : World), KeepsFrom w.heap.size (W.putObj (w.heap.size + 1) (.loop (rc .busy none))) W3 →
          (Instr.endRound (w.heap.size + 1) jump).run P W3 = .ok (.bool jump.isNone) (W3.putObj (w.heap.size + 1) (.loop (rc (if jump.isNone then .ready else .done) jump))) ∧
          L (some (.loop (rc (if jump.isNone then .ready else .done) jump))) (W3.putObj (w.heap.size + 1) (.loop (rc (if jump.isNone then .ready else .done) jump))) ∧
          Bk7 w.heap.size W3 (W3.putObj (w.heap.size + 1) (.loop (rc (if jump.isNone then .ready else .done) jump))) := fun jump W3 k3 => by
        have l3 : L (some (.loop (rc .busy none))) W3 := by
          rw [hL] at q1 ⊢
          exact ⟨k3.same _ _ (by omega) q1.1 rfl, k3.same _ _ (Nat.le_refl _) q1.2 rfl⟩
        obtain ⟨p1, p2⟩ := put (.loop (rc (if jump.isNone then .ready else .done) jump)) _ W3 l3
        rw [hL] at l3
        have e := run_endRound (P := P) jump l3.1
        rw [hrc] at e
        exact ⟨by rw [hrc]; exact e, p1, p2⟩
      rintro e a3 W3 hp
      cases e with
      | normal =>
        obtain ⟨k3, kp, hi3⟩ := hp
        obtain ⟨r1, r2, r3⟩ := fin none W3 k3
        exact ⟨_, _, r1, .inl ⟨rfl, ⟨hI _ _ _ hi3 r3.tr, r2⟩, hK _ _ _ _ _ _ q2 kp r3⟩⟩
      | ret =>
        obtain ⟨k3, hi3⟩ := hp
        obtain ⟨r1, r2, r3⟩ := fin (some .ret) W3 k3
        exact ⟨_, _, r1, .inr ⟨rfl, _, hIx _ _ _ _ hi3 r3.tr, r2⟩⟩
      | exit id =>
        obtain ⟨k3, hi3⟩ := hp
        obtain ⟨r1, r2, r3⟩ := fin (some (.exit id)) W3 k3
        exact ⟨_, _, r1, .inr ⟨rfl, _, hIx _ _ _ _ hi3 r3.tr, r2⟩⟩
      | goto t =>
        obtain ⟨k3, hi3⟩ := hp
        obtain ⟨r1, r2, r3⟩ := fin (some (.goto t)) W3 k3
        exact ⟨_, _, r1, .inr ⟨rfl, _, hIx _ _ _ _ hi3 r3.tr, r2⟩⟩
      | panic ch => exact hp.elim
      | outgrown => exact hp.elim
    · rintro e W2 ⟨⟨v, rfl⟩, (⟨xs, hS, hi, hl⟩ | ⟨pre, c, hi, hl⟩)⟩
      · obtain ⟨p1, p2⟩ := put (.loop (rc .exhausted none)) _ W2 hl
        rw [hL] at hl p1
        have r := run_endLoop (P := P) hl.1 (by rw [hrc]; simp)
        rw [hrc] at r
        rw [hrc] at p1 p2
        exact ⟨none, _, r, hdone _ xs _ (Nat.le_refl _) hS (hI _ _ _ hi p2.tr) p1.2⟩
      · obtain ⟨p1, p2⟩ := put (.loop (rc .exhausted (some c))) _ W2 hl
        rw [hL] at hl p1
        have r := run_endLoop (P := P) hl.1 (by rw [hrc]; simp)
        rw [hrc] at r
        rw [hrc] at p1 p2
        exact ⟨some c, _, r, hstop _ c pre _ (Nat.le_refl _) (hIx _ _ _ _ hi p2.tr) p1.2⟩
end Go.Proofs.YtalfdjglbbmjcaaGreatDoor
