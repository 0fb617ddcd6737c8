/- What the methods Op of pieces answer. Operations as new memory: appends of rows of operations; vellumlaw05.copied. ops.Same and the document's Same: two lists, one by one. build: what a delta tells: Count, Ops, Pieces, Same. build: own and Pieces: a delta's pieces, each with a list of its own. A Walker in memory: its own cell, the row of what is left. Calls of a piece's methods through the interface; the Walker's small calls. What the reference of layer 1 answers: Scalar, Encode (and what its decoder needs: places, numbers, owned rows of numbers). What the reference's first answers: the scalar with whose encoding a text begins at a place. What the reference's first and decode answer. What the reference's decode, Breaks, List and Check answer. The order of Plains: a total order. What the reference of layer 2 answers: text, Check, Compare. utf8.ValidString at this program: whether a text breaks nowhere. -/
import Derived.Test.YthfpmhnnjjikcaaGreatDoorMgd
import Derived.Test.YthfpmhnnjjikcaaGreatDoorMgb
import Derived.Test.YthfpmhnnjjikcaaGreatDoorMga
import Derived.Deep.DeepCutAuto
import Derived.Test.YthfpmhnnjjikcaaGreatDoorSw
import Derived.Deep.RegionHeld3
import Derived.Test.YthfpmhnnjjikcaaGreatDoorSc
import Derived.Test.YthfpmhnnjjikcaaGreatDoorOwn
import Derived.Test.YthfpmhnnjjikcaaGreatDoorPos
import Derived.Laws.BytesArg
import Derived.Laws.RangeString
import Derived.Laws.RangeAny
import Derived.Deep.RegionWith
import Derived.PlainAid
import Derived.Handy
import Derived.Lib.QuietBelow
import Derived.BigQuiet
import Derived.OwnWalk
import Derived.Laws.AppendOwn
import Derived.Test.YthfpmhnnjjikcaaGreatDoorVs
import Derived.Shelf.Unicode.ValidAny
import Derived.Test.YthfpmhnnjjikcaaGreatDoorUtf

/- What the methods Op of pieces answer. -/
namespace Go.Proofs.YthfpmhnnjjikcaaGreatDoor
open Go Go.RowKit Go.Lib
set_option linter.unusedVariables false

set_option maxHeartbeats 1000000 in
set_option maxRecDepth 100000 in
theorem retOp (s : Value) (A : List A2) (n : Int) (w : World) (hR : RN w s A) (hl : A.length ≤ 2097152) :
    Calls Tryz.prog 193 #[.agg #[s, .int .i64 n]] w fun r w' => ∃ v', r = .returned (opV ⟨3, ⟨#[]⟩, z0, n, []⟩ v') ∧ OwnA w' w.heap.size v' A ∧ Below w.heap.size w w' := by
  have HC : Hid (∀ W, Below w.heap.size w W → Calls Tryz.prog 123 #[.agg #[s]] W fun r w' => ∃ v', r = .returned v' ∧ OwnA w' W.heap.size v' A ∧ Below W.heap.size W w') := fun W hW => attributes_any s A W (hR.row.below hW) hR.nz hl
  obtain ⟨p, l, cc, rfl⟩ : ∃ p l c, s = .slice p l c := by obtain ⟨p, c, h, _⟩ := hR.row.val; exact ⟨_, _, _, h⟩
  clear hR hl
  obtain ⟨W1, hW1⟩ : ∃ W, W = (w.alloc (.cells #[.slice p l cc, .int .i64 n] 160)).alloc (.cells #[.int .i64 0, .string ⟨#[]⟩, .int .i64 0, .int .i64 0, .string ⟨#[]⟩, .int .i64 0, .slice none 0 0] 33) := ⟨_, rfl⟩
  have b0 : Below w.heap.size w W1 := by rw [hW1]; exact ((Below.refl _ _).alloc (Nat.le_refl _) _).alloc (by simp) _
  have e0 : W1.cell? ⟨w.heap.size, 0, none⟩ = some (.slice p l cc) := by rw [hW1]; simp
  have e1 : W1.cell? ⟨w.heap.size, 1, none⟩ = some (.int .i64 n) := by rw [hW1]; simp
  have hB : BoxO W1 (w.heap.size + 1) opZ nilS ∧ FrO W1 (w.heap.size + 1) := by
    have q1 := BoxO.new (w.alloc (.cells #[.slice p l cc, .int .i64 n] 160)) opZ nilS
    have q2 := FrO.new (w.alloc (.cells #[.slice p l cc, .int .i64 n] 160)) opZ nilS
    rw [World.size_alloc] at q1 q2
    rw [hW1]
    exact ⟨q1, q2⟩
  go_enter Tryz.func193, Tryz.ntmps193
  go_upto_region 1 with fail
  rw [← hW1]
  clear hW1
  have HB : Hid (BoxO W1.drew (w.heap.size + 1) opZ nilS ∧ FrO W1.drew (w.heap.size + 1)) := ⟨hB.1.drew, hB.2.drew⟩
  have b1 : Below w.heap.size w W1.drew := b0.drew
  have hz1 : w.heap.size ≤ W1.drew.heap.size := b1.size
  have hz2 : w.heap.size + 1 < W1.drew.heap.size := lt_of_cell hB.1.d0
  have cA := HC.out W1.drew b1
  have n1 : w.heap.size ≠ w.heap.size + 1 := by omega
  have hs1 : w.heap.size ≤ w.heap.size + 1 := by omega
  have HU : Hid (∀ W : World, (∀ i, W.cell? ⟨w.heap.size, i, none⟩ = W1.drew.cell? ⟨w.heap.size, i, none⟩) → W.cell? ⟨w.heap.size, 0, none⟩ = some (.slice p l cc) ∧ W.cell? ⟨w.heap.size, 1, none⟩ = some (.int .i64 n)) := fun W h => ⟨(h 0).trans e0, (h 1).trans e1⟩
  have M0 := HU.out W1.drew (fun _ => rfl)
  have HW : Hid (∀ W, Below W1.drew.heap.size W1.drew W → ∀ i, W.cell? ⟨w.heap.size, i, none⟩ = W1.drew.cell? ⟨w.heap.size, i, none⟩) := fun W h i => World.cell?_of_block (a := ⟨w.heap.size, i, none⟩) (h.block w.heap.size (by omega))
  have HS : Hid (∀ W, Below W1.drew.heap.size W1.drew W → (∀ u0 u1 u2 u3 u4 u5 u6 : Value, ((((((((W.setCell ⟨w.heap.size + 1, 0, none⟩ u0).setCell ⟨w.heap.size + 1, 1, none⟩ u1).setCell ⟨w.heap.size + 1, 2, none⟩ u2).setCell ⟨w.heap.size + 1, 3, none⟩ u3).setCell ⟨w.heap.size + 1, 4, none⟩ u4).setCell ⟨w.heap.size + 1, 5, none⟩ u5).setCell ⟨w.heap.size + 1, 6, none⟩ u6).cell? ⟨w.heap.size, 0, none⟩ = some (.slice p l cc) ∧ (((((((W.setCell ⟨w.heap.size + 1, 0, none⟩ u0).setCell ⟨w.heap.size + 1, 1, none⟩ u1).setCell ⟨w.heap.size + 1, 2, none⟩ u2).setCell ⟨w.heap.size + 1, 3, none⟩ u3).setCell ⟨w.heap.size + 1, 4, none⟩ u4).setCell ⟨w.heap.size + 1, 5, none⟩ u5).setCell ⟨w.heap.size + 1, 6, none⟩ u6).cell? ⟨w.heap.size, 1, none⟩ = some (.int .i64 n)) ∧ Below w.heap.size w (((((((W.setCell ⟨w.heap.size + 1, 0, none⟩ u0).setCell ⟨w.heap.size + 1, 1, none⟩ u1).setCell ⟨w.heap.size + 1, 2, none⟩ u2).setCell ⟨w.heap.size + 1, 3, none⟩ u3).setCell ⟨w.heap.size + 1, 4, none⟩ u4).setCell ⟨w.heap.size + 1, 5, none⟩ u5).setCell ⟨w.heap.size + 1, 6, none⟩ u6))) := fun W h u0 u1 u2 u3 u4 u5 u6 => ⟨HU.out _ (fun i => (cell_set7 (B := w.heap.size + 1) (j := i) W n1 u0 u1 u2 u3 u4 u5 u6).trans (HW.out W h i)), below_set7 (B := w.heap.size + 1) (b1.trans (h.mono hz1)) hs1 u0 u1 u2 u3 u4 u5 u6⟩
  clear hB e0 e1 b0
  go_region_held3 (fun w' => (w'.cell? ⟨w.heap.size, 0, none⟩ = some (.slice p l cc) ∧ w'.cell? ⟨w.heap.size, 1, none⟩ = some (.int .i64 n)) ∧ Below w.heap.size w w')
    (first | exact ⟨by with_reducible first | assumption | exact M0 | exact MS _ _ _ _ _ _ _, by with_reducible first | assumption | exact b1 | exact BS _ _ _ _ _ _ _⟩)
    (first
      | (go_at_call 123; refine cA.mono ?_; rintro r wA ⟨vA, rfl, oA, hA⟩; obtain ⟨pA, cA', rfl⟩ := own_slice oA; have HA' := hA; have bA := b1.trans (HA'.mono hz1); have mA := HU.out wA (HW.out wA HA'); have OA : Hid (OwnA wA W1.drew.heap.size (.slice pA A.length cA') A) := oA; clear oA; obtain ⟨q0, q1, q2, q3, q4, q5, q6⟩ := HB.out.1.below HA'; obtain ⟨h0, h1, h2, h3, h4, h5, h6⟩ := HB.out.2.below HB.out.1 HA'; simp only [z0] at q0 q1 q2 q3 q4 q5 q6; have MS := fun u0 u1 u2 u3 u4 u5 u6 => (HS.out wA HA' u0 u1 u2 u3 u4 u5 u6).1; have BS := fun u0 u1 u2 u3 u4 u5 u6 => (HS.out wA HA' u0 u1 u2 u3 u4 u5 u6).2))
  · have same : ∀ (u0 u1 u2 u3 u4 u5 u6 : Value) (v : Value) (hv : OwnA wA W1.drew.heap.size v A), OwnA (((((((wA.setCell ⟨w.heap.size + 1, 0, none⟩ u0).setCell ⟨w.heap.size + 1, 1, none⟩ u1).setCell ⟨w.heap.size + 1, 2, none⟩ u2).setCell ⟨w.heap.size + 1, 3, none⟩ u3).setCell ⟨w.heap.size + 1, 4, none⟩ u4).setCell ⟨w.heap.size + 1, 5, none⟩ u5).setCell ⟨w.heap.size + 1, 6, none⟩ u6) w.heap.size v A := fun u0 u1 u2 u3 u4 u5 u6 v hv =>
      own_weaken (owns_same hv fun k hk => by
        have := (owns_block hv k hk).1
        exact heap_set7 _ (by omega) _ _ _ _ _ _ _) hz1
    go_wp2
    exact bodyPost_ret (v := opV ⟨3, ⟨#[]⟩, z0, n, []⟩ (.slice pA A.length cA')) (by simp [results, Tryz.results193, go_sem, z0, q0, q1, q2, q3, q4, q5, q6]) rfl ⟨_, rfl, same _ _ _ _ _ _ _ _ OA.out, BS _ _ _ _ _ _ _⟩

set_option maxHeartbeats 1000000 in
theorem delOp (n : Int) (w : World) :
    Calls Tryz.prog 191 #[.agg #[.int .i64 n]] w fun r w' => r = .returned (opV ⟨4, ⟨#[]⟩, z0, n, []⟩ (.slice none 0 0)) ∧ Below w.heap.size w w' := by
  go_enter Tryz.func191, Tryz.ntmps191
  go_wp2
  exact bodyPost_ret (v := opV ⟨4, ⟨#[]⟩, z0, n, []⟩ (.slice none 0 0)) (by simp [results, Tryz.results191, go_sem, z0]) rfl ⟨rfl, by go_grown⟩
theorem embOp_any (s : Value) (A : List A2) (t : ByteArray) (v : P3) (w : World) (hv : chkP v = 0) (hR : RN w s A) (hl : A.length ≤ 2097152) :
    Calls Tryz.prog 197 #[.agg #[s, .string t, valP v]] w fun r w' => ∃ v', r = .returned (opV ⟨2, t, v, 0, []⟩ v') ∧ OwnA w' w.heap.size v' A ∧ Below w.heap.size w w' := by
  obtain ⟨x, z, u⟩ := v
  rcases good_cases hv with ⟨rfl, rfl, rfl⟩ | ⟨rfl, rfl, rfl⟩ | ⟨rfl, rfl, rfl⟩ | ⟨rfl, rfl⟩ | ⟨rfl, rfl, _⟩
  · exact embOp_null s A t w hR hl
  · exact embOp_flag0 s A t w hR hl
  · exact embOp_flag1 s A t w hR hl
  · exact embOp_num z s A t w hR hl
  · exact embOp_text u s A t w hR hl
theorem opQ_1 {e : Op5} (hg : opE e = 0) (hk : e.k = 1) (s : Value) (w : World) (hR : RN w s e.A) (hl : e.A.length ≤ 2097152) :
    Calls Tryz.prog 195 #[.agg #[s, .string e.t, .int .i64 (scs e.t.data.toList).length]] w fun r w' => ∃ v', r = .returned (opV e v') ∧ OwnA w' w.heap.size v' e.A ∧ Below w.heap.size w w' := by
  refine (insOp s e.A e.t _ w hR hl).mono fun r w' ⟨v', h1, h2, h3⟩ => ⟨v', ?_, h2, h3⟩
  rw [h1]
  rcases op_good hg with ⟨hi, _⟩ | ⟨_, _, h⟩ | ⟨_, _, h⟩
  · have hc := hi.count
    rcases hi.kind with ⟨_, hv⟩ | ⟨h2, _⟩
    · obtain ⟨k, t, v, c, A⟩ := e
      simp only at hk hv hc
      subst hk hv hc
      rfl
    · omega
  · omega
  · omega
theorem opQ_2 {e : Op5} (hg : opE e = 0) (hk : e.k = 2) (s : Value) (w : World) (hR : RN w s e.A) (hl : e.A.length ≤ 2097152) :
    Calls Tryz.prog 197 #[.agg #[s, .string e.t, valP e.v]] w fun r w' => ∃ v', r = .returned (opV e v') ∧ OwnA w' w.heap.size v' e.A ∧ Below w.heap.size w w' := by
  rcases op_good hg with ⟨hi, _⟩ | ⟨_, _, h⟩ | ⟨_, _, h⟩
  · refine (embOp_any s e.A e.t e.v w hi.val hR hl).mono fun r w' ⟨v', h1, h2, h3⟩ => ⟨v', ?_, h2, h3⟩
    rw [h1]
    have hc := hi.count
    obtain ⟨k, t, v, c, A⟩ := e
    simp only at hk hc
    subst hk hc
    rfl
  · omega
  · omega
theorem cnt_flds {e : Op5} (h : Cnt e) : e.t = ⟨#[]⟩ ∧ e.v = z0 := by
  refine ⟨?_, h.val⟩
  have := h.text
  have h0 : e.t.toList = [] := List.isEmpty_iff.1 this
  rw [toList_data] at h0
  exact ByteArray.ext (Array.ext' h0)
theorem opQ_3 {e : Op5} (hg : opE e = 0) (hk : e.k = 3) (s : Value) (w : World) (hR : RN w s e.A) (hl : e.A.length ≤ 2097152) :
    Calls Tryz.prog 193 #[.agg #[s, .int .i64 e.c]] w fun r w' => ∃ v', r = .returned (opV e v') ∧ OwnA w' w.heap.size v' e.A ∧ Below w.heap.size w w' := by
  refine (retOp s e.A e.c w hR hl).mono fun r w' ⟨v', h1, h2, h3⟩ => ⟨v', ?_, h2, h3⟩
  rw [h1]
  rcases op_good hg with ⟨_, h⟩ | ⟨hc, _, _⟩ | ⟨_, _, h⟩
  · omega
  · obtain ⟨ht, hv⟩ := cnt_flds hc
    obtain ⟨k, t, v, c, A⟩ := e
    simp only at hk ht hv
    subst hk ht hv
    rfl
  · omega
theorem opQ_4 {e : Op5} (hg : opE e = 0) (hk : e.k = 4) (w : World) :
    Calls Tryz.prog 191 #[.agg #[.int .i64 e.c]] w fun r w' => ∃ v', r = .returned (opV e v') ∧ OwnA w' w.heap.size v' e.A ∧ Below w.heap.size w w' := by
  refine (delOp e.c w).mono fun r w' ⟨h1, h3⟩ => ⟨.slice none 0 0, ?_, ?_, h3⟩
  · rw [h1]
    rcases op_good hg with ⟨_, h⟩ | ⟨_, _, h⟩ | ⟨hc, _, _⟩
    · omega
    · omega
    · obtain ⟨ht, hv⟩ := cnt_flds hc
      obtain ⟨k, t, v, c, A⟩ := e
      simp only at hk ht hv
      subst hk ht hv
      rfl
  · rw [drop_A hg hk]; exact ⟨rfl, Or.inl ⟨rfl, rfl⟩⟩
end Go.Proofs.YthfpmhnnjjikcaaGreatDoor

/- Operations as new memory: appends of rows of operations; vellumlaw05.copied. -/
namespace Go.Proofs.YthfpmhnnjjikcaaGreatDoor
open Go Go.RowKit Go.Lib
set_option linter.unusedVariables false

theorem cellsO_inv : ∀ (L : List OV) (j : Nat) (u : Value), (cellsO L)[j]? = some u → ∃ i d, L[i]? = some d ∧ ((j = i * 7 ∧ u = .int .i64 d.1) ∨ (j = i * 7 + 1 ∧ u = .string d.2.1) ∨ (j = i * 7 + 2 ∧ u = .int .i64 d.2.2.1.1) ∨ (j = i * 7 + 3 ∧ u = .int .i64 d.2.2.1.2.1) ∨ (j = i * 7 + 4 ∧ u = .string d.2.2.1.2.2) ∨ (j = i * 7 + 5 ∧ u = .int .i64 d.2.2.2.1) ∨ (j = i * 7 + 6 ∧ u = slV d.2.2.2.2))
  | [], j, u, h => by simp [cellsO] at h
  | p :: r, 0, u, h => ⟨0, p, rfl, Or.inl ⟨rfl, by simpa [cellsO] using h.symm⟩⟩
  | p :: r, 1, u, h => ⟨0, p, rfl, Or.inr (Or.inl ⟨rfl, by simpa [cellsO] using h.symm⟩)⟩
  | p :: r, 2, u, h => ⟨0, p, rfl, Or.inr (Or.inr (Or.inl ⟨rfl, by simpa [cellsO] using h.symm⟩))⟩
  | p :: r, 3, u, h => ⟨0, p, rfl, Or.inr (Or.inr (Or.inr (Or.inl ⟨rfl, by simpa [cellsO] using h.symm⟩)))⟩
  | p :: r, 4, u, h => ⟨0, p, rfl, Or.inr (Or.inr (Or.inr (Or.inr (Or.inl ⟨rfl, by simpa [cellsO] using h.symm⟩))))⟩
  | p :: r, 5, u, h => ⟨0, p, rfl, Or.inr (Or.inr (Or.inr (Or.inr (Or.inr (Or.inl ⟨rfl, by simpa [cellsO] using h.symm⟩)))))⟩
  | p :: r, 6, u, h => ⟨0, p, rfl, Or.inr (Or.inr (Or.inr (Or.inr (Or.inr (Or.inr ⟨rfl, by simpa [cellsO] using h.symm⟩)))))⟩
  | p :: r, j + 7, u, h => by
    obtain ⟨i, q, hq, hh⟩ := cellsO_inv r j u (by simpa [cellsO] using h)
    refine ⟨i + 1, q, by simpa using hq, ?_⟩
    rcases hh with ⟨h1, h2⟩ | ⟨h1, h2⟩ | ⟨h1, h2⟩ | ⟨h1, h2⟩ | ⟨h1, h2⟩ | ⟨h1, h2⟩ | ⟨h1, h2⟩
    · exact Or.inl ⟨by omega, h2⟩
    · exact Or.inr (Or.inl ⟨by omega, h2⟩)
    · exact Or.inr (Or.inr (Or.inl ⟨by omega, h2⟩))
    · exact Or.inr (Or.inr (Or.inr (Or.inl ⟨by omega, h2⟩)))
    · exact Or.inr (Or.inr (Or.inr (Or.inr (Or.inl ⟨by omega, h2⟩))))
    · exact Or.inr (Or.inr (Or.inr (Or.inr (Or.inr (Or.inl ⟨by omega, h2⟩)))))
    · exact Or.inr (Or.inr (Or.inr (Or.inr (Or.inr (Or.inr ⟨by omega, h2⟩)))))
/-- append(own, a row of operations ...). -/
theorem wpList_append_rowO {w : World} {ops : Array Oper} {rest : List Oper} {o : Oper} {a : Act} {Q : Exit → Act → World → Prop} (hgd : o.guard = none) (s x : Operand)
    (ho : o.op = .call { callee := .builtin .append, args := #[s, x], argTypes := #[26, 26] })
    (base : Nat) (v : Value) (L : List OV) (hs : a.eval s = v) (hown : OwnO w base v L)
    (u : Value) (M : List OV) (hx : a.eval x = u) (hM : RowO w u M)
    (h63 : L.length + M.length ≤ 33554432) (hbase : base ≤ w.heap.size)
    (h : ∀ v' w', OwnO w' base v' (L ++ M) → w.grownBy w' v.ownBlock → wpList Tryz.prog ops Q rest (a.put o.dst v') w') : wpList Tryz.prog ops Q (o :: rest) a w := by
  obtain ⟨i, z, hi, hz, hz1, hz2, hz3⟩ := infoOp
  obtain ⟨p, cap, rfl, hcap, hnz, hc⟩ := hM
  cases p with
  | none =>
    have hM0 : M = [] := List.eq_nil_of_length_eq_zero (by have := hnz rfl; omega)
    have hcap0 := hnz rfl
    subst hM0
    subst hcap0
    exact wpList_append_own_none hgd s x 26 ho base 33 i 7 Tryz.underlying26 hi v L.length (cellsO L) hs hown hx (h v w (by simpa using hown) ⟨rfl, rfl, rfl, Nat.le_refl _, fun _ _ _ => rfl⟩)
  | some ad =>
    refine wpList_append_own _ hgd s x _ ho base 33 i z 7 88 Tryz.underlying26 hi hz hz1 hz2 hz3 (by decide) v L.length (cellsO L) hs hown ad M.length cap (cellsO M) hx (cellsO_len M) (fun j y hj => ?_) (cellsO_one _) (by unfold maxLen; omega) (by omega) hbase (fun v' w' h1 h2 _ => h v' w' ?_ h2)
    · obtain ⟨i, d, hd, hh⟩ := cellsO_inv M j y hj
      obtain ⟨b, off, hp, h0, h1, h2, h3, h4, h5, h6⟩ := hc i d hd
      obtain rfl := Option.some.inj hp
      rw [Addr.add_lit]
      rcases hh with ⟨rfl, rfl⟩ | ⟨rfl, rfl⟩ | ⟨rfl, rfl⟩ | ⟨rfl, rfl⟩ | ⟨rfl, rfl⟩ | ⟨rfl, rfl⟩ | ⟨rfl, rfl⟩
      · exact h0
      · exact h1
      · exact h2
      · exact h3
      · exact h4
      · exact h5
      · exact h6
    · show w'.ownsRow _ _ _ _ _ _
      rw [cellsO_append, List.length_append]
      exact h1
/-- What operations in memory are, their lists the call's own. -/
def OwD (w : World) (B : Nat) (D : List OV) (E : List Op5) : Prop := All2 (fun (d : OV) (e : Op5) => d.1 = e.k ∧ d.2.1 = e.t ∧ d.2.2.1 = e.v ∧ d.2.2.2.1 = e.c ∧ OwnA w B (slV d.2.2.2.2) e.A) D E
theorem OwD.below {w w' : World} {B : Nat} {D : List OV} {E : List Op5} (h : OwD w B D E) (b : Below w.heap.size w w') : OwD w' B D E := All2.imp (fun d e h => ⟨h.1, h.2.1, h.2.2.1, h.2.2.2.1, owns_below h.2.2.2.2 b⟩) h
theorem OwD.keep {w w' : World} {B : Nat} {D : List OV} {E : List Op5} (h : OwD w B D E) (b : KeepA w w') : OwD w' B D E := All2.imp (fun d e h => ⟨h.1, h.2.1, h.2.2.1, h.2.2.2.1, keepA_own h.2.2.2.2 b⟩) h
theorem OwD.weaken {w : World} {B B' : Nat} {D : List OV} {E : List Op5} (h : OwD w B D E) (hb : B' ≤ B) : OwD w B' D E := All2.imp (fun d e h => ⟨h.1, h.2.1, h.2.2.1, h.2.2.2.1, own_weaken h.2.2.2.2 hb⟩) h
theorem OwD.re {w : World} {B : Nat} {D : List OV} {E : List Op5} (h : OwD w B D E) : ReD w D E := All2.imp (fun d e h => ⟨h.1, h.2.1, h.2.2.1, h.2.2.2.1, own_RN h.2.2.2.2⟩) h
/-- A list of operations, the call's own. -/
def CoO (w : World) (B : Nat) (v : Value) (E : List Op5) : Prop := ∃ D, OwnO w B v D ∧ OwD w B D E
theorem CoO.below {w w' : World} {B : Nat} {v : Value} {E : List Op5} (h : CoO w B v E) (b : Below w.heap.size w w') : CoO w' B v E := by
  obtain ⟨D, h1, h2⟩ := h
  exact ⟨D, owns_below h1 b, h2.below b⟩
theorem CoO.re {w : World} {B : Nat} {v : Value} {E : List Op5} (h : CoO w B v E) : ReO w v E := by
  obtain ⟨D, h1, h2⟩ := h
  exact ⟨D, own_rowO h1, h2.re⟩

end Go.Proofs.YthfpmhnnjjikcaaGreatDoor

/- ops.Same and the document's Same: two lists, one by one. -/
namespace Go.Proofs.YthfpmhnnjjikcaaGreatDoor
open Go Go.RowKit Go.Lib
set_option linter.unusedVariables false

theorem take_eq_snoc {E E' : List Op5} {k : Nat} {e e' : Op5} (h : E.take k = E'.take k) (h1 : E[k]? = some e) (h2 : E'[k]? = some e') (he : e = e') : E.take (k + 1) = E'.take (k + 1) := by
  rw [List.take_add_one, List.take_add_one, h, h1, h2, he]
theorem ne_at {E E' : List Op5} {k : Nat} {e e' : Op5} (h1 : E[k]? = some e) (h2 : E'[k]? = some e') (he : e ≠ e') : E ≠ E' := fun h => by
  rw [h, h2] at h1; exact he (Option.some.inj h1).symm

end Go.Proofs.YthfpmhnnjjikcaaGreatDoor

/- build: what a delta tells: Count, Ops, Pieces, Same. -/
namespace Go.Proofs.YthfpmhnnjjikcaaGreatDoor
open Go Go.RowKit Go.Lib
set_option linter.unusedVariables false

theorem count_any5 {B1 B2 : Nat} (v : Value) (E : List Op5) (w : World) (h : DelV w B1 B2 v E) :
    Calls Tryz.prog 63 #[v] w fun e w' => e = .returned (.int .i64 E.length) ∧ Below w.heap.size w w' := by
  obtain ⟨q, pv, PL, rfl, _, hq, hrow, hpie⟩ := h
  have c0 : w.cell? ⟨q, 0, none⟩ = some pv := by rw [cell_of_heap hq]; rfl
  obtain ⟨p, c, rfl⟩ := own_slice hrow
  have hl := forall2_len hpie
  rw [← hl]
  clear hq hrow hpie hl
  go_enter Tryz.func63, Tryz.ntmps63
  go_wp2
  go_ret
  exact ⟨rfl, Below.refl _ _⟩
theorem wpList_make_op (w : World) {ops : Array Oper} {rest : List Oper} {o : Oper} {a : Act} {Q : Exit → Act → World → Prop}
    (hg : o.guard = none) (l c : Operand) (hop : o.op = Op.makeSlice 26 l c) (base : Nat)
    (kl kc : IntKind) (C : Int) (n : Nat) (hl : a.eval l = .int kl 0) (hc : a.eval c = .int kc C) (hC : C = (n : Int)) (b2 : n ≤ 8388608) (b4 : base ≤ w.heap.size)
    (hK : ∀ v w', OwnO w' base v [] → w.grownBy w' none → wpList Tryz.prog ops Q rest (a.put o.dst v) w') :
    wpList Tryz.prog ops Q (o :: rest) a w := by
  obtain ⟨i, z, hi, hz, hz1, hz2, hz3⟩ := infoOp
  exact wpList_make_own w hg l c _ hop base 33 i z 7 Tryz.underlying26 hi hz hz1 kl kc C n hl hc hC (by rw [hz2]; omega) (by unfold maxLen; omega) b4 fun w' h1 h2 => hK _ w' h1 h2
theorem wpList_make_pi2 (w : World) {ops : Array Oper} {rest : List Oper} {o : Oper} {a : Act} {Q : Exit → Act → World → Prop}
    (hg : o.guard = none) (l c : Operand) (hop : o.op = Op.makeSlice 96 l c) (base : Nat)
    (kl kc : IntKind) (C : Int) (n : Nat) (hl : a.eval l = .int kl 0) (hc : a.eval c = .int kc C) (hC : C = (n : Int)) (b2 : n ≤ 8388608) (b4 : base ≤ w.heap.size)
    (hK : ∀ v w', OwnI w' base v [] → w.grownBy w' none → wpList Tryz.prog ops Q rest (a.put o.dst v) w') :
    wpList Tryz.prog ops Q (o :: rest) a w := by
  obtain ⟨i, z, hi, hz, hz1, hz2, hz3⟩ := infoPi
  exact wpList_make_own w hg l c _ hop base 56 i z 1 Tryz.underlying96 hi hz hz1 kl kc C n hl hc hC (by rw [hz2]; omega) (by unfold maxLen; omega) b4 fun w' h1 h2 => hK _ w' h1 h2
/-- What a loop over a delta's pieces reads. -/
theorem del_read {w : World} {B1 B2 q : Nat} {pv : Value} {PL : List Value} {E : List Op5} (hrow : OwnI w B1 pv PL) (hpie : PieD w B2 PL E) : ∃ p cap, pv = .slice p E.length cap ∧ ∀ k, k < E.length → ∃ ga e s, p = some ⟨ga, 0, none⟩ ∧ E[k]? = some e ∧ w.cell? ⟨ga, k, none⟩ = some (pieceQ e s) ∧ OwnA w B2 s e.A := by
  have hl := forall2_len hpie
  obtain ⟨p, cap, e⟩ := own_slice hrow
  refine ⟨p, cap, by rw [e, hl], fun k hk => ?_⟩
  obtain ⟨g, c, x, hv', hB, hx, hc⟩ := own_cell hrow k (by omega)
  obtain ⟨e', s, he, rfl, hs⟩ := oneI hpie hx
  rw [e] at hv'
  simp only [Value.slice.injEq] at hv'
  exact ⟨g, e', s, hv'.1, he, hc, hs⟩
set_option maxHeartbeats 4000000 in
set_option maxRecDepth 100000 in
theorem ops_any {B1 B2 : Nat} (v : Value) (E : List Op5) (w : World) (h : DelV w B1 B2 v E) (hg : ∀ o ∈ E, opE o = 0) (hA : ∀ o ∈ E, o.A.length ≤ 2097152) (hl : E.length ≤ 4194304) :
    Calls Tryz.prog 26 #[v] w fun e w' => ∃ v', e = .returned v' ∧ CoO w' w.heap.size v' E ∧ Below w.heap.size w w' := by
  obtain ⟨q, pv, PL, rfl, _, hq, hrow, hpie⟩ := h
  have c0 : w.cell? ⟨q, 0, none⟩ = some pv := by rw [cell_of_heap hq]; rfl
  obtain ⟨p, cap, rfl, hrd⟩ := del_read (q := q) hrow hpie
  have HV : Hid (∀ k, k < E.length → ∃ ga e s, p = some ⟨ga, 0, none⟩ ∧ E[k]? = some e ∧ w.cell? ⟨ga, k, none⟩ = some (pieceQ e s) ∧ OwnA w B2 s e.A) := hrd
  have HG : Hid (∀ o ∈ E, opE o = 0 ∧ o.A.length ≤ 2097152) := fun o ho => ⟨hg o ho, hA o ho⟩
  obtain ⟨n, hn⟩ : ∃ n, E.length = n := ⟨_, rfl⟩
  have HN : Hid (E.length = n) := hn
  rw [hn] at c0 hl HV
  clear hq hrow hpie hrd hg hA hn
  go_enter Tryz.func26, Tryz.ntmps26
  go_wp2_with (at_make; refine wpList_make_op _ rfl _ _ rfl w.heap.size .i64 .i64 _ n rfl rfl rfl (by omega) (Nat.le_refl _) ?_; intro v0 w1 hown hgr; have hb1 : Below w.heap.size w w1 := (Below.refl _ _).grown hgr (Nat.le_refl _) (fun k hk => by cases hk); have c1 := (hb1.cell (lt_of_cell c0)).trans c0; clear hgr)
  go_loopw [3, 17] (fun al i wr => ∃ (k : Nat) (D : List OV), k ≤ n ∧ i = .int .i64 k ∧ D.length = k ∧ OwnO wr w.heap.size al D ∧ OwD wr w.heap.size D (E.take k) ∧ Below w.heap.size w wr) (fun _ i _ => n - (RowKit.intOf i).toNat)
  case atStart => exact ⟨0, [], Nat.zero_le _, rfl, rfl, hown, .nil, hb1⟩
  case round =>
    clear hown hb1 c1
    obtain ⟨k, D, hk, rfl, hDl, hown, hsp, hbw⟩ := hrel
    by_cases hlt : k < n
    · have hltI : (k : Int) < n := by omega
      obtain ⟨ga, e, s, rfl, he, hc, hs⟩ := HV.out k hlt
      have c2 := (hbw.cell (lt_of_cell hc)).trans hc
      have hs2 := owns_below hs hbw
      obtain ⟨hg1, hA1⟩ := HG.out e (List.mem_of_getElem? he)
      have HT : Hid (E.take (k + 1) = E.take k ++ [e]) := by show _ = _; rw [List.take_add_one, he]; rfl
      have hge : Hid (∀ j, u3.ownBlock = some j → w.heap.size ≤ j) := fun j hj => (owns_block hown j hj).1
      have HO : Hid (OwnO wr w.heap.size u3 D ∧ OwD wr w.heap.size D (E.take k)) := ⟨hown, hsp⟩
      have hlen : D.length ≤ 8388608 := by omega
      have hlz : w.heap.size ≤ wr.heap.size := hbw.size
      have hkk := kinds_of hg1
      rcases hkk with hkk | hkk | hkk | hkk
      · have cO := opQ_1 hg1 hkk s wr (own_RN hs2) hA1
        obtain ⟨nn, hnn⟩ : ∃ x : Int, ((scs e.t.data.toList).length : Int) = x := ⟨_, rfl⟩
        rw [pieceQ_1 hkk] at c2
        rw [hnn] at c2 cO
        clear he hc hs hs2 hown hsp hg1 hA1 hkk hnn
        go_wp2_with fail
        refine cO.mono ?_; rintro r w5 ⟨v', rfl, own5, hb5⟩
        obtain ⟨p5, c5, rfl⟩ := own_slice own5
        have bw5 : Below w.heap.size w w5 := hbw.trans (hb5.mono hlz)
        obtain ⟨ek, et, ⟨ex, en, eu⟩, ec, eA⟩ := e
        have ba : Below w5.heap.size w5 (w5.alloc (.cells #[.int .i64 ek, .string et, .int .i64 ex, .int .i64 en, .string eu, .int .i64 ec, .slice p5 eA.length c5] 33)) := (Below.refl _ _).alloc (Nat.le_refl _) _
        have hat : OpAt (w5.alloc (.cells #[.int .i64 ek, .string et, .int .i64 ex, .int .i64 en, .string eu, .int .i64 ec, .slice p5 eA.length c5] 33)) w5.heap.size 0 (ek, et, (ex, en, eu), ec, p5, eA.length, c5) := ⟨by simp, by simp, by simp, by simp, by simp, by simp, by simp⟩
        have HO7 : Hid (OwnO (w5.alloc (.cells #[.int .i64 ek, .string et, .int .i64 ex, .int .i64 en, .string eu, .int .i64 ec, .slice p5 eA.length c5] 33)) w.heap.size u3 D ∧ OpAt (w5.alloc (.cells #[.int .i64 ek, .string et, .int .i64 ex, .int .i64 en, .string eu, .int .i64 ec, .slice p5 eA.length c5] 33)) w5.heap.size 0 (ek, et, (ex, en, eu), ec, p5, eA.length, c5)) := ⟨owns_below (owns_below HO.out.1 hb5) ba, hat⟩
        have HP7 : Hid (OwD (w5.alloc (.cells #[.int .i64 ek, .string et, .int .i64 ex, .int .i64 en, .string eu, .int .i64 ec, .slice p5 eA.length c5] 33)) w.heap.size (D ++ [(ek, et, (ex, en, eu), ec, p5, eA.length, c5)]) (E.take (k + 1))) := by
          show OwD _ _ _ _
          rw [HT.out]
          exact forall2_append ((HO.out.2.below hb5).below ba) (.cons ⟨rfl, rfl, rfl, rfl, own_weaken (owns_below own5 ba) hlz⟩ .nil)
        have bw7 := bw5.trans (ba.mono bw5.size)
        have hl33 : D.length ≤ 33554432 := by omega
        clear own5 hb5 bw5 ba hat HO HT cO c2
        go_wp2_with (at_builtin; refine wpList_append_ops rfl (.tmp 21) (.tmp 24) rfl w.heap.size u3 D rfl HO7.out.1 w5.heap.size 1 _ rfl HO7.out.2 hl33 bw7.size ?_; intro v8 w8 own8 gr8 hat8; have hsp8 : Hid (OwD w8 w.heap.size _ _) := HP7.out.keep (keepA_grownO HO7.out.1 gr8); have b8 := bw7.grown gr8 bw7.size (fun j hj => hge.out j hj); have HO8 : Hid (OwnO w8 w.heap.size v8 _) := own8; clear own8 gr8 hat8 HO7 HP7)
        go_roundw
        case rel => exact ⟨k + 1, _, by omega, by go_num, by simp [hDl], HO8.out, hsp8.out, b8⟩
        case measure => simp [RowKit.intOf]; omega
      · have cO := opQ_2 hg1 hkk s wr (own_RN hs2) hA1
        obtain ⟨V, hV⟩ : ∃ V, valP e.v = V := ⟨_, rfl⟩
        rw [pieceQ_2 hkk] at c2
        rw [hV] at c2 cO
        clear he hc hs hs2 hown hsp hg1 hA1 hkk hV
        go_wp2_with fail
        refine cO.mono ?_; rintro r w5 ⟨v', rfl, own5, hb5⟩
        obtain ⟨p5, c5, rfl⟩ := own_slice own5
        have bw5 : Below w.heap.size w w5 := hbw.trans (hb5.mono hlz)
        obtain ⟨ek, et, ⟨ex, en, eu⟩, ec, eA⟩ := e
        have ba : Below w5.heap.size w5 (w5.alloc (.cells #[.int .i64 ek, .string et, .int .i64 ex, .int .i64 en, .string eu, .int .i64 ec, .slice p5 eA.length c5] 33)) := (Below.refl _ _).alloc (Nat.le_refl _) _
        have hat : OpAt (w5.alloc (.cells #[.int .i64 ek, .string et, .int .i64 ex, .int .i64 en, .string eu, .int .i64 ec, .slice p5 eA.length c5] 33)) w5.heap.size 0 (ek, et, (ex, en, eu), ec, p5, eA.length, c5) := ⟨by simp, by simp, by simp, by simp, by simp, by simp, by simp⟩
        have HO7 : Hid (OwnO (w5.alloc (.cells #[.int .i64 ek, .string et, .int .i64 ex, .int .i64 en, .string eu, .int .i64 ec, .slice p5 eA.length c5] 33)) w.heap.size u3 D ∧ OpAt (w5.alloc (.cells #[.int .i64 ek, .string et, .int .i64 ex, .int .i64 en, .string eu, .int .i64 ec, .slice p5 eA.length c5] 33)) w5.heap.size 0 (ek, et, (ex, en, eu), ec, p5, eA.length, c5)) := ⟨owns_below (owns_below HO.out.1 hb5) ba, hat⟩
        have HP7 : Hid (OwD (w5.alloc (.cells #[.int .i64 ek, .string et, .int .i64 ex, .int .i64 en, .string eu, .int .i64 ec, .slice p5 eA.length c5] 33)) w.heap.size (D ++ [(ek, et, (ex, en, eu), ec, p5, eA.length, c5)]) (E.take (k + 1))) := by
          show OwD _ _ _ _
          rw [HT.out]
          exact forall2_append ((HO.out.2.below hb5).below ba) (.cons ⟨rfl, rfl, rfl, rfl, own_weaken (owns_below own5 ba) hlz⟩ .nil)
        have bw7 := bw5.trans (ba.mono bw5.size)
        have hl33 : D.length ≤ 33554432 := by omega
        clear own5 hb5 bw5 ba hat HO HT cO c2
        go_wp2_with (at_builtin; refine wpList_append_ops rfl (.tmp 21) (.tmp 24) rfl w.heap.size u3 D rfl HO7.out.1 w5.heap.size 1 _ rfl HO7.out.2 hl33 bw7.size ?_; intro v8 w8 own8 gr8 hat8; have hsp8 : Hid (OwD w8 w.heap.size _ _) := HP7.out.keep (keepA_grownO HO7.out.1 gr8); have b8 := bw7.grown gr8 bw7.size (fun j hj => hge.out j hj); have HO8 : Hid (OwnO w8 w.heap.size v8 _) := own8; clear own8 gr8 hat8 HO7 HP7)
        go_roundw
        case rel => exact ⟨k + 1, _, by omega, by go_num, by simp [hDl], HO8.out, hsp8.out, b8⟩
        case measure => simp [RowKit.intOf]; omega
      · have cO := opQ_3 hg1 hkk s wr (own_RN hs2) hA1
        rw [pieceQ_3 hkk] at c2
        clear he hc hs hs2 hown hsp hg1 hA1 hkk
        go_wp2_with fail
        refine cO.mono ?_; rintro r w5 ⟨v', rfl, own5, hb5⟩
        obtain ⟨p5, c5, rfl⟩ := own_slice own5
        have bw5 : Below w.heap.size w w5 := hbw.trans (hb5.mono hlz)
        obtain ⟨ek, et, ⟨ex, en, eu⟩, ec, eA⟩ := e
        have ba : Below w5.heap.size w5 (w5.alloc (.cells #[.int .i64 ek, .string et, .int .i64 ex, .int .i64 en, .string eu, .int .i64 ec, .slice p5 eA.length c5] 33)) := (Below.refl _ _).alloc (Nat.le_refl _) _
        have hat : OpAt (w5.alloc (.cells #[.int .i64 ek, .string et, .int .i64 ex, .int .i64 en, .string eu, .int .i64 ec, .slice p5 eA.length c5] 33)) w5.heap.size 0 (ek, et, (ex, en, eu), ec, p5, eA.length, c5) := ⟨by simp, by simp, by simp, by simp, by simp, by simp, by simp⟩
        have HO7 : Hid (OwnO (w5.alloc (.cells #[.int .i64 ek, .string et, .int .i64 ex, .int .i64 en, .string eu, .int .i64 ec, .slice p5 eA.length c5] 33)) w.heap.size u3 D ∧ OpAt (w5.alloc (.cells #[.int .i64 ek, .string et, .int .i64 ex, .int .i64 en, .string eu, .int .i64 ec, .slice p5 eA.length c5] 33)) w5.heap.size 0 (ek, et, (ex, en, eu), ec, p5, eA.length, c5)) := ⟨owns_below (owns_below HO.out.1 hb5) ba, hat⟩
        have HP7 : Hid (OwD (w5.alloc (.cells #[.int .i64 ek, .string et, .int .i64 ex, .int .i64 en, .string eu, .int .i64 ec, .slice p5 eA.length c5] 33)) w.heap.size (D ++ [(ek, et, (ex, en, eu), ec, p5, eA.length, c5)]) (E.take (k + 1))) := by
          show OwD _ _ _ _
          rw [HT.out]
          exact forall2_append ((HO.out.2.below hb5).below ba) (.cons ⟨rfl, rfl, rfl, rfl, own_weaken (owns_below own5 ba) hlz⟩ .nil)
        have bw7 := bw5.trans (ba.mono bw5.size)
        have hl33 : D.length ≤ 33554432 := by omega
        clear own5 hb5 bw5 ba hat HO HT cO c2
        go_wp2_with (at_builtin; refine wpList_append_ops rfl (.tmp 21) (.tmp 24) rfl w.heap.size u3 D rfl HO7.out.1 w5.heap.size 1 _ rfl HO7.out.2 hl33 bw7.size ?_; intro v8 w8 own8 gr8 hat8; have hsp8 : Hid (OwD w8 w.heap.size _ _) := HP7.out.keep (keepA_grownO HO7.out.1 gr8); have b8 := bw7.grown gr8 bw7.size (fun j hj => hge.out j hj); have HO8 : Hid (OwnO w8 w.heap.size v8 _) := own8; clear own8 gr8 hat8 HO7 HP7)
        go_roundw
        case rel => exact ⟨k + 1, _, by omega, by go_num, by simp [hDl], HO8.out, hsp8.out, b8⟩
        case measure => simp [RowKit.intOf]; omega
      · have cO := opQ_4 hg1 hkk wr
        rw [pieceQ_4 hkk] at c2
        clear he hc hs hs2 hown hsp hg1 hA1 hkk
        go_wp2_with fail
        refine cO.mono ?_; rintro r w5 ⟨v', rfl, own5, hb5⟩
        obtain ⟨p5, c5, rfl⟩ := own_slice own5
        have bw5 : Below w.heap.size w w5 := hbw.trans (hb5.mono hlz)
        obtain ⟨ek, et, ⟨ex, en, eu⟩, ec, eA⟩ := e
        have ba : Below w5.heap.size w5 (w5.alloc (.cells #[.int .i64 ek, .string et, .int .i64 ex, .int .i64 en, .string eu, .int .i64 ec, .slice p5 eA.length c5] 33)) := (Below.refl _ _).alloc (Nat.le_refl _) _
        have hat : OpAt (w5.alloc (.cells #[.int .i64 ek, .string et, .int .i64 ex, .int .i64 en, .string eu, .int .i64 ec, .slice p5 eA.length c5] 33)) w5.heap.size 0 (ek, et, (ex, en, eu), ec, p5, eA.length, c5) := ⟨by simp, by simp, by simp, by simp, by simp, by simp, by simp⟩
        have HO7 : Hid (OwnO (w5.alloc (.cells #[.int .i64 ek, .string et, .int .i64 ex, .int .i64 en, .string eu, .int .i64 ec, .slice p5 eA.length c5] 33)) w.heap.size u3 D ∧ OpAt (w5.alloc (.cells #[.int .i64 ek, .string et, .int .i64 ex, .int .i64 en, .string eu, .int .i64 ec, .slice p5 eA.length c5] 33)) w5.heap.size 0 (ek, et, (ex, en, eu), ec, p5, eA.length, c5)) := ⟨owns_below (owns_below HO.out.1 hb5) ba, hat⟩
        have HP7 : Hid (OwD (w5.alloc (.cells #[.int .i64 ek, .string et, .int .i64 ex, .int .i64 en, .string eu, .int .i64 ec, .slice p5 eA.length c5] 33)) w.heap.size (D ++ [(ek, et, (ex, en, eu), ec, p5, eA.length, c5)]) (E.take (k + 1))) := by
          show OwD _ _ _ _
          rw [HT.out]
          exact forall2_append ((HO.out.2.below hb5).below ba) (.cons ⟨rfl, rfl, rfl, rfl, own_weaken (owns_below own5 ba) hlz⟩ .nil)
        have bw7 := bw5.trans (ba.mono bw5.size)
        have hl33 : D.length ≤ 33554432 := by omega
        clear own5 hb5 bw5 ba hat HO HT cO c2
        go_wp2_with (at_builtin; refine wpList_append_ops rfl (.tmp 21) (.tmp 24) rfl w.heap.size u3 D rfl HO7.out.1 w5.heap.size 1 _ rfl HO7.out.2 hl33 bw7.size ?_; intro v8 w8 own8 gr8 hat8; have hsp8 : Hid (OwD w8 w.heap.size _ _) := HP7.out.keep (keepA_grownO HO7.out.1 gr8); have b8 := bw7.grown gr8 bw7.size (fun j hj => hge.out j hj); have HO8 : Hid (OwnO w8 w.heap.size v8 _) := own8; clear own8 gr8 hat8 HO7 HP7)
        go_roundw
        case rel => exact ⟨k + 1, _, by omega, by go_num, by simp [hDl], HO8.out, hsp8.out, b8⟩
        case measure => simp [RowKit.intOf]; omega
    · have hltI : ¬ (k : Int) < n := by omega
      have hE : E.take k = E := List.take_of_length_le (by rw [HN.out]; omega)
      rw [hE] at hsp
      have HX : Hid (CoO wr w.heap.size u3 E) := ⟨D, hown, hsp⟩
      clear hown hsp
      go_wp2
      go_ret
      exact ⟨_, rfl, HX.out, hbw⟩
end Go.Proofs.YthfpmhnnjjikcaaGreatDoor

/- build: own and Pieces: a delta's pieces, each with a list of its own. -/
namespace Go.Proofs.YthfpmhnnjjikcaaGreatDoor
open Go Go.RowKit Go.Lib
set_option linter.unusedVariables false

theorem as_r_e6 (v : Value) (W : World) : (Instr.typeAssert (.iface 160 v) 56 192 true).run Tryz.prog W = .ok (.tuple #[.agg #[.slice none 0 0, .string ⟨#[]⟩, .nilIface], .bool false]) W := by kernel_rfl
theorem as_d_e6 (v : Value) (W : World) : (Instr.typeAssert (.iface 105 v) 56 192 true).run Tryz.prog W = .ok (.tuple #[.agg #[.slice none 0 0, .string ⟨#[]⟩, .nilIface], .bool false]) W := by kernel_rfl
set_option maxHeartbeats 2000000 in
set_option maxRecDepth 100000 in
theorem own1_any (p : Option Addr) (l c : Nat) (t : ByteArray) (n : Int) (A : List A2) (w : World) (hR : RN w (.slice p l c) A) (hl : A.length ≤ 2097152) :
    Calls Tryz.prog 105 #[.iface 188 (.agg #[.slice p l c, .string t, .int .i64 n])] w fun r w' => ∃ p' c', r = .returned (.iface 188 (.agg #[.slice p' A.length c', .string t, .int .i64 n])) ∧ OwnA w' w.heap.size (.slice p' A.length c') A ∧ Below w.heap.size w w' := by
  have b0 : Below w.heap.size w (w.alloc (.cells #[.slice p l c, .string t, .int .i64 n] 188)) := (Below.refl _ _).alloc (Nat.le_refl _) _
  have k0 := heap_alloc_new w (.cells #[.slice p l c, .string t, .int .i64 n] 188)
  have cA := attributes_any (.slice p l c) A _ (hR.below b0).row hR.nz hl
  clear hR hl
  have a0 := as_i_i
  go_enter Tryz.func105, Tryz.ntmps105
  go_wp2_with fail
  refine cA.mono ?_; rintro r w2 ⟨v', rfl, own2, hb2⟩
  obtain ⟨p', c', rfl⟩ := own_slice own2
  have m0 := (hb2.block _ (by simp only [World.size_alloc]; omega)).trans k0
  have d0 : w2.cell? ⟨w.heap.size, 0, none⟩ = some (.slice p l c) := by rw [cell_of_heap m0]; rfl
  have d1 : w2.cell? ⟨w.heap.size, 1, none⟩ = some (.string t) := by rw [cell_of_heap m0]; rfl
  have d2 : w2.cell? ⟨w.heap.size, 2, none⟩ = some (.int .i64 n) := by rw [cell_of_heap m0]; rfl
  have f0 : w2.frozen? ⟨w.heap.size, 0, none⟩ = false := frozen_of_heap m0 0
  have HQ : Hid (OwnA (w2.setCell ⟨w.heap.size, 0, none⟩ (.slice p' A.length c')) w.heap.size (.slice p' A.length c') A ∧ Below w.heap.size w (w2.setCell ⟨w.heap.size, 0, none⟩ (.slice p' A.length c'))) :=
    ⟨own_weaken (ownsRow_setCell_below own2 (a := ⟨w.heap.size, 0, none⟩) (by simp only [World.size_alloc]; omega) _) (by simp only [World.size_alloc]; omega), (b0.trans (hb2.mono b0.size)).setCell (Nat.le_refl _) _⟩
  clear cA b0 k0 own2 hb2 m0
  go_wp2
  go_ret
  exact ⟨p', c', rfl, HQ.out⟩
set_option maxHeartbeats 2000000 in
set_option maxRecDepth 100000 in
theorem own2_any (p : Option Addr) (l c : Nat) (t : ByteArray) (V : Value) (A : List A2) (w : World) (hR : RN w (.slice p l c) A) (hl : A.length ≤ 2097152) (hV : ∃ u x, V = .iface u x) :
    Calls Tryz.prog 105 #[.iface 192 (.agg #[.slice p l c, .string t, V])] w fun r w' => ∃ p' c', r = .returned (.iface 192 (.agg #[.slice p' A.length c', .string t, V])) ∧ OwnA w' w.heap.size (.slice p' A.length c') A ∧ Below w.heap.size w w' := by
  obtain ⟨u, x, rfl⟩ := hV
  have b0 : Below w.heap.size w (w.alloc (.cells #[.slice p l c, .string t, .iface u x] 192)) := (Below.refl _ _).alloc (Nat.le_refl _) _
  have k0 := heap_alloc_new w (.cells #[.slice p l c, .string t, .iface u x] 192)
  have cA := attributes_any (.slice p l c) A _ (hR.below b0).row hR.nz hl
  clear hR hl
  have a0 := as_e_i
  have a1 := as_e_e
  go_enter Tryz.func105, Tryz.ntmps105
  go_wp2_with fail
  refine cA.mono ?_; rintro r w2 ⟨v', rfl, own2, hb2⟩
  obtain ⟨p', c', rfl⟩ := own_slice own2
  have m0 := (hb2.block _ (by simp only [World.size_alloc]; omega)).trans k0
  have d0 : w2.cell? ⟨w.heap.size, 0, none⟩ = some (.slice p l c) := by rw [cell_of_heap m0]; rfl
  have d1 : w2.cell? ⟨w.heap.size, 1, none⟩ = some (.string t) := by rw [cell_of_heap m0]; rfl
  have d2 : w2.cell? ⟨w.heap.size, 2, none⟩ = some (.iface u x) := by rw [cell_of_heap m0]; rfl
  have f0 : w2.frozen? ⟨w.heap.size, 0, none⟩ = false := frozen_of_heap m0 0
  have HQ : Hid (OwnA (w2.setCell ⟨w.heap.size, 0, none⟩ (.slice p' A.length c')) w.heap.size (.slice p' A.length c') A ∧ Below w.heap.size w (w2.setCell ⟨w.heap.size, 0, none⟩ (.slice p' A.length c'))) :=
    ⟨own_weaken (ownsRow_setCell_below own2 (a := ⟨w.heap.size, 0, none⟩) (by simp only [World.size_alloc]; omega) _) (by simp only [World.size_alloc]; omega), (b0.trans (hb2.mono b0.size)).setCell (Nat.le_refl _) _⟩
  clear cA b0 k0 own2 hb2 m0
  go_wp2
  go_ret
  exact ⟨p', c', rfl, HQ.out⟩
set_option maxHeartbeats 2000000 in
set_option maxRecDepth 100000 in
theorem own3_any (p : Option Addr) (l c : Nat) (n : Int) (A : List A2) (w : World) (hR : RN w (.slice p l c) A) (hl : A.length ≤ 2097152) :
    Calls Tryz.prog 105 #[.iface 160 (.agg #[.slice p l c, .int .i64 n])] w fun r w' => ∃ p' c', r = .returned (.iface 160 (.agg #[.slice p' A.length c', .int .i64 n])) ∧ OwnA w' w.heap.size (.slice p' A.length c') A ∧ Below w.heap.size w w' := by
  have b0 : Below w.heap.size w (w.alloc (.cells #[.slice p l c, .int .i64 n] 160)) := (Below.refl _ _).alloc (Nat.le_refl _) _
  have k0 := heap_alloc_new w (.cells #[.slice p l c, .int .i64 n] 160)
  have cA := attributes_any (.slice p l c) A _ (hR.below b0).row hR.nz hl
  clear hR hl
  have a0 := as_r_i
  have a1 := as_r_e6
  have a2 := as_r_r
  go_enter Tryz.func105, Tryz.ntmps105
  go_wp2_with fail
  refine cA.mono ?_; rintro r w2 ⟨v', rfl, own2, hb2⟩
  obtain ⟨p', c', rfl⟩ := own_slice own2
  have m0 := (hb2.block _ (by simp only [World.size_alloc]; omega)).trans k0
  have d0 : w2.cell? ⟨w.heap.size, 0, none⟩ = some (.slice p l c) := by rw [cell_of_heap m0]; rfl
  have d1 : w2.cell? ⟨w.heap.size, 1, none⟩ = some (.int .i64 n) := by rw [cell_of_heap m0]; rfl
  have f0 : w2.frozen? ⟨w.heap.size, 0, none⟩ = false := frozen_of_heap m0 0
  have HQ : Hid (OwnA (w2.setCell ⟨w.heap.size, 0, none⟩ (.slice p' A.length c')) w.heap.size (.slice p' A.length c') A ∧ Below w.heap.size w (w2.setCell ⟨w.heap.size, 0, none⟩ (.slice p' A.length c'))) :=
    ⟨own_weaken (ownsRow_setCell_below own2 (a := ⟨w.heap.size, 0, none⟩) (by simp only [World.size_alloc]; omega) _) (by simp only [World.size_alloc]; omega), (b0.trans (hb2.mono b0.size)).setCell (Nat.le_refl _) _⟩
  clear cA b0 k0 own2 hb2 m0
  go_wp2
  go_ret
  exact ⟨p', c', rfl, HQ.out⟩
set_option maxHeartbeats 1000000 in
theorem own4_any (n : Int) (w : World) : Calls Tryz.prog 105 #[.iface 105 (.agg #[.int .i64 n])] w fun r w' => r = .returned (.iface 105 (.agg #[.int .i64 n])) ∧ Below w.heap.size w w' := by
  have a0 := as_d_i
  have a1 := as_d_e6
  have a2 := as_d_r
  go_enter Tryz.func105, Tryz.ntmps105
  go_wp2
  go_ret
  exact ⟨rfl, by go_grown⟩
theorem ownP_any (e : Op5) (s : Value) (w : World) (hg : opE e = 0) (hR : RN w s e.A) (hl : e.A.length ≤ 2097152) :
    Calls Tryz.prog 105 #[pieceQ e s] w fun r w' => ∃ s', r = .returned (pieceQ e s') ∧ OwnA w' w.heap.size s' e.A ∧ Below w.heap.size w w' := by
  obtain ⟨p, c, rfl, _⟩ := hR.row.val
  rcases kinds_of hg with h | h | h | h
  · rw [pieceQ_1 h]
    refine (own1_any p _ c e.t _ e.A w hR hl).mono ?_
    rintro r w' ⟨p', c', h1, h2, h3⟩
    exact ⟨.slice p' e.A.length c', by rw [h1, pieceQ_1 h], h2, h3⟩
  · rw [pieceQ_2 h]
    refine (own2_any p _ c e.t _ e.A w hR hl (valP_if _)).mono ?_
    rintro r w' ⟨p', c', h1, h2, h3⟩
    exact ⟨.slice p' e.A.length c', by rw [h1, pieceQ_2 h], h2, h3⟩
  · rw [pieceQ_3 h]
    refine (own3_any p _ c e.c e.A w hR hl).mono ?_
    rintro r w' ⟨p', c', h1, h2, h3⟩
    exact ⟨.slice p' e.A.length c', by rw [h1, pieceQ_3 h], h2, h3⟩
  · rw [pieceQ_4 h]
    refine (own4_any e.c w).mono ?_
    rintro r w' ⟨h1, h3⟩
    exact ⟨.slice none 0 0, by rw [h1, pieceQ_4 h], by rw [drop_A hg h]; exact World.ownsRow_nil _ _ _ _, h3⟩
set_option maxHeartbeats 4000000 in
set_option maxRecDepth 100000 in
theorem pieces_any {B1 B2 : Nat} (v : Value) (E : List Op5) (w : World) (h : DelV w B1 B2 v E) (hg : ∀ o ∈ E, opE o = 0) (hA : ∀ o ∈ E, o.A.length ≤ 2097152) (hl : E.length ≤ 4194304) :
    Calls Tryz.prog 75 #[v] w fun e w' => ∃ v', e = .returned v' ∧ (∃ P, OwnI w' w.heap.size v' P ∧ PieD w' w.heap.size P E) ∧ Below w.heap.size w w' := by
  obtain ⟨q, pv, PL, rfl, _, hq, hrow, hpie⟩ := h
  have c0 : w.cell? ⟨q, 0, none⟩ = some pv := by rw [cell_of_heap hq]; rfl
  obtain ⟨p, cap, rfl, hrd⟩ := del_read (q := q) hrow hpie
  have HV : Hid (∀ k, k < E.length → ∃ ga e s, p = some ⟨ga, 0, none⟩ ∧ E[k]? = some e ∧ w.cell? ⟨ga, k, none⟩ = some (pieceQ e s) ∧ OwnA w B2 s e.A) := hrd
  have HG : Hid (∀ o ∈ E, opE o = 0 ∧ o.A.length ≤ 2097152) := fun o ho => ⟨hg o ho, hA o ho⟩
  obtain ⟨n, hn⟩ : ∃ n, E.length = n := ⟨_, rfl⟩
  have HN : Hid (E.length = n) := hn
  rw [hn] at c0 hl HV
  clear hq hrow hpie hrd hg hA hn
  go_enter Tryz.func75, Tryz.ntmps75
  go_wp2_with (at_make; refine wpList_make_pi2 _ rfl _ _ rfl w.heap.size .i64 .i64 _ n rfl rfl rfl (by omega) (Nat.le_refl _) ?_; intro v0 w1 hown hgr; have hb1 : Below w.heap.size w w1 := (Below.refl _ _).grown hgr (Nat.le_refl _) (fun k hk => by cases hk); have c1 := (hb1.cell (lt_of_cell c0)).trans c0; clear hgr)
  go_loopw [3, 17] (fun al i wr => ∃ (k : Nat) (D : List Value), k ≤ n ∧ i = .int .i64 k ∧ D.length = k ∧ OwnI wr w.heap.size al D ∧ PieD wr w.heap.size D (E.take k) ∧ Below w.heap.size w wr) (fun _ i _ => n - (RowKit.intOf i).toNat)
  case atStart => exact ⟨0, [], Nat.zero_le _, rfl, rfl, hown, .nil, hb1⟩
  case round =>
    clear hown hb1 c1
    obtain ⟨k, D, hk, rfl, hDl, hown, hsp, hbw⟩ := hrel
    by_cases hlt : k < n
    · have hltI : (k : Int) < n := by omega
      obtain ⟨ga, e, s, rfl, he, hc, hs⟩ := HV.out k hlt
      have c2 := (hbw.cell (lt_of_cell hc)).trans hc
      have hs2 := owns_below hs hbw
      obtain ⟨hg1, hA1⟩ := HG.out e (List.mem_of_getElem? he)
      have HT : Hid (E.take (k + 1) = E.take k ++ [e]) := by show _ = _; rw [List.take_add_one, he]; rfl
      have hge : Hid (∀ j, u3.ownBlock = some j → w.heap.size ≤ j) := fun j hj => (owns_block hown j hj).1
      have HO : Hid (OwnI wr w.heap.size u3 D ∧ PieD wr w.heap.size D (E.take k)) := ⟨hown, hsp⟩
      have hlen : D.length ≤ 8388608 := by omega
      have hlz : w.heap.size ≤ wr.heap.size := hbw.size
      have cO := ownP_any e s wr hg1 (own_RN hs2) hA1
      obtain ⟨u, x, hux⟩ := pieceQ_if e s
      have hq := fun s' => pieceQ_if e s'
      obtain ⟨PQ, hPQ⟩ : ∃ f : Value → Value, pieceQ e = f := ⟨_, rfl⟩
      have HPQ : Hid (pieceQ e = PQ) := hPQ
      rw [hPQ] at cO hux hq
      rw [hPQ] at c2
      rw [hux] at c2 cO
      clear he hc hs hs2 hown hsp hg1 hA1 hux hPQ
      go_wp2_with fail
      refine cO.mono ?_; rintro r w5 ⟨s', rfl, own5, hb5⟩
      obtain ⟨u', x', hux'⟩ := hq s'
      have HU : Hid (PQ s' = .iface u' x') := hux'
      rw [hux']
      have bw5 : Below w.heap.size w w5 := hbw.trans (hb5.mono hlz)
      have ba : Below w5.heap.size w5 (w5.alloc (.cells #[.iface u' x'] 56)) := (Below.refl _ _).alloc (Nat.le_refl _) _
      have hu6 : (w5.alloc (.cells #[.iface u' x'] 56)).cell? ⟨w5.heap.size, 0, none⟩ = some (.iface u' x') := by simp
      have HO7 : Hid (OwnI (w5.alloc (.cells #[.iface u' x'] 56)) w.heap.size u3 D) := owns_below (owns_below HO.out.1 hb5) ba
      have HP7 : Hid (PieD (w5.alloc (.cells #[.iface u' x'] 56)) w.heap.size (D ++ [.iface u' x']) (E.take (k + 1))) := by
        show PieD _ _ _ _
        rw [HT.out]
        exact forall2_append ((HO.out.2.below hb5).below ba) (.cons ⟨s', by rw [HPQ.out, HU.out], own_weaken (owns_below own5 ba) hlz⟩ .nil)
      have bw7 := bw5.trans (ba.mono bw5.size)
      clear own5 hb5 bw5 ba HO HT cO c2 hux' hq
      go_wp2_with (at_builtin; refine wpList_append_piAt rfl (.tmp 21) (.tmp 24) rfl w.heap.size u3 D rfl HO7.out w5.heap.size 1 (.iface u' x') rfl hu6 rfl hlen bw7.size ?_; intro v8 w8 own8 gr8 hat8; have hsp8 : Hid (PieD w8 w.heap.size _ _) := HP7.out.keep (keepA_grownI HO7.out gr8); have b8 := bw7.grown gr8 bw7.size (fun j hj => hge.out j hj); have HO8 : Hid (OwnI w8 w.heap.size v8 _) := own8; clear own8 gr8 hat8 HO7 HP7 hu6)
      go_roundw
      case rel => exact ⟨k + 1, _, by omega, by go_num, by simp [hDl], HO8.out, hsp8.out, b8⟩
      case measure => simp [RowKit.intOf]; omega
    · have hltI : ¬ (k : Int) < n := by omega
      have hE : E.take k = E := List.take_of_length_le (by rw [HN.out]; omega)
      rw [hE] at hsp
      have HX : Hid (∃ P, OwnI wr w.heap.size u3 P ∧ PieD wr w.heap.size P E) := ⟨D, hown, hsp⟩
      clear hown hsp
      go_wp2
      go_ret
      exact ⟨_, rfl, HX.out, hbw⟩
end Go.Proofs.YthfpmhnnjjikcaaGreatDoor

/- A Walker in memory: its own cell, the row of what is left. -/
namespace Go.Proofs.YthfpmhnnjjikcaaGreatDoor
open Go Go.RowKit Go.Lib
set_option linter.unusedVariables false

/-- The types of the cells that walkers write. -/
def TW (t : TypeId) : Prop := t = 138 ∨ t = 56
def isTW (o : Obj) : Prop := ∃ cs t fz, o = .cells cs t fz ∧ TW t
/-- What a Walker's step turns: its own cell and its row. -/
structure FrW (q g : Nat) (w w' : World) : Prop where
  os : w'.os = w.os
  tape : w'.tape = w.tape
  output : w'.output = w.output
  size : w.heap.size ≤ w'.heap.size
  kept : ∀ (k : Nat) (o : Obj), w.heap[k]? = some o → (¬ isTW o ∨ (k ≠ q ∧ k ≠ g)) → w'.heap[k]? = some o
theorem FrW.refl (q g : Nat) (w : World) : FrW q g w w := ⟨rfl, rfl, rfl, Nat.le_refl _, fun _ _ h _ => h⟩
theorem FrW.trans {q g : Nat} {a b c : World} (h : FrW q g a b) (k : FrW q g b c) : FrW q g a c :=
  ⟨k.os.trans h.os, k.tape.trans h.tape, k.output.trans h.output, Nat.le_trans h.size k.size, fun i o hi ho => k.kept i o (h.kept i o hi ho) ho⟩
theorem FrW.of_below {q g : Nat} {w w' : World} (h : Below w.heap.size w w') : FrW q g w w' :=
  ⟨h.os, h.tape, h.output, h.size, fun k o hk _ => (h.block k (Array.getElem?_eq_some_iff.1 hk).1).trans hk⟩
theorem FrW.it {q g B : Nat} {w w' : World} (h : FrW q g w w') (hq : B ≤ q) (hg : B ≤ g) : It7 TW B w w' :=
  ⟨h.os, h.tape, h.output, h.size, fun k o hk ho => h.kept k o hk (ho.elim (fun q => .inr (by omega)) (fun q => .inl q))⟩
theorem It7.lowB {T : TypeId → Prop} {B : Nat} {A A' : World} (h : It7 T B A A') (hB : B ≤ A.heap.size) : Below B A A' := (h.tr (Nat.le_refl _)).below hB
theorem FrW.below {q g B : Nat} {w w' : World} (h : FrW q g w w') (hq : B ≤ q) (hg : B ≤ g) (hB : B ≤ w.heap.size) : Below B w w' := (h.it hq hg).lowB hB
theorem It7.keepA {B : Nat} {w w' : World} (h : It7 TW B w w') : KeepA w w' := fun k cur hk => by
  rw [h.kept k _ hk (.inr (by rintro ⟨cs, t, fz, e, ht⟩; cases e; rcases ht with ht | ht <;> exact absurd ht (by decide))), hk]
theorem FrW.keepA {q g : Nat} {w w' : World} (h : FrW q g w w') : KeepA w w' := (h.it (Nat.zero_le _) (Nat.zero_le _)).keepA
theorem FrW.setQ {q g j : Nat} {w : World} {cs : Array Value} {fz : Nat × Nat} (h : w.heap[q]? = some (.cells cs 138 fz)) (u : Value) : FrW q g w (w.setCell ⟨q, j, none⟩ u) :=
  ⟨rfl, rfl, rfl, by simp [World.setCell], fun k o hk ho => by
    have hne : k ≠ q := by
      rintro rfl
      rw [h] at hk; cases hk
      rcases ho with ho | ho
      · exact ho ⟨_, _, _, rfl, .inl rfl⟩
      · exact ho.1 rfl
    exact (Below.heap_setCell _ _ _ _ hne).trans hk⟩
theorem FrW.setG {q g j : Nat} {w : World} {cs : Array Value} {fz : Nat × Nat} (h : w.heap[g]? = some (.cells cs 56 fz)) (u : Value) : FrW q g w (w.setCell ⟨g, j, none⟩ u) :=
  ⟨rfl, rfl, rfl, by simp [World.setCell], fun k o hk ho => by
    have hne : k ≠ g := by
      rintro rfl
      rw [h] at hk; cases hk
      rcases ho with ho | ho
      · exact ho ⟨_, _, _, rfl, .inr rfl⟩
      · exact ho.2 rfl
    exact (Below.heap_setCell _ _ _ _ hne).trans hk⟩

/-- A Walker that has R before it. -/
structure WkV (w : World) (B q g : Nat) (R : List Op5) : Prop where
  ne : q ≠ g
  lq : B ≤ q
  lg : B ≤ g
  st : ∃ p cap, w.heap[q]? = some (.cells #[.slice p R.length cap] 138 (0, 0)) ∧ R.length ≤ cap ∧
    (R ≠ [] → ∃ off cs, p = some ⟨g, off, none⟩ ∧ w.heap[g]? = some (.cells cs 56 (0, 0)) ∧ ∀ (j : Nat) (e : Op5), R[j]? = some e → ∃ s, cs[off + j]? = some (pieceQ e s) ∧ OwnA w B s e.A)
theorem WkV.same {w w' : World} {B q g : Nat} {R : List Op5} (h : WkV w B q g R) (hq : ∀ o, w.heap[q]? = some o → w'.heap[q]? = some o) (hg : ∀ o, w.heap[g]? = some o → w'.heap[g]? = some o) (hk : KeepA w w') : WkV w' B q g R := by
  obtain ⟨h1, h2, h3, p, cap, h4, h5, h6⟩ := h
  refine ⟨h1, h2, h3, p, cap, hq _ h4, h5, fun h0 => ?_⟩
  obtain ⟨off, cs, e, hgo, hr⟩ := h6 h0
  refine ⟨off, cs, e, hg _ hgo, fun j x hx => ?_⟩
  obtain ⟨s, a1, a2⟩ := hr j x hx
  exact ⟨s, a1, keepA_own a2 hk⟩
theorem WkV.below {w w' : World} {B q g : Nat} {R : List Op5} (h : WkV w B q g R) (b : Below w.heap.size w w') : WkV w' B q g R :=
  h.same (fun o ho => heap_below b ho) (fun o ho => heap_below b ho) (keepA_below b)
/-- Another Walker's step leaves it. -/
theorem WkV.other {w w' : World} {B q g q' g' : Nat} {R : List Op5} (h : WkV w B q g R) (f : FrW q' g' w w') (h1 : q ≠ q' ∧ q ≠ g') (h2 : g ≠ q' ∧ g ≠ g') : WkV w' B q g R :=
  h.same (fun o ho => f.kept _ _ ho (.inr h1)) (fun o ho => f.kept _ _ ho (.inr h2)) f.keepA
theorem WkV.lt {w : World} {B q g : Nat} {R : List Op5} (h : WkV w B q g R) : q < w.heap.size := by
  obtain ⟨_, _, _, p, cap, h4, _⟩ := h
  exact (Array.getElem?_eq_some_iff.1 h4).1
theorem WkV.read0 {w : World} {B q g : Nat} {R : List Op5} (h : WkV w B q g R) : ∃ p cap, w.cell? ⟨q, 0, none⟩ = some (.slice p R.length cap) ∧ w.frozen? ⟨q, 0, none⟩ = false ∧ R.length ≤ cap := by
  obtain ⟨_, _, _, p, cap, h4, h5, _⟩ := h
  exact ⟨p, cap, by rw [cell_of_heap h4]; rfl, frozen_of_heap h4 0, h5⟩
theorem WkV.read1 {w : World} {B q g : Nat} {x : Op5} {r : List Op5} (h : WkV w B q g (x :: r)) : ∃ off cap s, w.cell? ⟨q, 0, none⟩ = some (.slice (some ⟨g, off, none⟩) (r.length + 1) cap) ∧ w.frozen? ⟨q, 0, none⟩ = false ∧ r.length + 1 ≤ cap ∧ w.cell? ⟨g, off, none⟩ = some (pieceQ x s) ∧ w.frozen? ⟨g, off, none⟩ = false ∧ OwnA w B s x.A := by
  obtain ⟨h1, h2, h3, p, cap, h4, h5, h6⟩ := h
  obtain ⟨off, cs, rfl, hgo, hr⟩ := h6 (by simp)
  obtain ⟨s, a1, a2⟩ := hr 0 x rfl
  exact ⟨off, cap, s, by rw [cell_of_heap h4]; rfl, frozen_of_heap h4 0, by simpa using h5, by rw [cell_of_heap hgo]; exact a1, frozen_of_heap hgo off, a2⟩
theorem WkV.drop {w : World} {B q g off cap c' : Nat} {p' : Option Addr} {x : Op5} {r : List Op5} (h : WkV w B q g (x :: r)) (hc : w.cell? ⟨q, 0, none⟩ = some (.slice (some ⟨g, off, none⟩) (r.length + 1) cap)) (hl : r.length ≤ c') (hp : r ≠ [] → p' = some ⟨g, off + 1, none⟩) :
    WkV (w.setCell ⟨q, 0, none⟩ (.slice p' r.length c')) B q g r ∧ FrW q g w (w.setCell ⟨q, 0, none⟩ (.slice p' r.length c')) := by
  obtain ⟨h1, h2, h3, p, cap0, h4, h5, h6⟩ := h
  obtain ⟨off0, cs, rfl, hgo, hr⟩ := h6 (by simp)
  have e : w.cell? ⟨q, 0, none⟩ = some (.slice (some ⟨g, off0, none⟩) (r.length + 1) cap0) := by rw [cell_of_heap h4]; rfl
  rw [e] at hc
  simp only [Option.some.injEq, Value.slice.injEq, Addr.mk.injEq] at hc
  obtain ⟨⟨_, rfl, _⟩, _, rfl⟩ := hc
  have f := FrW.setQ (g := g) (j := 0) h4 (.slice p' r.length c')
  refine ⟨⟨h1, h2, h3, p', c', ?_, hl, fun h0 => ⟨off0 + 1, cs, hp h0, (Below.heap_setCell _ _ _ _ (Ne.symm h1)).trans hgo, fun j e he => ?_⟩⟩, f⟩
  · rw [heap_set_at w q 0 _ _ _ _ h4]; rfl
  · obtain ⟨s, a1, a2⟩ := hr (j + 1) e he
    exact ⟨s, by rw [show off0 + 1 + j = off0 + (j + 1) by omega]; exact a1, keepA_own a2 f.keepA⟩
theorem WkV.put {w : World} {B q g off cap : Nat} {x x' : Op5} {r : List Op5} {s' : Value} (h : WkV w B q g (x :: r)) (hc : w.cell? ⟨q, 0, none⟩ = some (.slice (some ⟨g, off, none⟩) (r.length + 1) cap)) (hs : OwnA w B s' x'.A) :
    WkV (w.setCell ⟨g, off, none⟩ (pieceQ x' s')) B q g (x' :: r) ∧ FrW q g w (w.setCell ⟨g, off, none⟩ (pieceQ x' s')) := by
  obtain ⟨h1, h2, h3, p, cap0, h4, h5, h6⟩ := h
  obtain ⟨off0, cs, rfl, hgo, hr⟩ := h6 (by simp)
  have e : w.cell? ⟨q, 0, none⟩ = some (.slice (some ⟨g, off0, none⟩) (r.length + 1) cap0) := by rw [cell_of_heap h4]; rfl
  rw [e] at hc
  simp only [Option.some.injEq, Value.slice.injEq, Addr.mk.injEq] at hc
  obtain ⟨⟨_, rfl, _⟩, _, rfl⟩ := hc
  have f := FrW.setG (q := q) (j := off0) hgo (pieceQ x' s')
  have h00 : off0 < cs.size := by
    obtain ⟨s, a1, _⟩ := hr 0 x rfl
    exact (Array.getElem?_eq_some_iff.1 a1).1
  refine ⟨⟨h1, h2, h3, some ⟨g, off0, none⟩, cap0, (Below.heap_setCell _ _ _ _ h1).trans h4, h5, fun _ => ⟨off0, _, rfl, heap_set_at w g off0 _ _ _ _ hgo, fun j e he => ?_⟩⟩, f⟩
  cases j with
  | zero =>
    obtain rfl : x' = e := by simpa using he
    exact ⟨s', by simp [h00], keepA_own hs f.keepA⟩
  | succ j =>
    obtain ⟨s, a1, a2⟩ := hr (j + 1) e he
    exact ⟨s, by rw [Array.getElem?_setIfInBounds_ne (by omega)]; exact a1, keepA_own a2 f.keepA⟩
/-- A new one. -/
theorem wk_new {w : World} {B : Nat} {v : Value} {P : List Value} {E : List Op5} (h : OwnI w B v P) (hp : PieD w B P E) (hB : B ≤ w.heap.size) : ∃ g, WkV (w.alloc (.cells #[v] 138)) B w.heap.size g E ∧ (E ≠ [] → g < w.heap.size) := by
  have hl := forall2_len hp
  have hb : Below w.heap.size w (w.alloc (.cells #[v] 138)) := (Below.refl _ _).alloc (Nat.le_refl _) _
  have hn : (w.alloc (.cells #[v] 138)).heap[w.heap.size]? = some (.cells #[v] 138 (0, 0)) := heap_alloc_new w _
  rcases h.2 with ⟨hv, h0⟩ | ⟨g, cap, cur, hv, hg, hgg, hc, _, hcs, ht⟩
  · have hE : E = [] := List.eq_nil_of_length_eq_zero (by omega)
    subst hE
    refine ⟨w.heap.size + 1, ⟨by omega, hB, by omega, none, 0, ?_, Nat.zero_le _, fun h => absurd rfl h⟩, fun h => absurd rfl h⟩
    rw [hn, hv]; rfl
  · have hgl : g < w.heap.size := (Array.getElem?_eq_some_iff.1 hgg).1
    refine ⟨g, ⟨by omega, hB, hg, some ⟨g, 0, none⟩, cap, by rw [hn, hv, hl], by omega, fun _ => ⟨0, cur, rfl, heap_below hb hgg, fun j e he => ?_⟩⟩, fun _ => hgl⟩
    obtain ⟨x, hx, s, rfl, hs⟩ : ∃ x, P[j]? = some x ∧ ∃ s, x = pieceQ e s ∧ OwnA w B s e.A := by
      have hj : j < P.length := by rw [hl]; exact (List.getElem?_eq_some_iff.1 he).1
      obtain ⟨e', s, he', hx, hs⟩ := oneI hp (List.getElem?_eq_getElem hj)
      obtain rfl : e' = e := Option.some.inj (he'.symm.trans he)
      exact ⟨_, List.getElem?_eq_getElem hj, s, hx, hs⟩
    refine ⟨s, ?_, owns_below hs hb⟩
    rw [Nat.zero_add, ← Array.getElem?_toList]
    rw [← ht, Nat.mul_one, List.getElem?_take] at hx
    split at hx
    · exact hx
    · cases hx
end Go.Proofs.YthfpmhnnjjikcaaGreatDoor

/- Calls of a piece's methods through the interface; the Walker's small calls. -/
namespace Go.Proofs.YthfpmhnnjjikcaaGreatDoor
open Go Go.RowKit Go.Lib
set_option linter.unusedVariables false

theorem len5_1 {e : Op5} (hk : e.k = 1) : len5 e = ((scs e.t.data.toList).length : Int) := by
  unfold len5 lenO; rw [if_pos (Or.inl hk), if_pos hk]
theorem len5_2 {e : Op5} (hk : e.k = 2) : len5 e = 1 := by
  unfold len5 lenO; rw [if_pos (Or.inr hk), if_neg (by omega)]; rfl
theorem len5_3 {e : Op5} (hk : e.k = 3 ∨ e.k = 4) : len5 e = e.c := by
  unfold len5; rw [if_neg (by omega)]
theorem wpList_opP {w : World} {ops : Array Oper} {rest : List Oper} {o : Oper} {a : Act} {Q : Exit → Act → World → Prop} (hgd : o.guard = none) (x : Operand)
    (ho : o.op = .call { callee := .invoke x "Op", args := #[], argTypes := #[] }) (e : Op5) (s : Value) (hx : a.eval x = pieceQ e s) (hg : opE e = 0) (hR : RN w s e.A) (hl : e.A.length ≤ 2097152)
    (h : ∀ v' w', OwnA w' w.heap.size v' e.A → Below w.heap.size w w' → wpList Tryz.prog ops Q rest (a.put o.dst (opV e v')) w') : wpList Tryz.prog ops Q (o :: rest) a w := by
  refine wpList_plain hgd fun K hK => ?_
  unfold Oper.wp
  rcases kinds_of hg with hk | hk | hk | hk
  · rw [pieceQ_1 hk] at hx
    have hrun : (execOp a.eval o).run Tryz.prog w = .ok (.enter 195 #[.agg #[s, .string e.t, .int .i64 (scs e.t.data.toList).length]]) w := by
      simp only [execOp, ho, resolve, hx]
      kernel_rfl
    rw [hrun, Oper.upon_enter]
    refine (opQ_1 hg hk s w hR hl).mono fun r w' hh => ?_
    obtain ⟨v', rfl, h1, h2⟩ := hh
    exact hK _ _ (h v' w' h1 h2)
  · rw [pieceQ_2 hk] at hx
    have hrun : (execOp a.eval o).run Tryz.prog w = .ok (.enter 197 #[.agg #[s, .string e.t, valP e.v]]) w := by
      simp only [execOp, ho, resolve, hx]
      kernel_rfl
    rw [hrun, Oper.upon_enter]
    refine (opQ_2 hg hk s w hR hl).mono fun r w' hh => ?_
    obtain ⟨v', rfl, h1, h2⟩ := hh
    exact hK _ _ (h v' w' h1 h2)
  · rw [pieceQ_3 hk] at hx
    have hrun : (execOp a.eval o).run Tryz.prog w = .ok (.enter 193 #[.agg #[s, .int .i64 e.c]]) w := by
      simp only [execOp, ho, resolve, hx]
      kernel_rfl
    rw [hrun, Oper.upon_enter]
    refine (opQ_3 hg hk s w hR hl).mono fun r w' hh => ?_
    obtain ⟨v', rfl, h1, h2⟩ := hh
    exact hK _ _ (h v' w' h1 h2)
  · rw [pieceQ_4 hk] at hx
    have hrun : (execOp a.eval o).run Tryz.prog w = .ok (.enter 191 #[.agg #[.int .i64 e.c]]) w := by
      simp only [execOp, ho, resolve, hx]
      kernel_rfl
    rw [hrun, Oper.upon_enter]
    refine (opQ_4 hg hk w).mono fun r w' hh => ?_
    obtain ⟨v', rfl, h1, h2⟩ := hh
    exact hK _ _ (h v' w' h1 h2)
theorem wpList_lenP {w : World} {ops : Array Oper} {rest : List Oper} {o : Oper} {a : Act} {Q : Exit → Act → World → Prop} (hgd : o.guard = none) (x : Operand)
    (ho : o.op = .call { callee := .invoke x "Len", args := #[], argTypes := #[] }) (e : Op5) (s : Value) (hx : a.eval x = pieceQ e s) (hg : opE e = 0)
    (h : ∀ w', Below w.heap.size w w' → wpList Tryz.prog ops Q rest (a.put o.dst (.int .i64 (len5 e))) w') : wpList Tryz.prog ops Q (o :: rest) a w := by
  refine wpList_plain hgd fun K hK => ?_
  unfold Oper.wp
  rcases kinds_of hg with hk | hk | hk | hk
  · rw [pieceQ_1 hk] at hx
    rw [len5_1 hk] at h
    have hrun : (execOp a.eval o).run Tryz.prog w = .ok (.enter 194 #[.agg #[s, .string e.t, .int .i64 (scs e.t.data.toList).length]]) w := by
      simp only [execOp, ho, resolve, hx]
      kernel_rfl
    rw [hrun, Oper.upon_enter]
    refine (ilen_any s e.t _ w).mono fun r w' hh => ?_
    obtain ⟨rfl, h2⟩ := hh
    exact hK _ _ (h w' h2)
  · rw [pieceQ_2 hk] at hx
    rw [len5_2 hk] at h
    have hrun : (execOp a.eval o).run Tryz.prog w = .ok (.enter 196 #[.agg #[s, .string e.t, valP e.v]]) w := by
      simp only [execOp, ho, resolve, hx]
      kernel_rfl
    rw [hrun, Oper.upon_enter]
    refine (elen_any _ s e.t w).mono fun r w' hh => ?_
    obtain ⟨rfl, h2⟩ := hh
    exact hK _ _ (h w' h2)
  · rw [pieceQ_3 hk] at hx
    rw [len5_3 (.inl hk)] at h
    have hrun : (execOp a.eval o).run Tryz.prog w = .ok (.enter 192 #[.agg #[s, .int .i64 e.c]]) w := by
      simp only [execOp, ho, resolve, hx]
      kernel_rfl
    rw [hrun, Oper.upon_enter]
    refine (rlen_any s _ w).mono fun r w' hh => ?_
    obtain ⟨rfl, h2⟩ := hh
    exact hK _ _ (h w' h2)
  · rw [pieceQ_4 hk] at hx
    rw [len5_3 (.inr hk)] at h
    have hrun : (execOp a.eval o).run Tryz.prog w = .ok (.enter 190 #[.agg #[.int .i64 e.c]]) w := by
      simp only [execOp, ho, resolve, hx]
      kernel_rfl
    rw [hrun, Oper.upon_enter]
    refine (dlen_any _ w).mono fun r w' hh => ?_
    obtain ⟨rfl, h2⟩ := hh
    exact hK _ _ (h w' h2)

set_option maxHeartbeats 2000000 in
set_option maxRecDepth 100000 in
theorem newW_any {B1 B2 : Nat} (v : Value) (E : List Op5) (w : World) (h : DelV w B1 B2 v E) (hg : ∀ o ∈ E, opE o = 0) (hA : ∀ o ∈ E, o.A.length ≤ 2097152) (hl : E.length ≤ 4194304) :
    Calls Tryz.prog 22 #[v] w fun r w' => ∃ q g, r = .returned (.pointer (some ⟨q, 0, none⟩)) ∧ WkV w' w.heap.size q g E ∧ (E ≠ [] → g < w'.heap.size) ∧ Below w.heap.size w w' := by
  have c := pieces_any v E w h hg hA hl
  clear h hg hA hl
  go_enter Tryz.func22, Tryz.ntmps22
  go_wp2_with fail
  refine c.mono ?_; rintro r w2 ⟨v', rfl, ⟨P, own, pie⟩, b2⟩
  obtain ⟨g, hw, hgl⟩ := wk_new own pie b2.size
  have HGL : Hid (E ≠ [] → g < (w2.alloc (.cells #[v'] 138)).heap.size) := fun h => by rw [World.size_alloc]; have := hgl h; omega
  have HW : Hid (WkV (w2.alloc (.cells #[v'] 138)) w.heap.size w2.heap.size g E) := hw
  have b3 := b2.trans (((Below.refl _ w2).alloc (Nat.le_refl _) (.cells #[v'] 138)).mono b2.size)
  obtain ⟨p, n, rfl⟩ := own_slice own
  clear c own pie hw b2 hgl
  go_wp2
  go_ret
  exact ⟨_, g, rfl, HW.out, HGL.out, b3⟩
theorem doneW_any {B q g : Nat} {R : List Op5} (w : World) (h : WkV w B q g R) :
    Calls Tryz.prog 23 #[.pointer (some ⟨q, 0, none⟩)] w fun r w' => r = .returned (.bool (decide (R = []))) ∧ Below w.heap.size w w' := by
  obtain ⟨p, cap, c0, f0, hc⟩ := h.read0
  cases R with
  | nil =>
    clear h
    have e0 : ((0 : Int) == 0) = true := rfl
    go_enter Tryz.func23, Tryz.ntmps23
    go_wp2
    go_ret
    exact ⟨rfl, Below.refl _ _⟩
  | cons x r =>
    rw [List.length_cons] at c0
    have e0 : (((r.length + 1 : Nat) : Int) == 0) = false := beq_eq_false_iff_ne.2 (by omega)
    obtain ⟨n, hn⟩ : ∃ n, r.length + 1 = n := ⟨_, rfl⟩
    rw [hn] at c0 e0
    clear h hn hc
    go_enter Tryz.func23, Tryz.ntmps23
    go_wp2
    go_ret
    exact ⟨rfl, Below.refl _ _⟩
end Go.Proofs.YthfpmhnnjjikcaaGreatDoor

/- What the reference of layer 1 answers: Scalar, Encode (and what its decoder needs: places, numbers, owned rows of numbers). -/
namespace Go.Proofs.YthfpmhnnjjikcaaGreatDoor
open Go Go.RowKit Go.Lib
set_option linter.unusedVariables false


def isScal (z : Int) : Prop := (0 ≤ z ∧ z < 55296) ∨ (57344 ≤ z ∧ z ≤ 1114111)

def ints (rs : List Nat) : List Int := rs.map fun (r : Nat) => ((r : Nat) : Int)
theorem ints_length (rs : List Nat) : (ints rs).length = rs.length := by simp [ints]
def cells32 (zs : List Int) : List Value := zs.map fun z => .int .i32 z

/-- A slice of numbers that lies in memory made since B. -/
abbrev Own32 (B : Nat) (w : World) (v : Value) (zs : List Int) : Prop := w.ownsRow B 21 1 v zs.length (cells32 zs)

theorem info32 : ∃ i z, Tryz.prog.info? 21 = some i ∧ i.zero = some z ∧ i.size = 1 ∧ i.bytes = 4 ∧ z.cells.size = 1 := by
  obtain ⟨i, hi, h⟩ := Option.map_eq_some_iff.1 (show (Tryz.prog.info? 21).map (fun i => (i.zero, i.size, i.bytes)) = some (some (.int .i32 0), 1, 4) by kernel_rfl)
  simp only [Prod.mk.injEq] at h
  exact ⟨i, _, hi, h.1, h.2.1, h.2.2, rfl⟩

theorem ref_scal_yes (z : Int) (h : isScal z) (w : World) : Calls Tryz.prog 150 #[.int .i32 z] w fun e w' => e = .returned (.bool true) ∧ w' = w := by
  rcases h with ⟨h1, h2⟩ | ⟨h1, h2⟩
  · have f1 : decide (z ≥ 0) = true := decide_eq_true h1
    have f2 : decide (z < 55296) = true := decide_eq_true h2
    go_enter Tryz.func150, Tryz.ntmps150
    go_wp2
    go_ret
    exact ⟨rfl, rfl⟩
  · have f1 : decide (z ≥ 0) = true := decide_eq_true (by omega)
    have f2 : decide (z < 55296) = false := decide_eq_false (by omega)
    have f3 : decide (z ≥ 57344) = true := decide_eq_true h1
    have f4 : decide (z ≤ 1114111) = true := decide_eq_true h2
    go_enter Tryz.func150, Tryz.ntmps150
    go_wp2
    go_ret
    exact ⟨rfl, rfl⟩

theorem ref_scal_no (z : Int) (h : ¬ isScal z) (w : World) : Calls Tryz.prog 150 #[.int .i32 z] w fun e w' => e = .returned (.bool false) ∧ w' = w := by
  unfold isScal at h
  by_cases h0 : z < 0
  · have f1 : decide (z ≥ 0) = false := decide_eq_false (by omega)
    have f3 : decide (z ≥ 57344) = false := decide_eq_false (by omega)
    clear h
    go_enter Tryz.func150, Tryz.ntmps150
    go_wp2
    go_ret
    exact ⟨rfl, rfl⟩
  by_cases h1 : z < 57344
  · have f1 : decide (z ≥ 0) = true := decide_eq_true (by omega)
    have f2 : decide (z < 55296) = false := decide_eq_false (by omega)
    have f3 : decide (z ≥ 57344) = false := decide_eq_false (by omega)
    clear h
    go_enter Tryz.func150, Tryz.ntmps150
    go_wp2
    go_ret
    exact ⟨rfl, rfl⟩
  · have f1 : decide (z ≥ 0) = true := decide_eq_true (by omega)
    have f2 : decide (z < 55296) = false := decide_eq_false (by omega)
    have f3 : decide (z ≥ 57344) = true := decide_eq_true (by omega)
    have f4 : decide (z ≤ 1114111) = false := decide_eq_false (by omega)
    clear h
    go_enter Tryz.func150, Tryz.ntmps150
    go_wp2
    go_ret
    exact ⟨rfl, rfl⟩

def b8 (z : Int) : UInt8 := z.toNat.toUInt8

theorem conv1 (a : Int) (w : World) : (convert 98 9 (.slice (some ⟨w.heap.size, 0, none⟩) 1 1)).run Tryz.prog (w.alloc (.cells #[.int .u8 a] 5)) = .ok (.string ⟨#[b8 a]⟩) (w.alloc (.cells #[.int .u8 a] 5)) := by
  have := run_convert_bytes_arg (P := Tryz.prog) (w.alloc (.cells #[.int .u8 a] 5)) 98 5 Tryz.underlying98 Tryz.underlying5 w.heap.size 0 1 1 [a] rfl (fun i hi => by
    match i, hi with
    | 0, _ => simp) 9 Tryz.underlying9
  exact this
theorem conv2 (a b : Int) (w : World) : (convert 98 9 (.slice (some ⟨w.heap.size, 0, none⟩) 2 2)).run Tryz.prog (w.alloc (.cells #[.int .u8 a, .int .u8 b] 5)) = .ok (.string ⟨#[b8 a, b8 b]⟩) (w.alloc (.cells #[.int .u8 a, .int .u8 b] 5)) := by
  have := run_convert_bytes_arg (P := Tryz.prog) (w.alloc (.cells #[.int .u8 a, .int .u8 b] 5)) 98 5 Tryz.underlying98 Tryz.underlying5 w.heap.size 0 2 2 [a, b] rfl (fun i hi => by
    match i, hi with
    | 0, _ => simp
    | 1, _ => simp) 9 Tryz.underlying9
  exact this
theorem conv3 (a b c : Int) (w : World) : (convert 98 9 (.slice (some ⟨w.heap.size, 0, none⟩) 3 3)).run Tryz.prog (w.alloc (.cells #[.int .u8 a, .int .u8 b, .int .u8 c] 5)) = .ok (.string ⟨#[b8 a, b8 b, b8 c]⟩) (w.alloc (.cells #[.int .u8 a, .int .u8 b, .int .u8 c] 5)) := by
  have := run_convert_bytes_arg (P := Tryz.prog) (w.alloc (.cells #[.int .u8 a, .int .u8 b, .int .u8 c] 5)) 98 5 Tryz.underlying98 Tryz.underlying5 w.heap.size 0 3 3 [a, b, c] rfl (fun i hi => by
    match i, hi with
    | 0, _ => simp
    | 1, _ => simp
    | 2, _ => simp) 9 Tryz.underlying9
  exact this
theorem conv4 (a b c d : Int) (w : World) : (convert 98 9 (.slice (some ⟨w.heap.size, 0, none⟩) 4 4)).run Tryz.prog (w.alloc (.cells #[.int .u8 a, .int .u8 b, .int .u8 c, .int .u8 d] 5)) = .ok (.string ⟨#[b8 a, b8 b, b8 c, b8 d]⟩) (w.alloc (.cells #[.int .u8 a, .int .u8 b, .int .u8 c, .int .u8 d] 5)) := by
  have := run_convert_bytes_arg (P := Tryz.prog) (w.alloc (.cells #[.int .u8 a, .int .u8 b, .int .u8 c, .int .u8 d] 5)) 98 5 Tryz.underlying98 Tryz.underlying5 w.heap.size 0 4 4 [a, b, c, d] rfl (fun i hi => by
    match i, hi with
    | 0, _ => simp
    | 1, _ => simp
    | 2, _ => simp
    | 3, _ => simp) 9 Tryz.underlying9
  exact this

theorem ref_encode (r : Nat) (h : scal r) (w : World) : Calls Tryz.prog 125 #[.int .i32 r] w fun e w' => e = .returned (.string ⟨(enc r).toArray⟩) ∧ Below w.heap.size w w' := by
  have hr : (r : Int) ≤ 1114111 := by unfold scal at h; omega
  have g1 := conv1
  have g2 := conv2
  have g3 := conv3
  have g4 := conv4
  by_cases h1 : r < 128
  · have f1 : (r : Int) < 128 := by omega
    have HE : Hid (enc r = _) := enc_one h1
    clear h g2 g3 g4
    go_enter Tryz.func125, Tryz.ntmps125
    go_wp2
    go_ret
    rw [HE.out]
    exact ⟨rfl, (Below.refl _ _).alloc (Nat.le_refl _) _⟩
  by_cases h2 : r < 2048
  · have f1 : ¬ (r : Int) < 128 := by omega
    have f2 : (r : Int) < 2048 := by omega
    have HE : Hid (enc r = _) := enc_two (by omega) h2
    clear h g1 g3 g4
    go_enter Tryz.func125, Tryz.ntmps125
    go_wp2
    go_ret
    rw [HE.out]
    exact ⟨rfl, (Below.refl _ _).alloc (Nat.le_refl _) _⟩
  by_cases h3 : r < 65536
  · have f1 : ¬ (r : Int) < 128 := by omega
    have f2 : ¬ (r : Int) < 2048 := by omega
    have f3 : (r : Int) < 65536 := by omega
    have HE : Hid (enc r = _) := enc_three (by omega) h3 h
    clear h g1 g2 g4
    go_enter Tryz.func125, Tryz.ntmps125
    go_wp2
    go_ret
    rw [HE.out]
    exact ⟨rfl, (Below.refl _ _).alloc (Nat.le_refl _) _⟩
  · have f1 : ¬ (r : Int) < 128 := by omega
    have f2 : ¬ (r : Int) < 2048 := by omega
    have f3 : ¬ (r : Int) < 65536 := by omega
    have HE : Hid (enc r = _) := enc_four (by omega) (by omega)
    clear h g1 g2 g3
    go_enter Tryz.func125, Tryz.ntmps125
    go_wp2
    go_ret
    rw [HE.out]
    exact ⟨rfl, (Below.refl _ _).alloc (Nat.le_refl _) _⟩

end Go.Proofs.YthfpmhnnjjikcaaGreatDoor

/- What the reference's first answers: the scalar with whose encoding a text begins at a place. -/
namespace Go.Proofs.YthfpmhnnjjikcaaGreatDoor
open Go Go.RowKit Go.Lib Go.PlainAid Go.Sort
set_option linter.unusedVariables false

theorem ne_list {a b : ByteArray} (h : ¬ a = b) : (a.toList == b.toList) = false := by
  rw [toList_data, toList_data]
  refine beq_eq_false_iff_ne.2 fun e => h ?_
  apply ByteArray.ext
  exact Array.ext' e

set_option maxHeartbeats 1000000 in
set_option maxRecDepth 100000 in
theorem rf1_non (s : ByteArray) (k : Nat) (w : World) (hs : s.size ≤ 140737488351232) (hk : k < s.size) (h0 : bt s k < 192) (hI : k + 1 ≤ s.size) (Z : Int) (hz : bt s k = Z) (hn : ¬ isScal Z) :
    Calls Tryz.prog 137 #[.string s, .int .i64 k] w fun e w' => e = .returned (.tuple #[.int .i32 0, .int .i64 0]) ∧ Below w.heap.size w w' := by
  have q0 := bt_nonneg s k
  have r0 := bt_le s k
  have c0 : ¬ bt s k ≥ 240 := by omega
  have c1 : ¬ bt s k ≥ 224 := by omega
  have c2 : ¬ bt s k ≥ 192 := by omega
  have hI' : (k : Int) + 1 ≤ s.size := by omega
  unfold isScal at hn
  exfalso; omega

set_option maxHeartbeats 1000000 in
set_option maxRecDepth 100000 in
theorem rf1_same (s : ByteArray) (k : Nat) (w : World) (hs : s.size ≤ 140737488351232) (hk : k < s.size) (h0 : bt s k < 192) (hI : k + 1 ≤ s.size) (R : Nat) (hr : scal R) (Z : Int) (hZ : Z = R) (hz : bt s k = Z) (hX : s.extract k (k + 1) = ⟨(enc R).toArray⟩) :
    Calls Tryz.prog 137 #[.string s, .int .i64 k] w fun e w' => e = .returned (.tuple #[.int .i32 Z, .int .i64 1]) ∧ Below w.heap.size w w' := by
  have hb := get_bt s
  have q0 := bt_nonneg s k
  have r0 := bt_le s k
  have c0 : ¬ bt s k ≥ 240 := by omega
  have c1 : ¬ bt s k ≥ 224 := by omega
  have c2 : ¬ bt s k ≥ 192 := by omega
  have hI' : (k : Int) + 1 ≤ s.size := by omega
  obtain ⟨E, hE⟩ : ∃ E : ByteArray, ⟨(enc R).toArray⟩ = E := ⟨_, rfl⟩
  have henc := fun W => ref_encode R hr W
  rw [← hZ] at henc
  rw [hE] at hX henc
  have hz0 : (0 : Int) ≤ Z := by omega
  clear h0 hE
  unfold scal at hr
  by_cases hm : R < 55296
  · have g0 : decide (Z ≥ 0) = true := decide_eq_true (by omega)
    have g1 : decide (Z < 55296) = true := decide_eq_true (by omega)
    clear hr hm hZ
    go_enter Tryz.func137, Tryz.ntmps137
    go_wp2
    go_rounds 4
    have hkI : (0 : Int) ≤ k ∧ (k : Int) ≤ k + 1 := by omega
    clear hb q0 r0 c0 c1 c2 hz hz0
    have cE : ∀ d os, Calls Tryz.prog 125 #[.int .i32 Z] (grow (redrawn w d) os) fun e w'' => e = .returned (.string E) ∧ ∃ p : Regrown, w'' = grow (redrawn w p.d) p.os := fun d os => Calls.regrown_of (henc _)
    clear henc
    refine wp_region_quiet_below (by kernel_rfl) (by kernel_rfl) ?_
    repeat (first | go_big_quiet_step (exact cE _ _) | quiet_step (exact cE _ _))
    refine wpQuiet_nil ?_
    intro _ hw'
    obtain ⟨⟨dq, osq⟩, hw''⟩ := hw'
    subst hw''
    go_wp2
    go_ret2
    exact ⟨rfl, below_regrown w dq osq⟩
  · have g0 : decide (Z ≥ 0) = true := decide_eq_true (by omega)
    have g1 : decide (Z < 55296) = false := decide_eq_false (by omega)
    have g2 : decide (Z ≥ 57344) = true := decide_eq_true (by omega)
    have g3 : decide (Z ≤ 1114111) = true := decide_eq_true (by omega)
    clear hr hm hZ
    go_enter Tryz.func137, Tryz.ntmps137
    go_wp2
    go_rounds 4
    have hkI : (0 : Int) ≤ k ∧ (k : Int) ≤ k + 1 := by omega
    clear hb q0 r0 c0 c1 c2 hz hz0
    have cE : ∀ d os, Calls Tryz.prog 125 #[.int .i32 Z] (grow (redrawn w d) os) fun e w'' => e = .returned (.string E) ∧ ∃ p : Regrown, w'' = grow (redrawn w p.d) p.os := fun d os => Calls.regrown_of (henc _)
    clear henc
    refine wp_region_quiet_below (by kernel_rfl) (by kernel_rfl) ?_
    repeat (first | go_big_quiet_step (exact cE _ _) | quiet_step (exact cE _ _))
    refine wpQuiet_nil ?_
    intro _ hw'
    obtain ⟨⟨dq, osq⟩, hw''⟩ := hw'
    subst hw''
    go_wp2
    go_ret2
    exact ⟨rfl, below_regrown w dq osq⟩

set_option maxHeartbeats 1000000 in
set_option maxRecDepth 100000 in
theorem rf1_other (s : ByteArray) (k : Nat) (w : World) (hs : s.size ≤ 140737488351232) (hk : k < s.size) (h0 : bt s k < 192) (hI : k + 1 ≤ s.size) (R : Nat) (hr : scal R) (Z : Int) (hZ : Z = R) (hz : bt s k = Z) (hX : ¬ ⟨(enc R).toArray⟩ = s.extract k (k + 1)) :
    Calls Tryz.prog 137 #[.string s, .int .i64 k] w fun e w' => e = .returned (.tuple #[.int .i32 0, .int .i64 0]) ∧ Below w.heap.size w w' := by
  have hb := get_bt s
  have q0 := bt_nonneg s k
  have r0 := bt_le s k
  have c0 : ¬ bt s k ≥ 240 := by omega
  have c1 : ¬ bt s k ≥ 224 := by omega
  have c2 : ¬ bt s k ≥ 192 := by omega
  have hI' : (k : Int) + 1 ≤ s.size := by omega
  obtain ⟨E, hE⟩ : ∃ E : ByteArray, ⟨(enc R).toArray⟩ = E := ⟨_, rfl⟩
  have henc := fun W => ref_encode R hr W
  rw [← hZ] at henc
  rw [hE] at hX henc
  have hXl := ne_list hX
  have hz0 : (0 : Int) ≤ Z := by omega
  clear h0 hE
  unfold scal at hr
  by_cases hm : R < 55296
  · have g0 : decide (Z ≥ 0) = true := decide_eq_true (by omega)
    have g1 : decide (Z < 55296) = true := decide_eq_true (by omega)
    clear hr hm hZ
    go_enter Tryz.func137, Tryz.ntmps137
    go_wp2
    go_rounds 4
    have hkI : (0 : Int) ≤ k ∧ (k : Int) ≤ k + 1 := by omega
    clear hb q0 r0 c0 c1 c2 hz hz0
    have cE : ∀ d os, Calls Tryz.prog 125 #[.int .i32 Z] (grow (redrawn w d) os) fun e w'' => e = .returned (.string E) ∧ ∃ p : Regrown, w'' = grow (redrawn w p.d) p.os := fun d os => Calls.regrown_of (henc _)
    clear henc
    refine wp_region_quiet_below (by kernel_rfl) (by kernel_rfl) ?_
    repeat (first | go_big_quiet_step (exact cE _ _) | quiet_step (exact cE _ _))
    refine wpQuiet_nil ?_
    intro _ hw'
    obtain ⟨⟨dq, osq⟩, hw''⟩ := hw'
    subst hw''
    go_wp2
    go_ret2
    exact ⟨rfl, below_regrown w dq osq⟩
  · have g0 : decide (Z ≥ 0) = true := decide_eq_true (by omega)
    have g1 : decide (Z < 55296) = false := decide_eq_false (by omega)
    have g2 : decide (Z ≥ 57344) = true := decide_eq_true (by omega)
    have g3 : decide (Z ≤ 1114111) = true := decide_eq_true (by omega)
    clear hr hm hZ
    go_enter Tryz.func137, Tryz.ntmps137
    go_wp2
    go_rounds 4
    have hkI : (0 : Int) ≤ k ∧ (k : Int) ≤ k + 1 := by omega
    clear hb q0 r0 c0 c1 c2 hz hz0
    have cE : ∀ d os, Calls Tryz.prog 125 #[.int .i32 Z] (grow (redrawn w d) os) fun e w'' => e = .returned (.string E) ∧ ∃ p : Regrown, w'' = grow (redrawn w p.d) p.os := fun d os => Calls.regrown_of (henc _)
    clear henc
    refine wp_region_quiet_below (by kernel_rfl) (by kernel_rfl) ?_
    repeat (first | go_big_quiet_step (exact cE _ _) | quiet_step (exact cE _ _))
    refine wpQuiet_nil ?_
    intro _ hw'
    obtain ⟨⟨dq, osq⟩, hw''⟩ := hw'
    subst hw''
    go_wp2
    go_ret2
    exact ⟨rfl, below_regrown w dq osq⟩

theorem rf2_out (s : ByteArray) (k : Nat) (w : World) (hs : s.size ≤ 140737488351232) (hk : k < s.size) (h0 : 192 ≤ bt s k) (h1 : bt s k < 224) (ho : s.size < k + 2) :
    Calls Tryz.prog 137 #[.string s, .int .i64 k] w fun e w' => e = .returned (.tuple #[.int .i32 0, .int .i64 0]) ∧ Below w.heap.size w w' := by
  have hb := get_bt s
  have q0 := bt_nonneg s k
  have r0 := bt_le s k
  have c0 : ¬ bt s k ≥ 240 := by omega
  have c1 : ¬ bt s k ≥ 224 := by omega
  have c2 : bt s k ≥ 192 := by omega
  have hI : ¬ (k : Int) + 2 ≤ s.size := by omega
  clear h0 h1
  go_enter Tryz.func137, Tryz.ntmps137
  go_wp2
  go_ret2
  exact ⟨rfl, Below.refl _ _⟩

set_option maxHeartbeats 1000000 in
set_option maxRecDepth 100000 in
theorem rf2_non (s : ByteArray) (k : Nat) (w : World) (hs : s.size ≤ 140737488351232) (hk : k < s.size) (h0 : 192 ≤ bt s k) (h1 : bt s k < 224) (hI : k + 2 ≤ s.size) (Z : Int) (hz : (bt s k - 192) * 64 + bt s (k + 1) % 64 = Z) (hn : ¬ isScal Z) :
    Calls Tryz.prog 137 #[.string s, .int .i64 k] w fun e w' => e = .returned (.tuple #[.int .i32 0, .int .i64 0]) ∧ Below w.heap.size w w' := by
  have q0 := bt_nonneg s k
  have r0 := bt_le s k
  have q1 := bt_nonneg s (k + 1)
  have r1 := bt_le s (k + 1)
  have c0 : ¬ bt s k ≥ 240 := by omega
  have c1 : ¬ bt s k ≥ 224 := by omega
  have c2 : bt s k ≥ 192 := by omega
  have hI' : (k : Int) + 2 ≤ s.size := by omega
  unfold isScal at hn
  exfalso; omega

set_option maxHeartbeats 1000000 in
set_option maxRecDepth 100000 in
theorem rf2_same (s : ByteArray) (k : Nat) (w : World) (hs : s.size ≤ 140737488351232) (hk : k < s.size) (h0 : 192 ≤ bt s k) (h1 : bt s k < 224) (hI : k + 2 ≤ s.size) (R : Nat) (hr : scal R) (Z : Int) (hZ : Z = R) (hz : (bt s k - 192) * 64 + bt s (k + 1) % 64 = Z) (hX : s.extract k (k + 2) = ⟨(enc R).toArray⟩) :
    Calls Tryz.prog 137 #[.string s, .int .i64 k] w fun e w' => e = .returned (.tuple #[.int .i32 Z, .int .i64 2]) ∧ Below w.heap.size w w' := by
  have hb := get_bt s
  have q0 := bt_nonneg s k
  have r0 := bt_le s k
  have q1 := bt_nonneg s (k + 1)
  have r1 := bt_le s (k + 1)
  have c0 : ¬ bt s k ≥ 240 := by omega
  have c1 : ¬ bt s k ≥ 224 := by omega
  have c2 : bt s k ≥ 192 := by omega
  have hI' : (k : Int) + 2 ≤ s.size := by omega
  obtain ⟨E, hE⟩ : ∃ E : ByteArray, ⟨(enc R).toArray⟩ = E := ⟨_, rfl⟩
  have henc := fun W => ref_encode R hr W
  rw [← hZ] at henc
  rw [hE] at hX henc
  have hz0 : (0 : Int) ≤ Z := by omega
  clear h0 h1 hE
  unfold scal at hr
  by_cases hm : R < 55296
  · have g0 : decide (Z ≥ 0) = true := decide_eq_true (by omega)
    have g1 : decide (Z < 55296) = true := decide_eq_true (by omega)
    clear hr hm hZ
    go_enter Tryz.func137, Tryz.ntmps137
    go_wp2
    go_rounds 4
    have hkI : (0 : Int) ≤ k ∧ (k : Int) ≤ k + 2 := by omega
    clear hb q0 r0 q1 r1 c0 c1 c2 hz hz0
    have cE : ∀ d os, Calls Tryz.prog 125 #[.int .i32 Z] (grow (redrawn w d) os) fun e w'' => e = .returned (.string E) ∧ ∃ p : Regrown, w'' = grow (redrawn w p.d) p.os := fun d os => Calls.regrown_of (henc _)
    clear henc
    refine wp_region_quiet_below (by kernel_rfl) (by kernel_rfl) ?_
    repeat (first | go_big_quiet_step (exact cE _ _) | quiet_step (exact cE _ _))
    refine wpQuiet_nil ?_
    intro _ hw'
    obtain ⟨⟨dq, osq⟩, hw''⟩ := hw'
    subst hw''
    go_wp2
    go_ret2
    exact ⟨rfl, below_regrown w dq osq⟩
  · have g0 : decide (Z ≥ 0) = true := decide_eq_true (by omega)
    have g1 : decide (Z < 55296) = false := decide_eq_false (by omega)
    have g2 : decide (Z ≥ 57344) = true := decide_eq_true (by omega)
    have g3 : decide (Z ≤ 1114111) = true := decide_eq_true (by omega)
    clear hr hm hZ
    go_enter Tryz.func137, Tryz.ntmps137
    go_wp2
    go_rounds 4
    have hkI : (0 : Int) ≤ k ∧ (k : Int) ≤ k + 2 := by omega
    clear hb q0 r0 q1 r1 c0 c1 c2 hz hz0
    have cE : ∀ d os, Calls Tryz.prog 125 #[.int .i32 Z] (grow (redrawn w d) os) fun e w'' => e = .returned (.string E) ∧ ∃ p : Regrown, w'' = grow (redrawn w p.d) p.os := fun d os => Calls.regrown_of (henc _)
    clear henc
    refine wp_region_quiet_below (by kernel_rfl) (by kernel_rfl) ?_
    repeat (first | go_big_quiet_step (exact cE _ _) | quiet_step (exact cE _ _))
    refine wpQuiet_nil ?_
    intro _ hw'
    obtain ⟨⟨dq, osq⟩, hw''⟩ := hw'
    subst hw''
    go_wp2
    go_ret2
    exact ⟨rfl, below_regrown w dq osq⟩

set_option maxHeartbeats 1000000 in
set_option maxRecDepth 100000 in
theorem rf2_other (s : ByteArray) (k : Nat) (w : World) (hs : s.size ≤ 140737488351232) (hk : k < s.size) (h0 : 192 ≤ bt s k) (h1 : bt s k < 224) (hI : k + 2 ≤ s.size) (R : Nat) (hr : scal R) (Z : Int) (hZ : Z = R) (hz : (bt s k - 192) * 64 + bt s (k + 1) % 64 = Z) (hX : ¬ ⟨(enc R).toArray⟩ = s.extract k (k + 2)) :
    Calls Tryz.prog 137 #[.string s, .int .i64 k] w fun e w' => e = .returned (.tuple #[.int .i32 0, .int .i64 0]) ∧ Below w.heap.size w w' := by
  have hb := get_bt s
  have q0 := bt_nonneg s k
  have r0 := bt_le s k
  have q1 := bt_nonneg s (k + 1)
  have r1 := bt_le s (k + 1)
  have c0 : ¬ bt s k ≥ 240 := by omega
  have c1 : ¬ bt s k ≥ 224 := by omega
  have c2 : bt s k ≥ 192 := by omega
  have hI' : (k : Int) + 2 ≤ s.size := by omega
  obtain ⟨E, hE⟩ : ∃ E : ByteArray, ⟨(enc R).toArray⟩ = E := ⟨_, rfl⟩
  have henc := fun W => ref_encode R hr W
  rw [← hZ] at henc
  rw [hE] at hX henc
  have hXl := ne_list hX
  have hz0 : (0 : Int) ≤ Z := by omega
  clear h0 h1 hE
  unfold scal at hr
  by_cases hm : R < 55296
  · have g0 : decide (Z ≥ 0) = true := decide_eq_true (by omega)
    have g1 : decide (Z < 55296) = true := decide_eq_true (by omega)
    clear hr hm hZ
    go_enter Tryz.func137, Tryz.ntmps137
    go_wp2
    go_rounds 4
    have hkI : (0 : Int) ≤ k ∧ (k : Int) ≤ k + 2 := by omega
    clear hb q0 r0 q1 r1 c0 c1 c2 hz hz0
    have cE : ∀ d os, Calls Tryz.prog 125 #[.int .i32 Z] (grow (redrawn w d) os) fun e w'' => e = .returned (.string E) ∧ ∃ p : Regrown, w'' = grow (redrawn w p.d) p.os := fun d os => Calls.regrown_of (henc _)
    clear henc
    refine wp_region_quiet_below (by kernel_rfl) (by kernel_rfl) ?_
    repeat (first | go_big_quiet_step (exact cE _ _) | quiet_step (exact cE _ _))
    refine wpQuiet_nil ?_
    intro _ hw'
    obtain ⟨⟨dq, osq⟩, hw''⟩ := hw'
    subst hw''
    go_wp2
    go_ret2
    exact ⟨rfl, below_regrown w dq osq⟩
  · have g0 : decide (Z ≥ 0) = true := decide_eq_true (by omega)
    have g1 : decide (Z < 55296) = false := decide_eq_false (by omega)
    have g2 : decide (Z ≥ 57344) = true := decide_eq_true (by omega)
    have g3 : decide (Z ≤ 1114111) = true := decide_eq_true (by omega)
    clear hr hm hZ
    go_enter Tryz.func137, Tryz.ntmps137
    go_wp2
    go_rounds 4
    have hkI : (0 : Int) ≤ k ∧ (k : Int) ≤ k + 2 := by omega
    clear hb q0 r0 q1 r1 c0 c1 c2 hz hz0
    have cE : ∀ d os, Calls Tryz.prog 125 #[.int .i32 Z] (grow (redrawn w d) os) fun e w'' => e = .returned (.string E) ∧ ∃ p : Regrown, w'' = grow (redrawn w p.d) p.os := fun d os => Calls.regrown_of (henc _)
    clear henc
    refine wp_region_quiet_below (by kernel_rfl) (by kernel_rfl) ?_
    repeat (first | go_big_quiet_step (exact cE _ _) | quiet_step (exact cE _ _))
    refine wpQuiet_nil ?_
    intro _ hw'
    obtain ⟨⟨dq, osq⟩, hw''⟩ := hw'
    subst hw''
    go_wp2
    go_ret2
    exact ⟨rfl, below_regrown w dq osq⟩

theorem rf3_out (s : ByteArray) (k : Nat) (w : World) (hs : s.size ≤ 140737488351232) (hk : k < s.size) (h0 : 224 ≤ bt s k) (h1 : bt s k < 240) (ho : s.size < k + 3) :
    Calls Tryz.prog 137 #[.string s, .int .i64 k] w fun e w' => e = .returned (.tuple #[.int .i32 0, .int .i64 0]) ∧ Below w.heap.size w w' := by
  have hb := get_bt s
  have q0 := bt_nonneg s k
  have r0 := bt_le s k
  have c0 : ¬ bt s k ≥ 240 := by omega
  have c1 : bt s k ≥ 224 := by omega
  have hI : ¬ (k : Int) + 3 ≤ s.size := by omega
  clear h0 h1
  go_enter Tryz.func137, Tryz.ntmps137
  go_wp2
  go_ret2
  exact ⟨rfl, Below.refl _ _⟩

set_option maxHeartbeats 1000000 in
set_option maxRecDepth 100000 in
theorem rf3_non (s : ByteArray) (k : Nat) (w : World) (hs : s.size ≤ 140737488351232) (hk : k < s.size) (h0 : 224 ≤ bt s k) (h1 : bt s k < 240) (hI : k + 3 ≤ s.size) (Z : Int) (hz : ((bt s k - 224) * 64 + bt s (k + 1) % 64) * 64 + bt s (k + 2) % 64 = Z) (hn : ¬ isScal Z) :
    Calls Tryz.prog 137 #[.string s, .int .i64 k] w fun e w' => e = .returned (.tuple #[.int .i32 0, .int .i64 0]) ∧ Below w.heap.size w w' := by
  have hb := get_bt s
  have q0 := bt_nonneg s k
  have r0 := bt_le s k
  have q1 := bt_nonneg s (k + 1)
  have r1 := bt_le s (k + 1)
  have q2 := bt_nonneg s (k + 2)
  have r2 := bt_le s (k + 2)
  have c0 : ¬ bt s k ≥ 240 := by omega
  have c1 : bt s k ≥ 224 := by omega
  have hI' : (k : Int) + 3 ≤ s.size := by omega
  have hz0 : 0 ≤ Z := by omega
  unfold isScal at hn
  clear h0 h1
  by_cases hm : Z < 57344
  · have g0 : decide (Z ≥ 0) = true := decide_eq_true (by omega)
    have g1 : decide (Z < 55296) = false := decide_eq_false (by omega)
    have g2 : decide (Z ≥ 57344) = false := decide_eq_false (by omega)
    clear hn hm
    go_enter Tryz.func137, Tryz.ntmps137
    go_wp2
    go_rounds 4
    go_quiet (fail)
    go_wp2
    go_ret2
    exact ⟨rfl, below_drewN (Below.refl _ _) _⟩
  · exfalso; omega

set_option maxHeartbeats 1000000 in
set_option maxRecDepth 100000 in
theorem rf3_same (s : ByteArray) (k : Nat) (w : World) (hs : s.size ≤ 140737488351232) (hk : k < s.size) (h0 : 224 ≤ bt s k) (h1 : bt s k < 240) (hI : k + 3 ≤ s.size) (R : Nat) (hr : scal R) (Z : Int) (hZ : Z = R) (hz : ((bt s k - 224) * 64 + bt s (k + 1) % 64) * 64 + bt s (k + 2) % 64 = Z) (hX : s.extract k (k + 3) = ⟨(enc R).toArray⟩) :
    Calls Tryz.prog 137 #[.string s, .int .i64 k] w fun e w' => e = .returned (.tuple #[.int .i32 Z, .int .i64 3]) ∧ Below w.heap.size w w' := by
  have hb := get_bt s
  have q0 := bt_nonneg s k
  have r0 := bt_le s k
  have q1 := bt_nonneg s (k + 1)
  have r1 := bt_le s (k + 1)
  have q2 := bt_nonneg s (k + 2)
  have r2 := bt_le s (k + 2)
  have c0 : ¬ bt s k ≥ 240 := by omega
  have c1 : bt s k ≥ 224 := by omega
  have hI' : (k : Int) + 3 ≤ s.size := by omega
  obtain ⟨E, hE⟩ : ∃ E : ByteArray, ⟨(enc R).toArray⟩ = E := ⟨_, rfl⟩
  have henc := fun W => ref_encode R hr W
  rw [← hZ] at henc
  rw [hE] at hX henc
  have hz0 : (0 : Int) ≤ Z := by omega
  clear h0 h1 hE
  unfold scal at hr
  by_cases hm : R < 55296
  · have g0 : decide (Z ≥ 0) = true := decide_eq_true (by omega)
    have g1 : decide (Z < 55296) = true := decide_eq_true (by omega)
    clear hr hm hZ
    go_enter Tryz.func137, Tryz.ntmps137
    go_wp2
    go_rounds 4
    have hkI : (0 : Int) ≤ k ∧ (k : Int) ≤ k + 3 := by omega
    clear hb q0 r0 q1 r1 q2 r2 c0 c1 hz hz0
    have cE : ∀ d os, Calls Tryz.prog 125 #[.int .i32 Z] (grow (redrawn w d) os) fun e w'' => e = .returned (.string E) ∧ ∃ p : Regrown, w'' = grow (redrawn w p.d) p.os := fun d os => Calls.regrown_of (henc _)
    clear henc
    refine wp_region_quiet_below (by kernel_rfl) (by kernel_rfl) ?_
    repeat (first | go_big_quiet_step (exact cE _ _) | quiet_step (exact cE _ _))
    refine wpQuiet_nil ?_
    intro _ hw'
    obtain ⟨⟨dq, osq⟩, hw''⟩ := hw'
    subst hw''
    go_wp2
    go_ret2
    exact ⟨rfl, below_regrown w dq osq⟩
  · have g0 : decide (Z ≥ 0) = true := decide_eq_true (by omega)
    have g1 : decide (Z < 55296) = false := decide_eq_false (by omega)
    have g2 : decide (Z ≥ 57344) = true := decide_eq_true (by omega)
    have g3 : decide (Z ≤ 1114111) = true := decide_eq_true (by omega)
    clear hr hm hZ
    go_enter Tryz.func137, Tryz.ntmps137
    go_wp2
    go_rounds 4
    have hkI : (0 : Int) ≤ k ∧ (k : Int) ≤ k + 3 := by omega
    clear hb q0 r0 q1 r1 q2 r2 c0 c1 hz hz0
    have cE : ∀ d os, Calls Tryz.prog 125 #[.int .i32 Z] (grow (redrawn w d) os) fun e w'' => e = .returned (.string E) ∧ ∃ p : Regrown, w'' = grow (redrawn w p.d) p.os := fun d os => Calls.regrown_of (henc _)
    clear henc
    refine wp_region_quiet_below (by kernel_rfl) (by kernel_rfl) ?_
    repeat (first | go_big_quiet_step (exact cE _ _) | quiet_step (exact cE _ _))
    refine wpQuiet_nil ?_
    intro _ hw'
    obtain ⟨⟨dq, osq⟩, hw''⟩ := hw'
    subst hw''
    go_wp2
    go_ret2
    exact ⟨rfl, below_regrown w dq osq⟩

set_option maxHeartbeats 1000000 in
set_option maxRecDepth 100000 in
theorem rf3_other (s : ByteArray) (k : Nat) (w : World) (hs : s.size ≤ 140737488351232) (hk : k < s.size) (h0 : 224 ≤ bt s k) (h1 : bt s k < 240) (hI : k + 3 ≤ s.size) (R : Nat) (hr : scal R) (Z : Int) (hZ : Z = R) (hz : ((bt s k - 224) * 64 + bt s (k + 1) % 64) * 64 + bt s (k + 2) % 64 = Z) (hX : ¬ ⟨(enc R).toArray⟩ = s.extract k (k + 3)) :
    Calls Tryz.prog 137 #[.string s, .int .i64 k] w fun e w' => e = .returned (.tuple #[.int .i32 0, .int .i64 0]) ∧ Below w.heap.size w w' := by
  have hb := get_bt s
  have q0 := bt_nonneg s k
  have r0 := bt_le s k
  have q1 := bt_nonneg s (k + 1)
  have r1 := bt_le s (k + 1)
  have q2 := bt_nonneg s (k + 2)
  have r2 := bt_le s (k + 2)
  have c0 : ¬ bt s k ≥ 240 := by omega
  have c1 : bt s k ≥ 224 := by omega
  have hI' : (k : Int) + 3 ≤ s.size := by omega
  obtain ⟨E, hE⟩ : ∃ E : ByteArray, ⟨(enc R).toArray⟩ = E := ⟨_, rfl⟩
  have henc := fun W => ref_encode R hr W
  rw [← hZ] at henc
  rw [hE] at hX henc
  have hXl := ne_list hX
  have hz0 : (0 : Int) ≤ Z := by omega
  clear h0 h1 hE
  unfold scal at hr
  by_cases hm : R < 55296
  · have g0 : decide (Z ≥ 0) = true := decide_eq_true (by omega)
    have g1 : decide (Z < 55296) = true := decide_eq_true (by omega)
    clear hr hm hZ
    go_enter Tryz.func137, Tryz.ntmps137
    go_wp2
    go_rounds 4
    have hkI : (0 : Int) ≤ k ∧ (k : Int) ≤ k + 3 := by omega
    clear hb q0 r0 q1 r1 q2 r2 c0 c1 hz hz0
    have cE : ∀ d os, Calls Tryz.prog 125 #[.int .i32 Z] (grow (redrawn w d) os) fun e w'' => e = .returned (.string E) ∧ ∃ p : Regrown, w'' = grow (redrawn w p.d) p.os := fun d os => Calls.regrown_of (henc _)
    clear henc
    refine wp_region_quiet_below (by kernel_rfl) (by kernel_rfl) ?_
    repeat (first | go_big_quiet_step (exact cE _ _) | quiet_step (exact cE _ _))
    refine wpQuiet_nil ?_
    intro _ hw'
    obtain ⟨⟨dq, osq⟩, hw''⟩ := hw'
    subst hw''
    go_wp2
    go_ret2
    exact ⟨rfl, below_regrown w dq osq⟩
  · have g0 : decide (Z ≥ 0) = true := decide_eq_true (by omega)
    have g1 : decide (Z < 55296) = false := decide_eq_false (by omega)
    have g2 : decide (Z ≥ 57344) = true := decide_eq_true (by omega)
    have g3 : decide (Z ≤ 1114111) = true := decide_eq_true (by omega)
    clear hr hm hZ
    go_enter Tryz.func137, Tryz.ntmps137
    go_wp2
    go_rounds 4
    have hkI : (0 : Int) ≤ k ∧ (k : Int) ≤ k + 3 := by omega
    clear hb q0 r0 q1 r1 q2 r2 c0 c1 hz hz0
    have cE : ∀ d os, Calls Tryz.prog 125 #[.int .i32 Z] (grow (redrawn w d) os) fun e w'' => e = .returned (.string E) ∧ ∃ p : Regrown, w'' = grow (redrawn w p.d) p.os := fun d os => Calls.regrown_of (henc _)
    clear henc
    refine wp_region_quiet_below (by kernel_rfl) (by kernel_rfl) ?_
    repeat (first | go_big_quiet_step (exact cE _ _) | quiet_step (exact cE _ _))
    refine wpQuiet_nil ?_
    intro _ hw'
    obtain ⟨⟨dq, osq⟩, hw''⟩ := hw'
    subst hw''
    go_wp2
    go_ret2
    exact ⟨rfl, below_regrown w dq osq⟩

theorem rf4_out (s : ByteArray) (k : Nat) (w : World) (hs : s.size ≤ 140737488351232) (hk : k < s.size) (h0 : 240 ≤ bt s k) (ho : s.size < k + 4) :
    Calls Tryz.prog 137 #[.string s, .int .i64 k] w fun e w' => e = .returned (.tuple #[.int .i32 0, .int .i64 0]) ∧ Below w.heap.size w w' := by
  have hb := get_bt s
  have q0 := bt_nonneg s k
  have r0 := bt_le s k
  have c0 : bt s k ≥ 240 := by omega
  have hI : ¬ (k : Int) + 4 ≤ s.size := by omega
  clear h0
  go_enter Tryz.func137, Tryz.ntmps137
  go_wp2
  go_ret2
  exact ⟨rfl, Below.refl _ _⟩

set_option maxHeartbeats 1000000 in
set_option maxRecDepth 100000 in
theorem rf4_non (s : ByteArray) (k : Nat) (w : World) (hs : s.size ≤ 140737488351232) (hk : k < s.size) (h0 : 240 ≤ bt s k) (hI : k + 4 ≤ s.size) (Z : Int) (hz : (((bt s k - 240) * 64 + bt s (k + 1) % 64) * 64 + bt s (k + 2) % 64) * 64 + bt s (k + 3) % 64 = Z) (hn : ¬ isScal Z) :
    Calls Tryz.prog 137 #[.string s, .int .i64 k] w fun e w' => e = .returned (.tuple #[.int .i32 0, .int .i64 0]) ∧ Below w.heap.size w w' := by
  have hb := get_bt s
  have q0 := bt_nonneg s k
  have r0 := bt_le s k
  have q1 := bt_nonneg s (k + 1)
  have r1 := bt_le s (k + 1)
  have q2 := bt_nonneg s (k + 2)
  have r2 := bt_le s (k + 2)
  have q3 := bt_nonneg s (k + 3)
  have r3 := bt_le s (k + 3)
  have c0 : bt s k ≥ 240 := by omega
  have hI' : (k : Int) + 4 ≤ s.size := by omega
  have hz0 : 0 ≤ Z := by omega
  unfold isScal at hn
  clear h0
  by_cases hm : Z < 57344
  · have g0 : decide (Z ≥ 0) = true := decide_eq_true (by omega)
    have g1 : decide (Z < 55296) = false := decide_eq_false (by omega)
    have g2 : decide (Z ≥ 57344) = false := decide_eq_false (by omega)
    clear hn hm
    go_enter Tryz.func137, Tryz.ntmps137
    go_wp2
    go_rounds 4
    go_quiet (fail)
    go_wp2
    go_ret2
    exact ⟨rfl, below_drewN (Below.refl _ _) _⟩
  · have g0 : decide (Z ≥ 0) = true := decide_eq_true (by omega)
    have g1 : decide (Z < 55296) = false := decide_eq_false (by omega)
    have g2 : decide (Z ≥ 57344) = true := decide_eq_true (by omega)
    have g3 : decide (Z ≤ 1114111) = false := decide_eq_false (by omega)
    clear hn hm
    go_enter Tryz.func137, Tryz.ntmps137
    go_wp2
    go_rounds 4
    go_quiet (fail)
    go_wp2
    go_ret2
    exact ⟨rfl, below_drewN (Below.refl _ _) _⟩

set_option maxHeartbeats 1000000 in
set_option maxRecDepth 100000 in
theorem rf4_same (s : ByteArray) (k : Nat) (w : World) (hs : s.size ≤ 140737488351232) (hk : k < s.size) (h0 : 240 ≤ bt s k) (hI : k + 4 ≤ s.size) (R : Nat) (hr : scal R) (Z : Int) (hZ : Z = R) (hz : (((bt s k - 240) * 64 + bt s (k + 1) % 64) * 64 + bt s (k + 2) % 64) * 64 + bt s (k + 3) % 64 = Z) (hX : s.extract k (k + 4) = ⟨(enc R).toArray⟩) :
    Calls Tryz.prog 137 #[.string s, .int .i64 k] w fun e w' => e = .returned (.tuple #[.int .i32 Z, .int .i64 4]) ∧ Below w.heap.size w w' := by
  have hb := get_bt s
  have q0 := bt_nonneg s k
  have r0 := bt_le s k
  have q1 := bt_nonneg s (k + 1)
  have r1 := bt_le s (k + 1)
  have q2 := bt_nonneg s (k + 2)
  have r2 := bt_le s (k + 2)
  have q3 := bt_nonneg s (k + 3)
  have r3 := bt_le s (k + 3)
  have c0 : bt s k ≥ 240 := by omega
  have hI' : (k : Int) + 4 ≤ s.size := by omega
  obtain ⟨E, hE⟩ : ∃ E : ByteArray, ⟨(enc R).toArray⟩ = E := ⟨_, rfl⟩
  have henc := fun W => ref_encode R hr W
  rw [← hZ] at henc
  rw [hE] at hX henc
  have hz0 : (0 : Int) ≤ Z := by omega
  clear h0 hE
  unfold scal at hr
  by_cases hm : R < 55296
  · have g0 : decide (Z ≥ 0) = true := decide_eq_true (by omega)
    have g1 : decide (Z < 55296) = true := decide_eq_true (by omega)
    clear hr hm hZ
    go_enter Tryz.func137, Tryz.ntmps137
    go_wp2
    go_rounds 4
    have hkI : (0 : Int) ≤ k ∧ (k : Int) ≤ k + 4 := by omega
    clear hb q0 r0 q1 r1 q2 r2 q3 r3 c0 hz hz0
    have cE : ∀ d os, Calls Tryz.prog 125 #[.int .i32 Z] (grow (redrawn w d) os) fun e w'' => e = .returned (.string E) ∧ ∃ p : Regrown, w'' = grow (redrawn w p.d) p.os := fun d os => Calls.regrown_of (henc _)
    clear henc
    refine wp_region_quiet_below (by kernel_rfl) (by kernel_rfl) ?_
    repeat (first | go_big_quiet_step (exact cE _ _) | quiet_step (exact cE _ _))
    refine wpQuiet_nil ?_
    intro _ hw'
    obtain ⟨⟨dq, osq⟩, hw''⟩ := hw'
    subst hw''
    go_wp2
    go_ret2
    exact ⟨rfl, below_regrown w dq osq⟩
  · have g0 : decide (Z ≥ 0) = true := decide_eq_true (by omega)
    have g1 : decide (Z < 55296) = false := decide_eq_false (by omega)
    have g2 : decide (Z ≥ 57344) = true := decide_eq_true (by omega)
    have g3 : decide (Z ≤ 1114111) = true := decide_eq_true (by omega)
    clear hr hm hZ
    go_enter Tryz.func137, Tryz.ntmps137
    go_wp2
    go_rounds 4
    have hkI : (0 : Int) ≤ k ∧ (k : Int) ≤ k + 4 := by omega
    clear hb q0 r0 q1 r1 q2 r2 q3 r3 c0 hz hz0
    have cE : ∀ d os, Calls Tryz.prog 125 #[.int .i32 Z] (grow (redrawn w d) os) fun e w'' => e = .returned (.string E) ∧ ∃ p : Regrown, w'' = grow (redrawn w p.d) p.os := fun d os => Calls.regrown_of (henc _)
    clear henc
    refine wp_region_quiet_below (by kernel_rfl) (by kernel_rfl) ?_
    repeat (first | go_big_quiet_step (exact cE _ _) | quiet_step (exact cE _ _))
    refine wpQuiet_nil ?_
    intro _ hw'
    obtain ⟨⟨dq, osq⟩, hw''⟩ := hw'
    subst hw''
    go_wp2
    go_ret2
    exact ⟨rfl, below_regrown w dq osq⟩

set_option maxHeartbeats 1000000 in
set_option maxRecDepth 100000 in
theorem rf4_other (s : ByteArray) (k : Nat) (w : World) (hs : s.size ≤ 140737488351232) (hk : k < s.size) (h0 : 240 ≤ bt s k) (hI : k + 4 ≤ s.size) (R : Nat) (hr : scal R) (Z : Int) (hZ : Z = R) (hz : (((bt s k - 240) * 64 + bt s (k + 1) % 64) * 64 + bt s (k + 2) % 64) * 64 + bt s (k + 3) % 64 = Z) (hX : ¬ ⟨(enc R).toArray⟩ = s.extract k (k + 4)) :
    Calls Tryz.prog 137 #[.string s, .int .i64 k] w fun e w' => e = .returned (.tuple #[.int .i32 0, .int .i64 0]) ∧ Below w.heap.size w w' := by
  have hb := get_bt s
  have q0 := bt_nonneg s k
  have r0 := bt_le s k
  have q1 := bt_nonneg s (k + 1)
  have r1 := bt_le s (k + 1)
  have q2 := bt_nonneg s (k + 2)
  have r2 := bt_le s (k + 2)
  have q3 := bt_nonneg s (k + 3)
  have r3 := bt_le s (k + 3)
  have c0 : bt s k ≥ 240 := by omega
  have hI' : (k : Int) + 4 ≤ s.size := by omega
  obtain ⟨E, hE⟩ : ∃ E : ByteArray, ⟨(enc R).toArray⟩ = E := ⟨_, rfl⟩
  have henc := fun W => ref_encode R hr W
  rw [← hZ] at henc
  rw [hE] at hX henc
  have hXl := ne_list hX
  have hz0 : (0 : Int) ≤ Z := by omega
  clear h0 hE
  unfold scal at hr
  by_cases hm : R < 55296
  · have g0 : decide (Z ≥ 0) = true := decide_eq_true (by omega)
    have g1 : decide (Z < 55296) = true := decide_eq_true (by omega)
    clear hr hm hZ
    go_enter Tryz.func137, Tryz.ntmps137
    go_wp2
    go_rounds 4
    have hkI : (0 : Int) ≤ k ∧ (k : Int) ≤ k + 4 := by omega
    clear hb q0 r0 q1 r1 q2 r2 q3 r3 c0 hz hz0
    have cE : ∀ d os, Calls Tryz.prog 125 #[.int .i32 Z] (grow (redrawn w d) os) fun e w'' => e = .returned (.string E) ∧ ∃ p : Regrown, w'' = grow (redrawn w p.d) p.os := fun d os => Calls.regrown_of (henc _)
    clear henc
    refine wp_region_quiet_below (by kernel_rfl) (by kernel_rfl) ?_
    repeat (first | go_big_quiet_step (exact cE _ _) | quiet_step (exact cE _ _))
    refine wpQuiet_nil ?_
    intro _ hw'
    obtain ⟨⟨dq, osq⟩, hw''⟩ := hw'
    subst hw''
    go_wp2
    go_ret2
    exact ⟨rfl, below_regrown w dq osq⟩
  · have g0 : decide (Z ≥ 0) = true := decide_eq_true (by omega)
    have g1 : decide (Z < 55296) = false := decide_eq_false (by omega)
    have g2 : decide (Z ≥ 57344) = true := decide_eq_true (by omega)
    have g3 : decide (Z ≤ 1114111) = true := decide_eq_true (by omega)
    clear hr hm hZ
    go_enter Tryz.func137, Tryz.ntmps137
    go_wp2
    go_rounds 4
    have hkI : (0 : Int) ≤ k ∧ (k : Int) ≤ k + 4 := by omega
    clear hb q0 r0 q1 r1 q2 r2 q3 r3 c0 hz hz0
    have cE : ∀ d os, Calls Tryz.prog 125 #[.int .i32 Z] (grow (redrawn w d) os) fun e w'' => e = .returned (.string E) ∧ ∃ p : Regrown, w'' = grow (redrawn w p.d) p.os := fun d os => Calls.regrown_of (henc _)
    clear henc
    refine wp_region_quiet_below (by kernel_rfl) (by kernel_rfl) ?_
    repeat (first | go_big_quiet_step (exact cE _ _) | quiet_step (exact cE _ _))
    refine wpQuiet_nil ?_
    intro _ hw'
    obtain ⟨⟨dq, osq⟩, hw''⟩ := hw'
    subst hw''
    go_wp2
    go_ret2
    exact ⟨rfl, below_regrown w dq osq⟩

end Go.Proofs.YthfpmhnnjjikcaaGreatDoor

/- What the reference's first and decode answer. -/
namespace Go.Proofs.YthfpmhnnjjikcaaGreatDoor
open Go Go.RowKit Go.Lib Go.PlainAid
set_option linter.unusedVariables false

theorem bt_at (s : ByteArray) (k j : Nat) (x : UInt8) (h : (s.data.toList.drop k)[j]? = some x) : bt s (k + j) = (x.toNat : Int) ∧ k + j < s.size := by
  rw [List.getElem?_drop] at h
  obtain ⟨h1, h2⟩ := List.getElem?_eq_some_iff.1 h
  rw [size_toList] at h1
  refine ⟨?_, h1⟩
  unfold bt
  rw [dif_pos h1, ← h2]
  rfl

theorem bt_enc (s : ByteArray) (k j : Nat) (z : Int) (l : List UInt8) (hz0 : 0 ≤ z) (hz1 : z < 256) (hd : s.data.toList.drop k = l) (h : l[j]? = some z.toNat.toUInt8) : bt s (k + j) = z ∧ k + j < s.size := by
  obtain ⟨h1, h2⟩ := bt_at s k j _ (by rw [hd]; exact h)
  rw [u8_nat _ hz0 hz1] at h1
  exact ⟨by omega, h2⟩

theorem ref_first_ok (s : ByteArray) (k : Nat) (w : World) (hs : s.size ≤ 140737488351232) (r : Nat) (h : scal r) (t : List UInt8) (hd : s.data.toList.drop k = enc r ++ t) :
    Calls Tryz.prog 137 #[.string s, .int .i64 k] w fun e w' => e = .returned (.tuple #[.int .i32 r, .int .i64 ((enc r).length : Nat)]) ∧ Below w.heap.size w w' := by
  have hX : s.extract k (k + (enc r).length) = ⟨(enc r).toArray⟩ := extract_of s (enc r) k (k + (enc r).length) (by rw [hd, Nat.add_sub_cancel_left, List.take_left])
  have hh := h
  unfold scal at hh
  by_cases h1 : r < 128
  · have e := enc_one h1
    rw [e] at hd
    obtain ⟨a0, s0⟩ := bt_enc s k 0 _ _ (by omega) (by omega) hd rfl
    rw [Nat.add_zero] at a0 s0
    have hl : (enc r).length = 1 := by rw [e]; rfl
    rw [hl] at hX ⊢
    exact rf1_same s k w hs s0 (by omega) s0 r h r rfl (by omega) hX
  by_cases h2 : r < 2048
  · have e := enc_two (by omega) h2
    rw [e] at hd
    obtain ⟨a0, s0⟩ := bt_enc s k 0 _ _ (by omega) (by omega) hd rfl
    obtain ⟨a1, s1⟩ := bt_enc s k 1 _ _ (by omega) (by omega) hd rfl
    rw [Nat.add_zero] at a0 s0
    have hl : (enc r).length = 2 := by rw [e]; rfl
    rw [hl] at hX ⊢
    exact rf2_same s k w hs s0 (by omega) (by omega) s1 r h r rfl (by omega) hX
  by_cases h3 : r < 65536
  · have e := enc_three (by omega) h3 h
    rw [e] at hd
    obtain ⟨a0, s0⟩ := bt_enc s k 0 _ _ (by omega) (by omega) hd rfl
    obtain ⟨a1, s1⟩ := bt_enc s k 1 _ _ (by omega) (by omega) hd rfl
    obtain ⟨a2, s2⟩ := bt_enc s k 2 _ _ (by omega) (by omega) hd rfl
    rw [Nat.add_zero] at a0 s0
    have hl : (enc r).length = 3 := by rw [e]; rfl
    rw [hl] at hX ⊢
    exact rf3_same s k w hs s0 (by omega) (by omega) s2 r h r rfl (by omega) hX
  · have e := enc_four (by omega) (by omega : r ≤ 1114111)
    rw [e] at hd
    obtain ⟨a0, s0⟩ := bt_enc s k 0 _ _ (by omega) (by omega) hd rfl
    obtain ⟨a1, s1⟩ := bt_enc s k 1 _ _ (by omega) (by omega) hd rfl
    obtain ⟨a2, s2⟩ := bt_enc s k 2 _ _ (by omega) (by omega) hd rfl
    obtain ⟨a3, s3⟩ := bt_enc s k 3 _ _ (by omega) (by omega) hd rfl
    rw [Nat.add_zero] at a0 s0
    have hl : (enc r).length = 4 := by rw [e]; rfl
    rw [hl] at hX ⊢
    exact rf4_same s k w hs s0 (by omega) s3 r h r rfl (by omega) hX

theorem not_extract {s : ByteArray} {k n : Nat} {R : Nat} (hR : scal R) (hst : stuckL (s.data.toList.drop k)) : ¬ ⟨(enc R).toArray⟩ = s.extract k (k + n) := by
  intro e
  have e1 := congrArg (fun x : ByteArray => x.data.toList) e
  simp only [extract_data, Nat.add_sub_cancel_left] at e1
  have e2 : s.data.toList.drop k = enc R ++ (s.data.toList.drop k).drop n := by
    conv => lhs; rw [← List.take_append_drop n (s.data.toList.drop k)]
    rw [← e1]
  exact not_stuck_enc hR _ (e2 ▸ hst)

theorem ref_first_bad (s : ByteArray) (k : Nat) (w : World) (hs : s.size ≤ 140737488351232) (hk : k < s.size) (hst : stuckL (s.data.toList.drop k)) :
    Calls Tryz.prog 137 #[.string s, .int .i64 k] w fun e w' => e = .returned (.tuple #[.int .i32 0, .int .i64 0]) ∧ Below w.heap.size w w' := by
  have q0 := bt_nonneg s k
  have q1 := bt_nonneg s (k + 1)
  have q2 := bt_nonneg s (k + 2)
  have q3 := bt_nonneg s (k + 3)
  have go : ∀ Z : Int, isScal Z → ∃ R : Nat, scal R ∧ Z = R := fun Z hz => ⟨Z.toNat, by unfold isScal at hz; unfold scal; omega, by unfold isScal at hz; omega⟩
  by_cases h1 : bt s k < 192
  · by_cases hZ : isScal (bt s k)
    · obtain ⟨R, hR, e⟩ := go _ hZ
      exact rf1_other s k w hs hk h1 hk R hR _ e rfl (not_extract hR hst)
    · exact rf1_non s k w hs hk h1 hk _ rfl hZ
  by_cases h2 : bt s k < 224
  · by_cases ho : s.size < k + 2
    · exact rf2_out s k w hs hk (by omega) h2 ho
    by_cases hZ : isScal ((bt s k - 192) * 64 + bt s (k + 1) % 64)
    · obtain ⟨R, hR, e⟩ := go _ hZ
      exact rf2_other s k w hs hk (by omega) h2 (by omega) R hR _ e rfl (not_extract hR hst)
    · exact rf2_non s k w hs hk (by omega) h2 (by omega) _ rfl hZ
  by_cases h3 : bt s k < 240
  · by_cases ho : s.size < k + 3
    · exact rf3_out s k w hs hk (by omega) h3 ho
    by_cases hZ : isScal (((bt s k - 224) * 64 + bt s (k + 1) % 64) * 64 + bt s (k + 2) % 64)
    · obtain ⟨R, hR, e⟩ := go _ hZ
      exact rf3_other s k w hs hk (by omega) h3 (by omega) R hR _ e rfl (not_extract hR hst)
    · exact rf3_non s k w hs hk (by omega) h3 (by omega) _ rfl hZ
  · by_cases ho : s.size < k + 4
    · exact rf4_out s k w hs hk (by omega) ho
    by_cases hZ : isScal ((((bt s k - 240) * 64 + bt s (k + 1) % 64) * 64 + bt s (k + 2) % 64) * 64 + bt s (k + 3) % 64)
    · obtain ⟨R, hR, e⟩ := go _ hZ
      exact rf4_other s k w hs hk (by omega) (by omega) R hR _ e rfl (not_extract hR hst)
    · exact rf4_non s k w hs hk (by omega) (by omega) _ rfl hZ
end Go.Proofs.YthfpmhnnjjikcaaGreatDoor

/- What the reference's decode, Breaks, List and Check answer. -/
namespace Go.Proofs.YthfpmhnnjjikcaaGreatDoor
open Go Go.RowKit Go.Lib
set_option linter.unusedVariables false

set_option maxHeartbeats 1000000 in
set_option maxRecDepth 100000 in
theorem ref_decode (s : ByteArray) (w : World) (hs : s.size ≤ 35184372087808) :
    Calls Tryz.prog 124 #[.string s] w fun e w' => ∃ v, e = .returned (.tuple #[v, .int .i64 (brk s.data.toList)]) ∧ Own32 w.heap.size w' v (ints (scs s.data.toList)) ∧ (∃ g cap, v = .slice (some ⟨g, 0, none⟩) (scs s.data.toList).length cap) ∧ Below w.heap.size w w' := by
  obtain ⟨t, h1, h2, h3⟩ := text_cases s.data.toList
  have hbk : brk s.data.toList = (encs (scs s.data.toList)).length := rfl
  obtain ⟨rs, hrs⟩ : ∃ rs, scs s.data.toList = rs := ⟨_, rfl⟩
  obtain ⟨B, hB⟩ : ∃ B, brk s.data.toList = B := ⟨_, rfl⟩
  rw [hB, hrs] at hbk
  rw [hrs] at h1 h3 ⊢
  rw [hB]
  obtain ⟨n, hn⟩ : ∃ n, rs.length = n := ⟨_, rfl⟩
  have hpn : pos rs n = B := by rw [← hn, pos_all, hbk]
  have hsz : B + t.length = s.size := by
    have := congrArg List.length h3
    rw [List.length_append, size_toList] at this
    omega
  have hnB : n ≤ B := by
    have : ∀ rs : List Nat, (∀ r ∈ rs, scal r) → rs.length ≤ (encs rs).length := fun rs => by
      induction rs with
      | nil => intro _; exact Nat.le_refl _
      | cons x rs ih =>
        intro hx
        have := enc_pos (hx x (by simp))
        have := ih fun r hr => hx r (by simp [hr])
        simp only [encs, List.length_append, List.length_cons]
        omega
    have := this rs h1
    omega
  have hdrop : ∀ i, s.data.toList.drop (pos rs i) = encs (rs.drop i) ++ t := fun i => by
    rw [h3, List.drop_append_of_le_length (pos_le rs i), drop_pos]
  obtain ⟨i0, z0, hi, hz, hz1, hz2, hz3⟩ := info32
  have hZ : Hid (i0.zero = some z0 ∧ i0.size = 1 ∧ i0.bytes = 4 ∧ z0.cells.size = 1) := ⟨hz, hz1, hz2, hz3⟩
  have HD : Hid (∀ i, s.data.toList.drop (pos rs i) = encs (rs.drop i) ++ t) := hdrop
  have HP : Hid (pos rs n = B) := hpn
  have HN : Hid (rs.length = n) := hn
  have HS : Hid (B + t.length = s.size) := hsz
  have hBs : B ≤ s.size := by omega
  clear hz hz1 hz2 hz3 hdrop hpn hn hsz h3 hrs hB hbk
  go_enter Tryz.func124, Tryz.ntmps124
  go_wp2
  have hst : (w.alloc (.cells #[] 21)).ownsRow w.heap.size 21 1 (.slice (some ⟨w.heap.size, 0, none⟩) 0 0) 0 [] := World.ownsRow_made w #[] 0 (Nat.le_refl _) (Nat.zero_le _) rfl
  have hbi : Below w.heap.size w (w.alloc (.cells #[] 21)) := (Below.refl _ _).alloc (Nat.le_refl _) _
  obtain ⟨v0, hv0⟩ : ∃ v0 : Value, v0 = Value.slice (some ⟨w.heap.size, 0, none⟩) 0 0 := ⟨_, rfl⟩
  have HV0 : Hid (∃ g cap, v0 = .slice (some ⟨g, 0, none⟩) 0 cap) := ⟨_, _, hv0⟩
  rw [← hv0] at hst ⊢
  obtain ⟨wi, hwi⟩ : ∃ wi, wi = w.alloc (.cells #[] 21) := ⟨_, rfl⟩
  rw [← hwi] at hst hbi ⊢
  clear hv0 hwi
  go_loopw [4, 5] (fun v p wr => ∃ i q : Nat, i ≤ n ∧ p = .int .i64 q ∧ q = pos rs i ∧ wr.ownsRow w.heap.size 21 1 v i (cells32 (ints (rs.take i))) ∧ (∃ g cap, v = .slice (some ⟨g, 0, none⟩) i cap) ∧ Below w.heap.size w wr) (fun _ p _ => s.size - (RowKit.intOf p).toNat)
  case atStart => exact ⟨0, 0, Nat.zero_le _, rfl, rfl, hst, HV0.out, hbi⟩
  case round =>
    clear hst hbi
    obtain ⟨i, q, hin, rfl, hq, hown, hform, hbw⟩ := hrel
    have HF : Hid (∃ g cap, u4 = .slice (some ⟨g, 0, none⟩) i cap) := hform
    clear hform
    by_cases hlt : i < n
    · have hr := h1 _ (List.getElem_mem (show i < rs.length by rw [HN.out]; exact hlt))
      have hps := pos_succ rs i (by rw [HN.out]; exact hlt)
      have hpl := enc_pos hr
      have hle : pos rs (i + 1) ≤ s.size := by
        have := congrArg List.length (HD.out (i + 1))
        have h4 := pos_le rs (i + 1)
        have h5 := HP.out
        rw [← HN.out, pos_all] at h5
        omega
      have hd : s.data.toList.drop q = enc (rs[i]'(by rw [HN.out]; exact hlt)) ++ (encs (rs.drop (i + 1)) ++ t) := by
        rw [hq, HD.out i, List.drop_eq_getElem_cons (by rw [HN.out]; exact hlt), encs, List.append_assoc]
      have HT : Hid (cells32 (ints (rs.take (i + 1))) = cells32 (ints (rs.take i)) ++ [.int .i32 ((rs[i]'(by rw [HN.out]; exact hlt) : Nat) : Int)]) := by
        show _ = _
        rw [List.take_succ_eq_append_getElem (by rw [HN.out]; exact hlt)]
        simp only [cells32, ints, List.map_append, List.map_cons, List.map_nil]
      have c := fun W => ref_first_ok s q W (by omega) _ hr _ hd
      obtain ⟨R, hR⟩ : ∃ R, rs[i]'(by rw [HN.out]; exact hlt) = R := ⟨_, rfl⟩
      rw [hR] at hps hpl HT c
      obtain ⟨L, hL⟩ : ∃ L, (enc R).length = L := ⟨_, rfl⟩
      rw [hL] at hps hpl c
      rw [hps, ← hq] at hle
      have HQ : Hid (pos rs (i + 1) = q + L) := by show _ = _; rw [hps, hq]
      clear hd hps hR hL h1 hq hr
      go_wp2_with (first
        | (go_at_call 137; refine (c _).mono ?_; rintro e w2 ⟨rfl, hb2⟩; have hbw2 := hbw.trans (hb2.mono hbw.size); have hown3 : (w2.alloc (.cells #[.int .i32 R] 21)).ownsRow w.heap.size 21 1 _ i _ := owns_below (owns_below hown hb2) ((Below.refl _ _).alloc (Nat.le_refl _) _))
        | (at_builtin; refine wpList_append_own _ rfl _ _ 171 rfl w.heap.size 21 i0 z0 1 4 Tryz.underlying171 hi hZ.out.1 hZ.out.2.1 hZ.out.2.2.1 hZ.out.2.2.2 (by decide) _ i _ rfl hown3 ⟨w2.heap.size, 0, none⟩ 1 1 [.int .i32 R] rfl rfl (by intro j u hj; cases j with | zero => (simp at hj; subst hj; simp [Addr.add]) | succ j => simp at hj) (fun u hu => by rw [List.mem_singleton.1 hu]; rfl) (by unfold maxLen; omega) (by omega) (by simp; have := hbw2.size; omega) ?_; intro v' w3 hown4 hgr4 _))
      have hb3 : Below w.heap.size w w3 := (hbw2.alloc hbw2.size _).grown hgr4 (by have := hbw2.size; simp; omega) (fun k hk => (owns_block hown3 k hk).1)
      go_roundw
      case rel => exact ⟨i + 1, q + L, by omega, by go_num, HQ.out.symm, by rw [HT.out]; exact hown4, own_val hown4 (by omega), hb3⟩
      case measure => simp [RowKit.intOf]; omega
    · obtain rfl : i = n := by omega
      have hqB : q = B := by rw [hq, HP.out]
      have hall : rs.take i = rs := List.take_of_length_le (by rw [HN.out]; exact Nat.le_refl _)
      have HO : Hid (wr.ownsRow w.heap.size 21 1 u4 (ints rs).length (cells32 (ints rs))) := by
        show wr.ownsRow _ _ _ _ _ _
        rw [ints_length, HN.out]
        rw [hall] at hown
        exact hown
      subst hqB
      by_cases hend : q < s.size
      · have hst : stuckL (s.data.toList.drop q) := by
          have e0 : rs.drop i = [] := List.drop_eq_nil_of_le (by rw [HN.out]; exact Nat.le_refl _)
          have := HD.out i
          rw [← hq, e0] at this
          simp only [encs, List.nil_append] at this
          rw [this]
          exact h2
        have c := ref_first_bad s q wr (by omega) hend hst
        have hendI : (q : Int) < s.size := by omega
        clear hown hall hq h1 hst
        go_wp2_with (go_at_call 137; refine c.mono ?_; rintro e w2 ⟨rfl, hb2⟩)
        go_ret2
        exact ⟨_, rfl, owns_below HO.out hb2, by rw [HN.out]; exact HF.out, hbw.trans (hb2.mono hbw.size)⟩
      · have hendI : ¬ (q : Int) < s.size := by omega
        clear hown hall hq h1
        go_wp2
        go_ret2
        exact ⟨_, rfl, HO.out, by rw [HN.out]; exact HF.out, hbw⟩

theorem ref_breaks (s : ByteArray) (w : World) (hs : s.size ≤ 35184372087808) :
    Calls Tryz.prog 134 #[.string s] w fun e w' => e = .returned (.int .i64 (brk s.data.toList)) ∧ Below w.heap.size w w' := by
  have c := ref_decode s w hs
  go_enter Tryz.func134, Tryz.ntmps134
  go_wp2_with (go_at_call 124; refine c.mono ?_; rintro e w2 ⟨v, rfl, _, _, hb2⟩)
  go_ret
  exact ⟨rfl, hb2⟩
theorem ref_list (s : ByteArray) (w : World) (hs : s.size ≤ 35184372087808) :
    Calls Tryz.prog 107 #[.string s] w fun e w' => ∃ v, e = .returned v ∧ Own32 w.heap.size w' v (ints (scs s.data.toList)) ∧ (∃ g cap, v = .slice (some ⟨g, 0, none⟩) (scs s.data.toList).length cap) ∧ Below w.heap.size w w' := by
  have c := ref_decode s w hs
  go_enter Tryz.func107, Tryz.ntmps107
  go_wp2_with (go_at_call 124; refine c.mono ?_; rintro e w2 ⟨v, rfl, hv, hf, hb2⟩)
  go_ret
  exact ⟨_, rfl, hv, hf, hb2⟩
end Go.Proofs.YthfpmhnnjjikcaaGreatDoor

/- The order of Plains: a total order. -/
namespace Go.Proofs.YthfpmhnnjjikcaaGreatDoor
open Go Go.RowKit Go.Lib
set_option linter.unusedVariables false

theorem ci_cases (x y : Int) : (x < y ∧ compareInt x y = -1) ∨ (x = y ∧ compareInt x y = 0) ∨ (y < x ∧ compareInt x y = 1) := by
  unfold compareInt
  by_cases h : x < y
  · left; simp [h]
  · by_cases h2 : x > y
    · right; right; simp [h, h2]
    · right; left
      refine ⟨by omega, by simp [h, h2]⟩
theorem cmp_range (k n : Int) (t : ByteArray) (k' n' : Int) (t' : ByteArray) : -1 ≤ cmpP k n t k' n' t' ∧ cmpP k n t k' n' t' ≤ 1 := by
  unfold cmpP orZ
  have h3 := cb_range t.data.toList t'.data.toList
  rcases ci_cases k k' with ⟨_, h1⟩ | ⟨_, h1⟩ | ⟨_, h1⟩ <;> rw [h1] <;> simp
  rcases ci_cases n n' with ⟨_, h2⟩ | ⟨_, h2⟩ | ⟨_, h2⟩ <;> rw [h2] <;> simp
  omega
theorem cmp_swap (k n : Int) (t : ByteArray) (k' n' : Int) (t' : ByteArray) : cmpP k' n' t' k n t = - cmpP k n t k' n' t' := by
  unfold cmpP orZ
  rcases ci_cases k k' with ⟨a1, h1⟩ | ⟨a1, h1⟩ | ⟨a1, h1⟩ <;> rcases ci_cases k' k with ⟨a2, h2⟩ | ⟨a2, h2⟩ | ⟨a2, h2⟩ <;> rw [h1, h2] <;> simp <;> (try omega)
  rcases ci_cases n n' with ⟨b1, g1⟩ | ⟨b1, g1⟩ | ⟨b1, g1⟩ <;> rcases ci_cases n' n with ⟨b2, g2⟩ | ⟨b2, g2⟩ | ⟨b2, g2⟩ <;> rw [g1, g2] <;> simp <;> (try omega)
  exact cb_swap _ _
theorem cmp_zero (k n : Int) (t : ByteArray) (k' n' : Int) (t' : ByteArray) : cmpP k n t k' n' t' = 0 ↔ samB k n t k' n' t' = true := by
  rw [samB_iff]
  unfold cmpP orZ
  rcases ci_cases k k' with ⟨a1, h1⟩ | ⟨a1, h1⟩ | ⟨a1, h1⟩ <;> rw [h1] <;> simp
  · omega
  · rcases ci_cases n n' with ⟨b1, g1⟩ | ⟨b1, g1⟩ | ⟨b1, g1⟩ <;> rw [g1] <;> simp
    · omega
    · rw [cb_zero]
      constructor
      · intro h; exact ⟨a1, b1, ByteArray.ext (Array.ext' h)⟩
      · rintro ⟨_, _, rfl⟩; rfl
    · omega
  · omega
theorem cmp_trans (k n : Int) (t : ByteArray) (k' n' : Int) (t' : ByteArray) (k2 n2 : Int) (t2 : ByteArray) (h1 : cmpP k n t k' n' t' ≤ 0) (h2 : cmpP k' n' t' k2 n2 t2 ≤ 0) :
    cmpP k n t k2 n2 t2 ≤ 0 ∧ (cmpP k n t k' n' t' < 0 → cmpP k n t k2 n2 t2 < 0) := by
  unfold cmpP orZ at *
  rcases ci_cases k k' with ⟨a1, e1⟩ | ⟨a1, e1⟩ | ⟨a1, e1⟩ <;> rw [e1] at h1 ⊢ <;>
  rcases ci_cases k' k2 with ⟨a2, e2⟩ | ⟨a2, e2⟩ | ⟨a2, e2⟩ <;> rw [e2] at h2 <;>
  rcases ci_cases k k2 with ⟨a3, e3⟩ | ⟨a3, e3⟩ | ⟨a3, e3⟩ <;> rw [e3] <;> simp at h1 h2 ⊢ <;> (try omega)
  rcases ci_cases n n' with ⟨b1, g1⟩ | ⟨b1, g1⟩ | ⟨b1, g1⟩ <;> rw [g1] at h1 ⊢ <;>
  rcases ci_cases n' n2 with ⟨b2, g2⟩ | ⟨b2, g2⟩ | ⟨b2, g2⟩ <;> rw [g2] at h2 <;>
  rcases ci_cases n n2 with ⟨b3, g3⟩ | ⟨b3, g3⟩ | ⟨b3, g3⟩ <;> rw [g3] <;> simp at h1 h2 ⊢ <;> (try omega)
  have := cb_trans _ _ _ h1 h2
  exact ⟨this.1, this.2.1⟩
theorem cmp_num {k n n' : Int} : cmpP k n ⟨#[]⟩ k n' ⟨#[]⟩ = compareInt n n' := by
  unfold cmpP orZ
  rcases ci_cases k k with ⟨a1, h1⟩ | ⟨a1, h1⟩ | ⟨a1, h1⟩
  · omega
  · rw [h1]; simp
    intro h
    rw [h, cb_zero]
  · omega
theorem cmp_text {t t' : ByteArray} : cmpP 3 0 t 3 0 t' = compareBytes t.data.toList t'.data.toList := by
  unfold cmpP orZ
  rcases ci_cases 3 3 with ⟨a1, h1⟩ | ⟨a1, h1⟩ | ⟨a1, h1⟩
  · omega
  · rcases ci_cases 0 0 with ⟨a2, h2⟩ | ⟨a2, h2⟩ | ⟨a2, h2⟩
    · omega
    · rw [h1, h2]; simp
    · omega
  · omega

end Go.Proofs.YthfpmhnnjjikcaaGreatDoor

/- What the reference of layer 2 answers: text, Check, Compare. -/
namespace Go.Proofs.YthfpmhnnjjikcaaGreatDoor
open Go Go.RowKit Go.Lib
set_option linter.unusedVariables false

theorem ref_utf8 (s : ByteArray) (w : World) (hs : s.size ≤ 35184372087808) (b : Bool) (hb : decide (brk s.data.toList = s.size) = b) :
    Calls Tryz.prog 120 #[.string s] w fun e w' => e = .returned (.bool b) ∧ Below w.heap.size w w' := by
  have c := ref_breaks s w hs
  obtain ⟨B, hB⟩ : ∃ B, brk s.data.toList = B := ⟨_, rfl⟩
  rw [hB] at c hb
  have e : ((B : Int) == (s.size : Int)) = b := by
    rw [← hb, Bool.eq_iff_iff]; simp; omega
  clear hB hb
  go_enter Tryz.func120, Tryz.ntmps120
  go_wp2_with (go_at_call 134; refine c.mono ?_; rintro r w2 ⟨rfl, hb2⟩)
  go_ret
  exact ⟨rfl, hb2⟩

theorem ref_txt (t : ByteArray) (w : World) (hs : t.size ≤ 35184372087808) :
    Calls Tryz.prog 135 #[.string t] w fun e w' => e = .returned (.int .i64 (txtE t)) ∧ Below w.heap.size w w' := by
  rcases txtE_cases t with ⟨he, hv, hl⟩ | ⟨he, hv, hl⟩ | ⟨he, hv⟩
  all_goals rw [he]
  · have c := ref_utf8 t w hs true (by simpa using hv)
    have hl' : (t.size : Int) ≤ 1048576 := by omega
    clear hv he
    go_enter Tryz.func135, Tryz.ntmps135
    go_wp2_with (go_at_call 120; refine c.mono ?_; rintro r w2 ⟨rfl, hb2⟩)
    go_ret
    exact ⟨rfl, hb2⟩
  · have c := ref_utf8 t w hs true (by simpa using hv)
    have hl' : (1048576 : Int) < t.size := by omega
    clear hv he
    go_enter Tryz.func135, Tryz.ntmps135
    go_wp2_with (go_at_call 120; refine c.mono ?_; rintro r w2 ⟨rfl, hb2⟩)
    go_ret
    exact ⟨rfl, hb2⟩
  · have c := ref_utf8 t w hs false (by simpa using hv)
    clear hv he
    go_enter Tryz.func135, Tryz.ntmps135
    go_wp2_with (go_at_call 120; refine c.mono ?_; rintro r w2 ⟨rfl, hb2⟩)
    go_ret
    exact ⟨rfl, hb2⟩

theorem ref_chk (k n : Int) (t : ByteArray) (w : World) (hs : t.size ≤ 35184372087808) :
    Calls Tryz.prog 121 #[pl k n t] w fun e w' => e = .returned (.int .i64 (chk k n t)) ∧ Below w.heap.size w w' := by
  have b0 := (Below.refl w.heap.size w).alloc (Nat.le_refl _) (.cells #[.int .i64 k, .int .i64 n, .string t] 30)
  have cT := from_below b0 (ref_txt t _ hs)
  obtain ⟨E, hE⟩ : ∃ E, chk k n t = E := ⟨_, rfl⟩
  rw [hE]
  by_cases h3 : k = 3
  · subst h3
    by_cases hn : n = 0
    · subst hn
      rw [chk_text] at hE
      rw [hE] at cT
      clear hE
      go_enter Tryz.func121, Tryz.ntmps121
      go_wp2_with (go_at_call 135; refine cT.mono ?_; rintro r w2 ⟨rfl, hb2⟩)
      go_ret
      exact ⟨rfl, hb2⟩
    · have hd : (n == 0) = false := by simpa using hn
      have : E = 5 := by rw [← hE]; simp [chk, fitB, hn]
      subst this
      clear hE cT hn
      go_enter Tryz.func121, Tryz.ntmps121
      go_wp2
      go_ret
      exact ⟨rfl, b0⟩
  · have hT : fitB k n t = true → t = ⟨#[]⟩ := fun hf => by
      have hf2 := hf
      unfold fitB at hf2
      repeat' split at hf2
      all_goals first | (simp only [Bool.and_eq_true, emp_iff] at hf2; exact hf2.2) | exact emp_iff.1 hf2 | (exfalso; omega) | (exfalso; cases hf2)
    have hE2 : E = if fitB k n t then 0 else 5 := by
      rw [← hE, chk]
      by_cases hf : fitB k n t = true
      · rw [if_pos hf, if_pos hf, hT hf, txtE_nil]
      · rw [if_neg hf, if_neg hf]
    clear hE hT cT
    by_cases h0 : k = 0
    · subst h0
      by_cases hn : n = 0
      · subst hn
        cases hEm : t.toList.isEmpty <;>
        · simp [fitB, hEm] at hE2
          subst hE2
          go_enter Tryz.func121, Tryz.ntmps121
          go_wp2
          go_ret
          exact ⟨rfl, b0⟩
      · have hd : (n != 0) = true := by simpa using hn
        simp [fitB, hn] at hE2
        subst hE2
        clear hn
        go_enter Tryz.func121, Tryz.ntmps121
        go_wp2
        go_ret
        exact ⟨rfl, b0⟩
    by_cases h1 : k = 1
    · subst h1
      clear h0 h3
      by_cases hlo : n < 0
      · have a1 : n ≠ 0 := by omega
        have a2 : n ≠ 1 := by omega
        simp [fitB, a1, a2] at hE2
        subst hE2
        clear a1 a2
        go_enter Tryz.func121, Tryz.ntmps121
        go_wp2
        go_ret
        exact ⟨rfl, b0⟩
      by_cases hhi : 1 < n
      · have a1 : n ≠ 0 := by omega
        have a2 : n ≠ 1 := by omega
        simp [fitB, a1, a2] at hE2
        subst hE2
        clear a1 a2
        go_enter Tryz.func121, Tryz.ntmps121
        go_wp2
        go_ret
        exact ⟨rfl, b0⟩
      · have hn : n = 0 ∨ n = 1 := by omega
        clear hlo hhi
        rcases hn with rfl | rfl
        all_goals
          cases hEm : t.toList.isEmpty <;>
          · simp [fitB, hEm] at hE2
            subst hE2
            go_enter Tryz.func121, Tryz.ntmps121
            go_wp2
            go_ret
            exact ⟨rfl, b0⟩
    by_cases h2 : k = 2
    · subst h2
      clear h0 h1 h3
      cases hEm : t.toList.isEmpty <;>
      · simp [fitB, hEm] at hE2
        subst hE2
        go_enter Tryz.func121, Tryz.ntmps121
        go_wp2
        go_ret
        exact ⟨rfl, b0⟩
    · have d0 : (k == 0) = false := by simpa using h0
      have d1 : (k == 1) = false := by simpa using h1
      have d2 : (k == 2) = false := by simpa using h2
      have d3 : (k == 3) = false := by simpa using h3
      simp [fitB, h0, h1, h2, h3] at hE2
      subst hE2
      clear h0 h1 h2 h3
      go_enter Tryz.func121, Tryz.ntmps121
      go_wp2
      go_ret
      exact ⟨rfl, b0⟩

end Go.Proofs.YthfpmhnnjjikcaaGreatDoor

/- utf8.ValidString at this program: whether a text breaks nowhere. -/
namespace Go.Proofs.YthfpmhnnjjikcaaGreatDoor
open Go Go.RowKit Go.Lib Go.Shelf
set_option linter.unusedVariables false

def Tryz.lays196_ren : Go.Shelf.Ren := ⟨fun | 196 => 136 | 259 => 149 | n => n, fun | 0 => 0 | 3 => 3 | 4 => 4 | 5 => 5 | 9 => 9 | 12 => 12 | 46 => 223 | 53 => 234 | 119 => 219 | 138 => 221 | 139 => 222 | n => n, fun | 3 => 19 | 4 => 20 | n => n⟩
theorem Tryz.lays196 : Go.Proofs.Lays.n196 Tryz.prog Tryz.lays196_ren := {
  mixed := by kernel_rfl
  f196 := Tryz.func136.trans (congrArg some (by kernel_rfl))
  f259 := Tryz.func149.trans (congrArg some (by kernel_rfl))
  t0 := Tryz.underlying0
  a0 := Tryz.isAgg0
  z0 := Tryz.sizeOf0
  v0 := Tryz.zeroValue0
  t3 := Tryz.underlying3
  a3 := Tryz.isAgg3
  z3 := Tryz.sizeOf3
  v3 := Tryz.zeroValue3
  t4 := Tryz.underlying4
  a4 := Tryz.isAgg4
  z4 := Tryz.sizeOf4
  v4 := Tryz.zeroValue4
  t5 := Tryz.underlying5
  a5 := Tryz.isAgg5
  z5 := Tryz.sizeOf5
  v5 := Tryz.zeroValue5
  t9 := Tryz.underlying9
  a9 := Tryz.isAgg9
  z9 := Tryz.sizeOf9
  v9 := Tryz.zeroValue9
  t12 := Tryz.underlying12
  a12 := Tryz.isAgg12
  z12 := Tryz.sizeOf12
  v12 := Tryz.zeroValue12
  t46 := Tryz.underlying223
  a46 := Tryz.isAgg223
  z46 := Tryz.sizeOf223
  v46 := Tryz.zeroValue223
  t53 := Tryz.underlying234
  a53 := Tryz.isAgg234
  z53 := Tryz.sizeOf234
  v53 := Tryz.zeroValue234
  t119 := Tryz.underlying219
  a119 := Tryz.isAgg219
  z119 := Tryz.sizeOf219
  t138 := Tryz.underlying221
  a138 := Tryz.isAgg221
  z138 := Tryz.sizeOf221
  v138 := Tryz.zeroValue221
  t139 := Tryz.underlying222
  a139 := Tryz.isAgg222
  z139 := Tryz.sizeOf222
  v139 := Tryz.zeroValue222
  g3 := by kernel_rfl
  g4 := by kernel_rfl }

theorem validD_encs : ∀ (rs : List Nat) (t : List UInt8), (∀ r ∈ rs, scal r) → validD (encs rs ++ t) = validD t
  | [], t, _ => rfl
  | r :: rs, t, h => by
    have hr := h r (List.mem_cons_self ..)
    have hp := enc_pos hr
    rw [encs, List.append_assoc, validD_step _ (by intro e; have := congrArg List.length e; rw [List.length_append] at this; simp only [List.length_nil] at this; omega), dec_enc hr, if_neg (by
      rintro ⟨h1, h2⟩
      simp only at h1 h2
      rw [enc_len hr, h1] at h2
      simp at h2)]
    rw [List.drop_left]
    exact validD_encs rs t (fun x hx => h x (List.mem_cons_of_mem _ hx))
theorem validD_brk (s : ByteArray) : validD s.data.toList = decide (brk s.data.toList = s.size) := by
  obtain ⟨t, h1, h2, h3⟩ := text_cases s.data.toList
  have hb := brk_eq h1 h2
  rw [← h3] at hb
  have hlen : s.data.toList.length = s.size := size_toList s
  have hl := congrArg List.length h3
  rw [List.length_append, hlen] at hl
  rw [hb]
  conv => lhs; rw [h3, validD_encs _ _ h1]
  rcases h2 with rfl | h2
  · simp only [List.length_nil] at hl
    rw [decide_eq_true (by omega)]; rfl
  · have hne : t ≠ [] := by rintro rfl; revert h2; decide
    rw [validD_step t hne, if_pos ⟨by rw [h2], by rw [h2]⟩]
    have : 0 < t.length := List.length_pos_iff.2 hne
    rw [decide_eq_false (by omega)]
theorem valid_any {I : List Nat} {a : Nat → Addr} (s : ByteArray) (w : World) (hS : Std I a w) (hs : s.size ≤ 281474976710656) :
    Calls Tryz.prog 136 #[.string s] w fun e w' => e = .returned (.bool (decide (brk s.data.toList = s.size))) ∧ Below w.heap.size w w' := by
  have := Any.utf8_ValidString Tryz.lays196 s w (by omega) hS.tabs
  rw [validD_brk] at this
  exact this
end Go.Proofs.YthfpmhnnjjikcaaGreatDoor
