/- What the methods Op of api.Insert and api.Embed answer. What the methods Op of pieces answer. Operations as new memory: appends of rows of operations; vellumlaw05.copied. build: what a delta tells: Count, Ops, Pieces, Same. vellumhand.Make, Is; vellumlaw06's gone, text, large, lives. vellumlaw06.lives answers true. Canonical lists of operations in order are in order. build: own and Pieces: a delta's pieces, each with a list of its own. Of all lists of operations vellumlaw06.BuildPieces answers true. -/
import Derived.Test.YtfllomfjhkgaoaaDoorCq
import Derived.Test.YtfllomfjhkgaoaaDoorMga
import Derived.Deep.RegionHeld3
import Derived.Deep.DeepCutAuto
import Derived.Test.YtfllomfjhkgaoaaDoorQd
import Derived.Test.YtfllomfjhkgaoaaDoorMgb
import Derived.Test.YtfllomfjhkgaoaaDoorQh
import Derived.BigQuiet

/- What the methods Op of api.Insert and api.Embed answer. -/
namespace Go.Proofs.YtfllomfjhkgaoaaDoor
open Go Go.RowKit Go.Lib
set_option linter.unusedVariables false

theorem cell_drew0 (W : World) (a : Addr) : W.drew.cell? a = W.cell? a := rfl
set_option maxHeartbeats 1000000 in
set_option maxRecDepth 100000 in
theorem insOp (s : Value) (A : List A2) (t : ByteArray) (n : Int) (w : World) (hR : RN w s A) (hl : A.length ≤ 2097152) :
    Calls Tryd.prog 90 #[.agg #[s, .string t, .int .i64 n]] w fun r w' => ∃ v', r = .returned (opV ⟨1, t, z0, 0, []⟩ v') ∧ OwnA w' w.heap.size v' A ∧ Below w.heap.size w w' := by
  have HC : Hid (∀ W, Below w.heap.size w W → Calls Tryd.prog 27 #[.agg #[s]] W fun r w' => ∃ v', r = .returned v' ∧ OwnA w' W.heap.size v' A ∧ Below W.heap.size W w') := fun W hW => attributes_any s A W (hR.row.below hW) hR.nz hl
  obtain ⟨p, l, cc, rfl⟩ : ∃ p l c, s = .slice p l c := by obtain ⟨p, c, h, _⟩ := hR.row.val; exact ⟨_, _, _, h⟩
  clear hR hl
  obtain ⟨W1, hW1⟩ : ∃ W, W = (w.alloc (.cells #[.slice p l cc, .string t, .int .i64 n] 55)).alloc (.cells #[.int .i64 0, .string ⟨#[]⟩, .int .i64 0, .int .i64 0, .string ⟨#[]⟩, .int .i64 0, .slice none 0 0] 33) := ⟨_, rfl⟩
  have b0 : Below w.heap.size w W1 := by rw [hW1]; exact ((Below.refl _ _).alloc (Nat.le_refl _) _).alloc (by simp) _
  have e0 : W1.cell? ⟨w.heap.size, 0, none⟩ = some (.slice p l cc) := by rw [hW1]; simp
  have e1 : W1.cell? ⟨w.heap.size, 1, none⟩ = some (.string t) := by rw [hW1]; simp
  have hB : BoxO W1 (w.heap.size + 1) opZ nilS ∧ FrO W1 (w.heap.size + 1) := by
    have q1 := BoxO.new (w.alloc (.cells #[.slice p l cc, .string t, .int .i64 n] 55)) opZ nilS
    have q2 := FrO.new (w.alloc (.cells #[.slice p l cc, .string t, .int .i64 n] 55)) opZ nilS
    rw [World.size_alloc] at q1 q2
    rw [hW1]
    exact ⟨q1, q2⟩
  go_enter Tryd.func90, Tryd.ntmps90
  go_upto_region 1 with fail
  rw [← hW1]
  clear hW1
  have HB : Hid (BoxO W1.drew (w.heap.size + 1) opZ nilS ∧ FrO W1.drew (w.heap.size + 1)) := ⟨hB.1.drew, hB.2.drew⟩
  have b1 : Below w.heap.size w W1.drew := b0.drew
  have hz1 : w.heap.size ≤ W1.drew.heap.size := b1.size
  have hz2 : w.heap.size + 1 < W1.drew.heap.size := lt_of_cell hB.1.d0
  have cA := HC.out W1.drew b1
  have n1 : w.heap.size ≠ w.heap.size + 1 := by omega
  have hs1 : w.heap.size ≤ w.heap.size + 1 := by omega
  have HU : Hid (∀ W : World, (∀ i, W.cell? ⟨w.heap.size, i, none⟩ = W1.drew.cell? ⟨w.heap.size, i, none⟩) → W.cell? ⟨w.heap.size, 0, none⟩ = some (.slice p l cc) ∧ W.cell? ⟨w.heap.size, 1, none⟩ = some (.string t)) := fun W h => ⟨(h 0).trans e0, (h 1).trans e1⟩
  have M0 := HU.out W1.drew (fun _ => rfl)
  have HW : Hid (∀ W, Below W1.drew.heap.size W1.drew W → ∀ i, W.cell? ⟨w.heap.size, i, none⟩ = W1.drew.cell? ⟨w.heap.size, i, none⟩) := fun W h i => World.cell?_of_block (a := ⟨w.heap.size, i, none⟩) (h.block w.heap.size (by omega))
  have HS : Hid (∀ W, Below W1.drew.heap.size W1.drew W → (∀ u0 u1 u2 u3 u4 u5 u6 : Value, ((((((((W.setCell ⟨w.heap.size + 1, 0, none⟩ u0).setCell ⟨w.heap.size + 1, 1, none⟩ u1).setCell ⟨w.heap.size + 1, 2, none⟩ u2).setCell ⟨w.heap.size + 1, 3, none⟩ u3).setCell ⟨w.heap.size + 1, 4, none⟩ u4).setCell ⟨w.heap.size + 1, 5, none⟩ u5).setCell ⟨w.heap.size + 1, 6, none⟩ u6).cell? ⟨w.heap.size, 0, none⟩ = some (.slice p l cc) ∧ (((((((W.setCell ⟨w.heap.size + 1, 0, none⟩ u0).setCell ⟨w.heap.size + 1, 1, none⟩ u1).setCell ⟨w.heap.size + 1, 2, none⟩ u2).setCell ⟨w.heap.size + 1, 3, none⟩ u3).setCell ⟨w.heap.size + 1, 4, none⟩ u4).setCell ⟨w.heap.size + 1, 5, none⟩ u5).setCell ⟨w.heap.size + 1, 6, none⟩ u6).cell? ⟨w.heap.size, 1, none⟩ = some (.string t)) ∧ Below w.heap.size w (((((((W.setCell ⟨w.heap.size + 1, 0, none⟩ u0).setCell ⟨w.heap.size + 1, 1, none⟩ u1).setCell ⟨w.heap.size + 1, 2, none⟩ u2).setCell ⟨w.heap.size + 1, 3, none⟩ u3).setCell ⟨w.heap.size + 1, 4, none⟩ u4).setCell ⟨w.heap.size + 1, 5, none⟩ u5).setCell ⟨w.heap.size + 1, 6, none⟩ u6))) := fun W h u0 u1 u2 u3 u4 u5 u6 => ⟨HU.out _ (fun i => (cell_set7 (B := w.heap.size + 1) (j := i) W n1 u0 u1 u2 u3 u4 u5 u6).trans (HW.out W h i)), below_set7 (B := w.heap.size + 1) (b1.trans (h.mono hz1)) hs1 u0 u1 u2 u3 u4 u5 u6⟩
  clear hB e0 e1 b0
  go_region_held3 (fun w' => (w'.cell? ⟨w.heap.size, 0, none⟩ = some (.slice p l cc) ∧ w'.cell? ⟨w.heap.size, 1, none⟩ = some (.string t)) ∧ Below w.heap.size w w')
    (first | exact ⟨by with_reducible first | assumption | exact M0 | exact MS _ _ _ _ _ _ _, by with_reducible first | assumption | exact b1 | exact BS _ _ _ _ _ _ _⟩)
    (first
      | (go_at_call 27; refine cA.mono ?_; rintro r wA ⟨vA, rfl, oA, hA⟩; obtain ⟨pA, cA', rfl⟩ := own_slice oA; have HA' := hA; have bA := b1.trans (HA'.mono hz1); have mA := HU.out wA (HW.out wA HA'); have OA : Hid (OwnA wA W1.drew.heap.size (.slice pA A.length cA') A) := oA; clear oA; obtain ⟨q0, q1, q2, q3, q4, q5, q6⟩ := HB.out.1.below HA'; obtain ⟨h0, h1, h2, h3, h4, h5, h6⟩ := HB.out.2.below HB.out.1 HA'; simp only [z0] at q0 q1 q2 q3 q4 q5 q6; have MS := fun u0 u1 u2 u3 u4 u5 u6 => (HS.out wA HA' u0 u1 u2 u3 u4 u5 u6).1; have BS := fun u0 u1 u2 u3 u4 u5 u6 => (HS.out wA HA' u0 u1 u2 u3 u4 u5 u6).2))
  · have same : ∀ (u0 u1 u2 u3 u4 u5 u6 : Value) (v : Value) (hv : OwnA wA W1.drew.heap.size v A), OwnA (((((((wA.setCell ⟨w.heap.size + 1, 0, none⟩ u0).setCell ⟨w.heap.size + 1, 1, none⟩ u1).setCell ⟨w.heap.size + 1, 2, none⟩ u2).setCell ⟨w.heap.size + 1, 3, none⟩ u3).setCell ⟨w.heap.size + 1, 4, none⟩ u4).setCell ⟨w.heap.size + 1, 5, none⟩ u5).setCell ⟨w.heap.size + 1, 6, none⟩ u6) w.heap.size v A := fun u0 u1 u2 u3 u4 u5 u6 v hv =>
      own_weaken (owns_same hv fun k hk => by
        have := (owns_block hv k hk).1
        exact heap_set7 _ (by omega) _ _ _ _ _ _ _) hz1
    go_wp2
    exact bodyPost_ret (v := opV ⟨1, t, z0, 0, []⟩ (.slice pA A.length cA')) (by simp [results, Tryd.results90, go_sem, z0, q0, q1, q2, q3, q4, q5, q6]) rfl ⟨_, rfl, same _ _ _ _ _ _ _ _ OA.out, BS _ _ _ _ _ _ _⟩

set_option maxHeartbeats 1000000 in
set_option maxRecDepth 100000 in
theorem embOp_null (s : Value) (A : List A2) (t : ByteArray) (w : World) (hR : RN w s A) (hl : A.length ≤ 2097152) :
    Calls Tryd.prog 92 #[.agg #[s, .string t, .iface 119 (.agg #[])]] w fun r w' => ∃ v', r = .returned (opV ⟨2, t, z0, 0, []⟩ v') ∧ OwnA w' w.heap.size v' A ∧ Below w.heap.size w w' := by
  have HC : Hid (∀ W, Below w.heap.size w W → Calls Tryd.prog 27 #[.agg #[s]] W fun r w' => ∃ v', r = .returned v' ∧ OwnA w' W.heap.size v' A ∧ Below W.heap.size W w') := fun W hW => attributes_any s A W (hR.row.below hW) hR.nz hl
  obtain ⟨p, l, cc, rfl⟩ : ∃ p l c, s = .slice p l c := by obtain ⟨p, c, h, _⟩ := hR.row.val; exact ⟨_, _, _, h⟩
  clear hR hl
  obtain ⟨W1, hW1⟩ : ∃ W, W = (w.alloc (.cells #[.slice p l cc, .string t, .iface 119 (.agg #[])] 60)).alloc (.cells #[.int .i64 0, .string ⟨#[]⟩, .int .i64 0, .int .i64 0, .string ⟨#[]⟩, .int .i64 0, .slice none 0 0] 33) := ⟨_, rfl⟩
  have b0 : Below w.heap.size w W1 := by rw [hW1]; exact ((Below.refl _ _).alloc (Nat.le_refl _) _).alloc (by simp) _
  have e0 : W1.cell? ⟨w.heap.size, 0, none⟩ = some (.slice p l cc) := by rw [hW1]; simp
  have e1 : W1.cell? ⟨w.heap.size, 1, none⟩ = some (.string t) := by rw [hW1]; simp
  have e2 : W1.cell? ⟨w.heap.size, 2, none⟩ = some (.iface 119 (.agg #[])) := by rw [hW1]; simp
  have hB : BoxO W1 (w.heap.size + 1) opZ nilS ∧ FrO W1 (w.heap.size + 1) := by
    have q1 := BoxO.new (w.alloc (.cells #[.slice p l cc, .string t, .iface 119 (.agg #[])] 60)) opZ nilS
    have q2 := FrO.new (w.alloc (.cells #[.slice p l cc, .string t, .iface 119 (.agg #[])] 60)) opZ nilS
    rw [World.size_alloc] at q1 q2
    rw [hW1]
    exact ⟨q1, q2⟩
  go_enter Tryd.func92, Tryd.ntmps92
  go_upto_region 1 with fail
  rw [← hW1]
  clear hW1
  have HB : Hid (BoxO W1.drew (w.heap.size + 1) opZ nilS ∧ FrO W1.drew (w.heap.size + 1)) := ⟨hB.1.drew, hB.2.drew⟩
  have b1 : Below w.heap.size w W1.drew := b0.drew
  have hz1 : w.heap.size ≤ W1.drew.heap.size := b1.size
  have hz2 : w.heap.size + 1 < W1.drew.heap.size := lt_of_cell hB.1.d0
  have cA := HC.out W1.drew b1
  have n1 : w.heap.size ≠ w.heap.size + 1 := by omega
  have hs1 : w.heap.size ≤ w.heap.size + 1 := by omega
  have HU : Hid (∀ W : World, (∀ i, W.cell? ⟨w.heap.size, i, none⟩ = W1.drew.cell? ⟨w.heap.size, i, none⟩) → W.cell? ⟨w.heap.size, 0, none⟩ = some (.slice p l cc) ∧ W.cell? ⟨w.heap.size, 1, none⟩ = some (.string t) ∧ W.cell? ⟨w.heap.size, 2, none⟩ = some (.iface 119 (.agg #[]))) := fun W h => ⟨(h 0).trans e0, (h 1).trans e1, (h 2).trans e2⟩
  have M0 := HU.out W1.drew (fun _ => rfl)
  have HW : Hid (∀ W, Below W1.drew.heap.size W1.drew W → ∀ i, W.cell? ⟨w.heap.size, i, none⟩ = W1.drew.cell? ⟨w.heap.size, i, none⟩) := fun W h i => World.cell?_of_block (a := ⟨w.heap.size, i, none⟩) (h.block w.heap.size (by omega))
  have HS : Hid (∀ W, Below W1.drew.heap.size W1.drew W → (∀ u0 u1 u2 u3 u4 u5 u6 : Value, ((((((((W.setCell ⟨w.heap.size + 1, 0, none⟩ u0).setCell ⟨w.heap.size + 1, 1, none⟩ u1).setCell ⟨w.heap.size + 1, 2, none⟩ u2).setCell ⟨w.heap.size + 1, 3, none⟩ u3).setCell ⟨w.heap.size + 1, 4, none⟩ u4).setCell ⟨w.heap.size + 1, 5, none⟩ u5).setCell ⟨w.heap.size + 1, 6, none⟩ u6).cell? ⟨w.heap.size, 0, none⟩ = some (.slice p l cc) ∧ (((((((W.setCell ⟨w.heap.size + 1, 0, none⟩ u0).setCell ⟨w.heap.size + 1, 1, none⟩ u1).setCell ⟨w.heap.size + 1, 2, none⟩ u2).setCell ⟨w.heap.size + 1, 3, none⟩ u3).setCell ⟨w.heap.size + 1, 4, none⟩ u4).setCell ⟨w.heap.size + 1, 5, none⟩ u5).setCell ⟨w.heap.size + 1, 6, none⟩ u6).cell? ⟨w.heap.size, 1, none⟩ = some (.string t) ∧ (((((((W.setCell ⟨w.heap.size + 1, 0, none⟩ u0).setCell ⟨w.heap.size + 1, 1, none⟩ u1).setCell ⟨w.heap.size + 1, 2, none⟩ u2).setCell ⟨w.heap.size + 1, 3, none⟩ u3).setCell ⟨w.heap.size + 1, 4, none⟩ u4).setCell ⟨w.heap.size + 1, 5, none⟩ u5).setCell ⟨w.heap.size + 1, 6, none⟩ u6).cell? ⟨w.heap.size, 2, none⟩ = some (.iface 119 (.agg #[]))) ∧ Below w.heap.size w (((((((W.setCell ⟨w.heap.size + 1, 0, none⟩ u0).setCell ⟨w.heap.size + 1, 1, none⟩ u1).setCell ⟨w.heap.size + 1, 2, none⟩ u2).setCell ⟨w.heap.size + 1, 3, none⟩ u3).setCell ⟨w.heap.size + 1, 4, none⟩ u4).setCell ⟨w.heap.size + 1, 5, none⟩ u5).setCell ⟨w.heap.size + 1, 6, none⟩ u6))) := fun W h u0 u1 u2 u3 u4 u5 u6 => ⟨HU.out _ (fun i => (cell_set7 (B := w.heap.size + 1) (j := i) W n1 u0 u1 u2 u3 u4 u5 u6).trans (HW.out W h i)), below_set7 (B := w.heap.size + 1) (b1.trans (h.mono hz1)) hs1 u0 u1 u2 u3 u4 u5 u6⟩
  clear hB e0 e1 e2 b0
  go_region_held3 (fun w' => (w'.cell? ⟨w.heap.size, 0, none⟩ = some (.slice p l cc) ∧ w'.cell? ⟨w.heap.size, 1, none⟩ = some (.string t) ∧ w'.cell? ⟨w.heap.size, 2, none⟩ = some (.iface 119 (.agg #[]))) ∧ Below w.heap.size w w')
    (first | exact ⟨by with_reducible first | assumption | exact M0 | exact MS _ _ _ _ _ _ _, by with_reducible first | assumption | exact b1 | exact BS _ _ _ _ _ _ _⟩)
    (first
      | (go_at_call 104; have hx := OA; clear hx; refine (plain_n wA).mono ?_; rintro r wP ⟨rfl, hP⟩; have HP' := HA'.trans (hP.mono HA'.size); have bP := b1.trans (HP'.mono hz1); have mP := HU.out wP (HW.out wP HP'); have OF : Hid (OwnA wP W1.drew.heap.size (.slice pA A.length cA') A) := owns_below OA.out hP; obtain ⟨q0, q1, q2, q3, q4, q5, q6⟩ := HB.out.1.below HP'; obtain ⟨h0, h1, h2, h3, h4, h5, h6⟩ := HB.out.2.below HB.out.1 HP'; simp only [z0] at q0 q1 q2 q3 q4 q5 q6; have MS := fun u0 u1 u2 u3 u4 u5 u6 => (HS.out wP HP' u0 u1 u2 u3 u4 u5 u6).1; have BS := fun u0 u1 u2 u3 u4 u5 u6 => (HS.out wP HP' u0 u1 u2 u3 u4 u5 u6).2)
      | (go_at_call 27; refine cA2.mono ?_; rintro r wA ⟨vA, rfl, oA, hA⟩; obtain ⟨pA, cA', rfl⟩ := own_slice oA; have HA' := HP'.trans (hA.mono HP'.size); have bA := b1.trans (HA'.mono hz1); have mA := HU.out wA (HW.out wA HA'); have OA : Hid (OwnA wA W1.drew.heap.size (.slice pA A.length cA') A) := own_weaken oA HP'.size; clear oA; have OF := OA; obtain ⟨q0, q1, q2, q3, q4, q5, q6⟩ := HB.out.1.below HA'; obtain ⟨h0, h1, h2, h3, h4, h5, h6⟩ := HB.out.2.below HB.out.1 HA'; simp only [z0] at q0 q1 q2 q3 q4 q5 q6; have MS := fun u0 u1 u2 u3 u4 u5 u6 => (HS.out wA HA' u0 u1 u2 u3 u4 u5 u6).1; have BS := fun u0 u1 u2 u3 u4 u5 u6 => (HS.out wA HA' u0 u1 u2 u3 u4 u5 u6).2)
      | (go_at_call 27; refine cA.mono ?_; rintro r wA ⟨vA, rfl, oA, hA⟩; obtain ⟨pA, cA', rfl⟩ := own_slice oA; have HA' := hA; have bA := b1.trans (HA'.mono hz1); have mA := HU.out wA (HW.out wA HA'); have OA : Hid (OwnA wA W1.drew.heap.size (.slice pA A.length cA') A) := oA; clear oA)
      | (go_at_call 104; refine (plain_n W1.drew).mono ?_; rintro r wP ⟨rfl, hP⟩; have HP' := hP; have bP := b1.trans (HP'.mono hz1); have mP := HU.out wP (HW.out wP HP'); have cA2 := HC.out wP bP))
  · have same : ∀ (u0 u1 u2 u3 u4 u5 u6 : Value) (v : Value) (hv : OwnA wA W1.drew.heap.size v A), OwnA (((((((wA.setCell ⟨w.heap.size + 1, 0, none⟩ u0).setCell ⟨w.heap.size + 1, 1, none⟩ u1).setCell ⟨w.heap.size + 1, 2, none⟩ u2).setCell ⟨w.heap.size + 1, 3, none⟩ u3).setCell ⟨w.heap.size + 1, 4, none⟩ u4).setCell ⟨w.heap.size + 1, 5, none⟩ u5).setCell ⟨w.heap.size + 1, 6, none⟩ u6) w.heap.size v A := fun u0 u1 u2 u3 u4 u5 u6 v hv =>
      own_weaken (owns_same hv fun k hk => by
        have := (owns_block hv k hk).1
        exact heap_set7 _ (by omega) _ _ _ _ _ _ _) hz1
    go_wp2
    exact bodyPost_ret (v := opV ⟨2, t, z0, 0, []⟩ (.slice pA A.length cA')) (by simp [results, Tryd.results92, go_sem, z0, q0, q1, q2, q3, q4, q5, q6]) rfl ⟨_, rfl, same _ _ _ _ _ _ _ _ OF.out, BS _ _ _ _ _ _ _⟩

set_option maxHeartbeats 1000000 in
set_option maxRecDepth 100000 in
theorem embOp_flag0 (s : Value) (A : List A2) (t : ByteArray) (w : World) (hR : RN w s A) (hl : A.length ≤ 2097152) :
    Calls Tryd.prog 92 #[.agg #[s, .string t, .iface 115 (.bool false)]] w fun r w' => ∃ v', r = .returned (opV ⟨2, t, (1, 0, ⟨#[]⟩), 0, []⟩ v') ∧ OwnA w' w.heap.size v' A ∧ Below w.heap.size w w' := by
  have HC : Hid (∀ W, Below w.heap.size w W → Calls Tryd.prog 27 #[.agg #[s]] W fun r w' => ∃ v', r = .returned v' ∧ OwnA w' W.heap.size v' A ∧ Below W.heap.size W w') := fun W hW => attributes_any s A W (hR.row.below hW) hR.nz hl
  obtain ⟨p, l, cc, rfl⟩ : ∃ p l c, s = .slice p l c := by obtain ⟨p, c, h, _⟩ := hR.row.val; exact ⟨_, _, _, h⟩
  clear hR hl
  obtain ⟨W1, hW1⟩ : ∃ W, W = (w.alloc (.cells #[.slice p l cc, .string t, .iface 115 (.bool false)] 60)).alloc (.cells #[.int .i64 0, .string ⟨#[]⟩, .int .i64 0, .int .i64 0, .string ⟨#[]⟩, .int .i64 0, .slice none 0 0] 33) := ⟨_, rfl⟩
  have b0 : Below w.heap.size w W1 := by rw [hW1]; exact ((Below.refl _ _).alloc (Nat.le_refl _) _).alloc (by simp) _
  have e0 : W1.cell? ⟨w.heap.size, 0, none⟩ = some (.slice p l cc) := by rw [hW1]; simp
  have e1 : W1.cell? ⟨w.heap.size, 1, none⟩ = some (.string t) := by rw [hW1]; simp
  have e2 : W1.cell? ⟨w.heap.size, 2, none⟩ = some (.iface 115 (.bool false)) := by rw [hW1]; simp
  have hB : BoxO W1 (w.heap.size + 1) opZ nilS ∧ FrO W1 (w.heap.size + 1) := by
    have q1 := BoxO.new (w.alloc (.cells #[.slice p l cc, .string t, .iface 115 (.bool false)] 60)) opZ nilS
    have q2 := FrO.new (w.alloc (.cells #[.slice p l cc, .string t, .iface 115 (.bool false)] 60)) opZ nilS
    rw [World.size_alloc] at q1 q2
    rw [hW1]
    exact ⟨q1, q2⟩
  go_enter Tryd.func92, Tryd.ntmps92
  go_upto_region 1 with fail
  rw [← hW1]
  clear hW1
  have HB : Hid (BoxO W1.drew (w.heap.size + 1) opZ nilS ∧ FrO W1.drew (w.heap.size + 1)) := ⟨hB.1.drew, hB.2.drew⟩
  have b1 : Below w.heap.size w W1.drew := b0.drew
  have hz1 : w.heap.size ≤ W1.drew.heap.size := b1.size
  have hz2 : w.heap.size + 1 < W1.drew.heap.size := lt_of_cell hB.1.d0
  have cA := HC.out W1.drew b1
  have n1 : w.heap.size ≠ w.heap.size + 1 := by omega
  have hs1 : w.heap.size ≤ w.heap.size + 1 := by omega
  have HU : Hid (∀ W : World, (∀ i, W.cell? ⟨w.heap.size, i, none⟩ = W1.drew.cell? ⟨w.heap.size, i, none⟩) → W.cell? ⟨w.heap.size, 0, none⟩ = some (.slice p l cc) ∧ W.cell? ⟨w.heap.size, 1, none⟩ = some (.string t) ∧ W.cell? ⟨w.heap.size, 2, none⟩ = some (.iface 115 (.bool false))) := fun W h => ⟨(h 0).trans e0, (h 1).trans e1, (h 2).trans e2⟩
  have M0 := HU.out W1.drew (fun _ => rfl)
  have HW : Hid (∀ W, Below W1.drew.heap.size W1.drew W → ∀ i, W.cell? ⟨w.heap.size, i, none⟩ = W1.drew.cell? ⟨w.heap.size, i, none⟩) := fun W h i => World.cell?_of_block (a := ⟨w.heap.size, i, none⟩) (h.block w.heap.size (by omega))
  have HS : Hid (∀ W, Below W1.drew.heap.size W1.drew W → (∀ u0 u1 u2 u3 u4 u5 u6 : Value, ((((((((W.setCell ⟨w.heap.size + 1, 0, none⟩ u0).setCell ⟨w.heap.size + 1, 1, none⟩ u1).setCell ⟨w.heap.size + 1, 2, none⟩ u2).setCell ⟨w.heap.size + 1, 3, none⟩ u3).setCell ⟨w.heap.size + 1, 4, none⟩ u4).setCell ⟨w.heap.size + 1, 5, none⟩ u5).setCell ⟨w.heap.size + 1, 6, none⟩ u6).cell? ⟨w.heap.size, 0, none⟩ = some (.slice p l cc) ∧ (((((((W.setCell ⟨w.heap.size + 1, 0, none⟩ u0).setCell ⟨w.heap.size + 1, 1, none⟩ u1).setCell ⟨w.heap.size + 1, 2, none⟩ u2).setCell ⟨w.heap.size + 1, 3, none⟩ u3).setCell ⟨w.heap.size + 1, 4, none⟩ u4).setCell ⟨w.heap.size + 1, 5, none⟩ u5).setCell ⟨w.heap.size + 1, 6, none⟩ u6).cell? ⟨w.heap.size, 1, none⟩ = some (.string t) ∧ (((((((W.setCell ⟨w.heap.size + 1, 0, none⟩ u0).setCell ⟨w.heap.size + 1, 1, none⟩ u1).setCell ⟨w.heap.size + 1, 2, none⟩ u2).setCell ⟨w.heap.size + 1, 3, none⟩ u3).setCell ⟨w.heap.size + 1, 4, none⟩ u4).setCell ⟨w.heap.size + 1, 5, none⟩ u5).setCell ⟨w.heap.size + 1, 6, none⟩ u6).cell? ⟨w.heap.size, 2, none⟩ = some (.iface 115 (.bool false))) ∧ Below w.heap.size w (((((((W.setCell ⟨w.heap.size + 1, 0, none⟩ u0).setCell ⟨w.heap.size + 1, 1, none⟩ u1).setCell ⟨w.heap.size + 1, 2, none⟩ u2).setCell ⟨w.heap.size + 1, 3, none⟩ u3).setCell ⟨w.heap.size + 1, 4, none⟩ u4).setCell ⟨w.heap.size + 1, 5, none⟩ u5).setCell ⟨w.heap.size + 1, 6, none⟩ u6))) := fun W h u0 u1 u2 u3 u4 u5 u6 => ⟨HU.out _ (fun i => (cell_set7 (B := w.heap.size + 1) (j := i) W n1 u0 u1 u2 u3 u4 u5 u6).trans (HW.out W h i)), below_set7 (B := w.heap.size + 1) (b1.trans (h.mono hz1)) hs1 u0 u1 u2 u3 u4 u5 u6⟩
  clear hB e0 e1 e2 b0
  go_region_held3 (fun w' => (w'.cell? ⟨w.heap.size, 0, none⟩ = some (.slice p l cc) ∧ w'.cell? ⟨w.heap.size, 1, none⟩ = some (.string t) ∧ w'.cell? ⟨w.heap.size, 2, none⟩ = some (.iface 115 (.bool false))) ∧ Below w.heap.size w w')
    (first | exact ⟨by with_reducible first | assumption | exact M0 | exact MS _ _ _ _ _ _ _, by with_reducible first | assumption | exact b1 | exact BS _ _ _ _ _ _ _⟩)
    (first
      | (go_at_call 98; have hx := OA; clear hx; refine (plain_f0 wA).mono ?_; rintro r wP ⟨rfl, hP⟩; have HP' := HA'.trans (hP.mono HA'.size); have bP := b1.trans (HP'.mono hz1); have mP := HU.out wP (HW.out wP HP'); have OF : Hid (OwnA wP W1.drew.heap.size (.slice pA A.length cA') A) := owns_below OA.out hP; obtain ⟨q0, q1, q2, q3, q4, q5, q6⟩ := HB.out.1.below HP'; obtain ⟨h0, h1, h2, h3, h4, h5, h6⟩ := HB.out.2.below HB.out.1 HP'; simp only [z0] at q0 q1 q2 q3 q4 q5 q6; have MS := fun u0 u1 u2 u3 u4 u5 u6 => (HS.out wP HP' u0 u1 u2 u3 u4 u5 u6).1; have BS := fun u0 u1 u2 u3 u4 u5 u6 => (HS.out wP HP' u0 u1 u2 u3 u4 u5 u6).2)
      | (go_at_call 27; refine cA2.mono ?_; rintro r wA ⟨vA, rfl, oA, hA⟩; obtain ⟨pA, cA', rfl⟩ := own_slice oA; have HA' := HP'.trans (hA.mono HP'.size); have bA := b1.trans (HA'.mono hz1); have mA := HU.out wA (HW.out wA HA'); have OA : Hid (OwnA wA W1.drew.heap.size (.slice pA A.length cA') A) := own_weaken oA HP'.size; clear oA; have OF := OA; obtain ⟨q0, q1, q2, q3, q4, q5, q6⟩ := HB.out.1.below HA'; obtain ⟨h0, h1, h2, h3, h4, h5, h6⟩ := HB.out.2.below HB.out.1 HA'; simp only [z0] at q0 q1 q2 q3 q4 q5 q6; have MS := fun u0 u1 u2 u3 u4 u5 u6 => (HS.out wA HA' u0 u1 u2 u3 u4 u5 u6).1; have BS := fun u0 u1 u2 u3 u4 u5 u6 => (HS.out wA HA' u0 u1 u2 u3 u4 u5 u6).2)
      | (go_at_call 27; refine cA.mono ?_; rintro r wA ⟨vA, rfl, oA, hA⟩; obtain ⟨pA, cA', rfl⟩ := own_slice oA; have HA' := hA; have bA := b1.trans (HA'.mono hz1); have mA := HU.out wA (HW.out wA HA'); have OA : Hid (OwnA wA W1.drew.heap.size (.slice pA A.length cA') A) := oA; clear oA)
      | (go_at_call 98; refine (plain_f0 W1.drew).mono ?_; rintro r wP ⟨rfl, hP⟩; have HP' := hP; have bP := b1.trans (HP'.mono hz1); have mP := HU.out wP (HW.out wP HP'); have cA2 := HC.out wP bP))
  · have same : ∀ (u0 u1 u2 u3 u4 u5 u6 : Value) (v : Value) (hv : OwnA wA W1.drew.heap.size v A), OwnA (((((((wA.setCell ⟨w.heap.size + 1, 0, none⟩ u0).setCell ⟨w.heap.size + 1, 1, none⟩ u1).setCell ⟨w.heap.size + 1, 2, none⟩ u2).setCell ⟨w.heap.size + 1, 3, none⟩ u3).setCell ⟨w.heap.size + 1, 4, none⟩ u4).setCell ⟨w.heap.size + 1, 5, none⟩ u5).setCell ⟨w.heap.size + 1, 6, none⟩ u6) w.heap.size v A := fun u0 u1 u2 u3 u4 u5 u6 v hv =>
      own_weaken (owns_same hv fun k hk => by
        have := (owns_block hv k hk).1
        exact heap_set7 _ (by omega) _ _ _ _ _ _ _) hz1
    go_wp2
    exact bodyPost_ret (v := opV ⟨2, t, (1, 0, ⟨#[]⟩), 0, []⟩ (.slice pA A.length cA')) (by simp [results, Tryd.results92, go_sem, q0, q1, q2, q3, q4, q5, q6]) rfl ⟨_, rfl, same _ _ _ _ _ _ _ _ OF.out, BS _ _ _ _ _ _ _⟩

set_option maxHeartbeats 1000000 in
set_option maxRecDepth 100000 in
theorem embOp_flag1 (s : Value) (A : List A2) (t : ByteArray) (w : World) (hR : RN w s A) (hl : A.length ≤ 2097152) :
    Calls Tryd.prog 92 #[.agg #[s, .string t, .iface 115 (.bool true)]] w fun r w' => ∃ v', r = .returned (opV ⟨2, t, (1, 1, ⟨#[]⟩), 0, []⟩ v') ∧ OwnA w' w.heap.size v' A ∧ Below w.heap.size w w' := by
  have HC : Hid (∀ W, Below w.heap.size w W → Calls Tryd.prog 27 #[.agg #[s]] W fun r w' => ∃ v', r = .returned v' ∧ OwnA w' W.heap.size v' A ∧ Below W.heap.size W w') := fun W hW => attributes_any s A W (hR.row.below hW) hR.nz hl
  obtain ⟨p, l, cc, rfl⟩ : ∃ p l c, s = .slice p l c := by obtain ⟨p, c, h, _⟩ := hR.row.val; exact ⟨_, _, _, h⟩
  clear hR hl
  obtain ⟨W1, hW1⟩ : ∃ W, W = (w.alloc (.cells #[.slice p l cc, .string t, .iface 115 (.bool true)] 60)).alloc (.cells #[.int .i64 0, .string ⟨#[]⟩, .int .i64 0, .int .i64 0, .string ⟨#[]⟩, .int .i64 0, .slice none 0 0] 33) := ⟨_, rfl⟩
  have b0 : Below w.heap.size w W1 := by rw [hW1]; exact ((Below.refl _ _).alloc (Nat.le_refl _) _).alloc (by simp) _
  have e0 : W1.cell? ⟨w.heap.size, 0, none⟩ = some (.slice p l cc) := by rw [hW1]; simp
  have e1 : W1.cell? ⟨w.heap.size, 1, none⟩ = some (.string t) := by rw [hW1]; simp
  have e2 : W1.cell? ⟨w.heap.size, 2, none⟩ = some (.iface 115 (.bool true)) := by rw [hW1]; simp
  have hB : BoxO W1 (w.heap.size + 1) opZ nilS ∧ FrO W1 (w.heap.size + 1) := by
    have q1 := BoxO.new (w.alloc (.cells #[.slice p l cc, .string t, .iface 115 (.bool true)] 60)) opZ nilS
    have q2 := FrO.new (w.alloc (.cells #[.slice p l cc, .string t, .iface 115 (.bool true)] 60)) opZ nilS
    rw [World.size_alloc] at q1 q2
    rw [hW1]
    exact ⟨q1, q2⟩
  go_enter Tryd.func92, Tryd.ntmps92
  go_upto_region 1 with fail
  rw [← hW1]
  clear hW1
  have HB : Hid (BoxO W1.drew (w.heap.size + 1) opZ nilS ∧ FrO W1.drew (w.heap.size + 1)) := ⟨hB.1.drew, hB.2.drew⟩
  have b1 : Below w.heap.size w W1.drew := b0.drew
  have hz1 : w.heap.size ≤ W1.drew.heap.size := b1.size
  have hz2 : w.heap.size + 1 < W1.drew.heap.size := lt_of_cell hB.1.d0
  have cA := HC.out W1.drew b1
  have n1 : w.heap.size ≠ w.heap.size + 1 := by omega
  have hs1 : w.heap.size ≤ w.heap.size + 1 := by omega
  have HU : Hid (∀ W : World, (∀ i, W.cell? ⟨w.heap.size, i, none⟩ = W1.drew.cell? ⟨w.heap.size, i, none⟩) → W.cell? ⟨w.heap.size, 0, none⟩ = some (.slice p l cc) ∧ W.cell? ⟨w.heap.size, 1, none⟩ = some (.string t) ∧ W.cell? ⟨w.heap.size, 2, none⟩ = some (.iface 115 (.bool true))) := fun W h => ⟨(h 0).trans e0, (h 1).trans e1, (h 2).trans e2⟩
  have M0 := HU.out W1.drew (fun _ => rfl)
  have HW : Hid (∀ W, Below W1.drew.heap.size W1.drew W → ∀ i, W.cell? ⟨w.heap.size, i, none⟩ = W1.drew.cell? ⟨w.heap.size, i, none⟩) := fun W h i => World.cell?_of_block (a := ⟨w.heap.size, i, none⟩) (h.block w.heap.size (by omega))
  have HS : Hid (∀ W, Below W1.drew.heap.size W1.drew W → (∀ u0 u1 u2 u3 u4 u5 u6 : Value, ((((((((W.setCell ⟨w.heap.size + 1, 0, none⟩ u0).setCell ⟨w.heap.size + 1, 1, none⟩ u1).setCell ⟨w.heap.size + 1, 2, none⟩ u2).setCell ⟨w.heap.size + 1, 3, none⟩ u3).setCell ⟨w.heap.size + 1, 4, none⟩ u4).setCell ⟨w.heap.size + 1, 5, none⟩ u5).setCell ⟨w.heap.size + 1, 6, none⟩ u6).cell? ⟨w.heap.size, 0, none⟩ = some (.slice p l cc) ∧ (((((((W.setCell ⟨w.heap.size + 1, 0, none⟩ u0).setCell ⟨w.heap.size + 1, 1, none⟩ u1).setCell ⟨w.heap.size + 1, 2, none⟩ u2).setCell ⟨w.heap.size + 1, 3, none⟩ u3).setCell ⟨w.heap.size + 1, 4, none⟩ u4).setCell ⟨w.heap.size + 1, 5, none⟩ u5).setCell ⟨w.heap.size + 1, 6, none⟩ u6).cell? ⟨w.heap.size, 1, none⟩ = some (.string t) ∧ (((((((W.setCell ⟨w.heap.size + 1, 0, none⟩ u0).setCell ⟨w.heap.size + 1, 1, none⟩ u1).setCell ⟨w.heap.size + 1, 2, none⟩ u2).setCell ⟨w.heap.size + 1, 3, none⟩ u3).setCell ⟨w.heap.size + 1, 4, none⟩ u4).setCell ⟨w.heap.size + 1, 5, none⟩ u5).setCell ⟨w.heap.size + 1, 6, none⟩ u6).cell? ⟨w.heap.size, 2, none⟩ = some (.iface 115 (.bool true))) ∧ Below w.heap.size w (((((((W.setCell ⟨w.heap.size + 1, 0, none⟩ u0).setCell ⟨w.heap.size + 1, 1, none⟩ u1).setCell ⟨w.heap.size + 1, 2, none⟩ u2).setCell ⟨w.heap.size + 1, 3, none⟩ u3).setCell ⟨w.heap.size + 1, 4, none⟩ u4).setCell ⟨w.heap.size + 1, 5, none⟩ u5).setCell ⟨w.heap.size + 1, 6, none⟩ u6))) := fun W h u0 u1 u2 u3 u4 u5 u6 => ⟨HU.out _ (fun i => (cell_set7 (B := w.heap.size + 1) (j := i) W n1 u0 u1 u2 u3 u4 u5 u6).trans (HW.out W h i)), below_set7 (B := w.heap.size + 1) (b1.trans (h.mono hz1)) hs1 u0 u1 u2 u3 u4 u5 u6⟩
  clear hB e0 e1 e2 b0
  go_region_held3 (fun w' => (w'.cell? ⟨w.heap.size, 0, none⟩ = some (.slice p l cc) ∧ w'.cell? ⟨w.heap.size, 1, none⟩ = some (.string t) ∧ w'.cell? ⟨w.heap.size, 2, none⟩ = some (.iface 115 (.bool true))) ∧ Below w.heap.size w w')
    (first | exact ⟨by with_reducible first | assumption | exact M0 | exact MS _ _ _ _ _ _ _, by with_reducible first | assumption | exact b1 | exact BS _ _ _ _ _ _ _⟩)
    (first
      | (go_at_call 98; have hx := OA; clear hx; refine (plain_f1 wA).mono ?_; rintro r wP ⟨rfl, hP⟩; have HP' := HA'.trans (hP.mono HA'.size); have bP := b1.trans (HP'.mono hz1); have mP := HU.out wP (HW.out wP HP'); have OF : Hid (OwnA wP W1.drew.heap.size (.slice pA A.length cA') A) := owns_below OA.out hP; obtain ⟨q0, q1, q2, q3, q4, q5, q6⟩ := HB.out.1.below HP'; obtain ⟨h0, h1, h2, h3, h4, h5, h6⟩ := HB.out.2.below HB.out.1 HP'; simp only [z0] at q0 q1 q2 q3 q4 q5 q6; have MS := fun u0 u1 u2 u3 u4 u5 u6 => (HS.out wP HP' u0 u1 u2 u3 u4 u5 u6).1; have BS := fun u0 u1 u2 u3 u4 u5 u6 => (HS.out wP HP' u0 u1 u2 u3 u4 u5 u6).2)
      | (go_at_call 27; refine cA2.mono ?_; rintro r wA ⟨vA, rfl, oA, hA⟩; obtain ⟨pA, cA', rfl⟩ := own_slice oA; have HA' := HP'.trans (hA.mono HP'.size); have bA := b1.trans (HA'.mono hz1); have mA := HU.out wA (HW.out wA HA'); have OA : Hid (OwnA wA W1.drew.heap.size (.slice pA A.length cA') A) := own_weaken oA HP'.size; clear oA; have OF := OA; obtain ⟨q0, q1, q2, q3, q4, q5, q6⟩ := HB.out.1.below HA'; obtain ⟨h0, h1, h2, h3, h4, h5, h6⟩ := HB.out.2.below HB.out.1 HA'; simp only [z0] at q0 q1 q2 q3 q4 q5 q6; have MS := fun u0 u1 u2 u3 u4 u5 u6 => (HS.out wA HA' u0 u1 u2 u3 u4 u5 u6).1; have BS := fun u0 u1 u2 u3 u4 u5 u6 => (HS.out wA HA' u0 u1 u2 u3 u4 u5 u6).2)
      | (go_at_call 27; refine cA.mono ?_; rintro r wA ⟨vA, rfl, oA, hA⟩; obtain ⟨pA, cA', rfl⟩ := own_slice oA; have HA' := hA; have bA := b1.trans (HA'.mono hz1); have mA := HU.out wA (HW.out wA HA'); have OA : Hid (OwnA wA W1.drew.heap.size (.slice pA A.length cA') A) := oA; clear oA)
      | (go_at_call 98; refine (plain_f1 W1.drew).mono ?_; rintro r wP ⟨rfl, hP⟩; have HP' := hP; have bP := b1.trans (HP'.mono hz1); have mP := HU.out wP (HW.out wP HP'); have cA2 := HC.out wP bP))
  · have same : ∀ (u0 u1 u2 u3 u4 u5 u6 : Value) (v : Value) (hv : OwnA wA W1.drew.heap.size v A), OwnA (((((((wA.setCell ⟨w.heap.size + 1, 0, none⟩ u0).setCell ⟨w.heap.size + 1, 1, none⟩ u1).setCell ⟨w.heap.size + 1, 2, none⟩ u2).setCell ⟨w.heap.size + 1, 3, none⟩ u3).setCell ⟨w.heap.size + 1, 4, none⟩ u4).setCell ⟨w.heap.size + 1, 5, none⟩ u5).setCell ⟨w.heap.size + 1, 6, none⟩ u6) w.heap.size v A := fun u0 u1 u2 u3 u4 u5 u6 v hv =>
      own_weaken (owns_same hv fun k hk => by
        have := (owns_block hv k hk).1
        exact heap_set7 _ (by omega) _ _ _ _ _ _ _) hz1
    go_wp2
    exact bodyPost_ret (v := opV ⟨2, t, (1, 1, ⟨#[]⟩), 0, []⟩ (.slice pA A.length cA')) (by simp [results, Tryd.results92, go_sem, q0, q1, q2, q3, q4, q5, q6]) rfl ⟨_, rfl, same _ _ _ _ _ _ _ _ OF.out, BS _ _ _ _ _ _ _⟩

set_option maxHeartbeats 1000000 in
set_option maxRecDepth 100000 in
theorem embOp_num (z : Int) (s : Value) (A : List A2) (t : ByteArray) (w : World) (hR : RN w s A) (hl : A.length ≤ 2097152) :
    Calls Tryd.prog 92 #[.agg #[s, .string t, .iface 116 (.int .i64 z)]] w fun r w' => ∃ v', r = .returned (opV ⟨2, t, (2, z, ⟨#[]⟩), 0, []⟩ v') ∧ OwnA w' w.heap.size v' A ∧ Below w.heap.size w w' := by
  have HC : Hid (∀ W, Below w.heap.size w W → Calls Tryd.prog 27 #[.agg #[s]] W fun r w' => ∃ v', r = .returned v' ∧ OwnA w' W.heap.size v' A ∧ Below W.heap.size W w') := fun W hW => attributes_any s A W (hR.row.below hW) hR.nz hl
  obtain ⟨p, l, cc, rfl⟩ : ∃ p l c, s = .slice p l c := by obtain ⟨p, c, h, _⟩ := hR.row.val; exact ⟨_, _, _, h⟩
  clear hR hl
  obtain ⟨W1, hW1⟩ : ∃ W, W = (w.alloc (.cells #[.slice p l cc, .string t, .iface 116 (.int .i64 z)] 60)).alloc (.cells #[.int .i64 0, .string ⟨#[]⟩, .int .i64 0, .int .i64 0, .string ⟨#[]⟩, .int .i64 0, .slice none 0 0] 33) := ⟨_, rfl⟩
  have b0 : Below w.heap.size w W1 := by rw [hW1]; exact ((Below.refl _ _).alloc (Nat.le_refl _) _).alloc (by simp) _
  have e0 : W1.cell? ⟨w.heap.size, 0, none⟩ = some (.slice p l cc) := by rw [hW1]; simp
  have e1 : W1.cell? ⟨w.heap.size, 1, none⟩ = some (.string t) := by rw [hW1]; simp
  have e2 : W1.cell? ⟨w.heap.size, 2, none⟩ = some (.iface 116 (.int .i64 z)) := by rw [hW1]; simp
  have hB : BoxO W1 (w.heap.size + 1) opZ nilS ∧ FrO W1 (w.heap.size + 1) := by
    have q1 := BoxO.new (w.alloc (.cells #[.slice p l cc, .string t, .iface 116 (.int .i64 z)] 60)) opZ nilS
    have q2 := FrO.new (w.alloc (.cells #[.slice p l cc, .string t, .iface 116 (.int .i64 z)] 60)) opZ nilS
    rw [World.size_alloc] at q1 q2
    rw [hW1]
    exact ⟨q1, q2⟩
  go_enter Tryd.func92, Tryd.ntmps92
  go_upto_region 1 with fail
  rw [← hW1]
  clear hW1
  have HB : Hid (BoxO W1.drew (w.heap.size + 1) opZ nilS ∧ FrO W1.drew (w.heap.size + 1)) := ⟨hB.1.drew, hB.2.drew⟩
  have b1 : Below w.heap.size w W1.drew := b0.drew
  have hz1 : w.heap.size ≤ W1.drew.heap.size := b1.size
  have hz2 : w.heap.size + 1 < W1.drew.heap.size := lt_of_cell hB.1.d0
  have cA := HC.out W1.drew b1
  have n1 : w.heap.size ≠ w.heap.size + 1 := by omega
  have hs1 : w.heap.size ≤ w.heap.size + 1 := by omega
  have HU : Hid (∀ W : World, (∀ i, W.cell? ⟨w.heap.size, i, none⟩ = W1.drew.cell? ⟨w.heap.size, i, none⟩) → W.cell? ⟨w.heap.size, 0, none⟩ = some (.slice p l cc) ∧ W.cell? ⟨w.heap.size, 1, none⟩ = some (.string t) ∧ W.cell? ⟨w.heap.size, 2, none⟩ = some (.iface 116 (.int .i64 z))) := fun W h => ⟨(h 0).trans e0, (h 1).trans e1, (h 2).trans e2⟩
  have M0 := HU.out W1.drew (fun _ => rfl)
  have HW : Hid (∀ W, Below W1.drew.heap.size W1.drew W → ∀ i, W.cell? ⟨w.heap.size, i, none⟩ = W1.drew.cell? ⟨w.heap.size, i, none⟩) := fun W h i => World.cell?_of_block (a := ⟨w.heap.size, i, none⟩) (h.block w.heap.size (by omega))
  have HS : Hid (∀ W, Below W1.drew.heap.size W1.drew W → (∀ u0 u1 u2 u3 u4 u5 u6 : Value, ((((((((W.setCell ⟨w.heap.size + 1, 0, none⟩ u0).setCell ⟨w.heap.size + 1, 1, none⟩ u1).setCell ⟨w.heap.size + 1, 2, none⟩ u2).setCell ⟨w.heap.size + 1, 3, none⟩ u3).setCell ⟨w.heap.size + 1, 4, none⟩ u4).setCell ⟨w.heap.size + 1, 5, none⟩ u5).setCell ⟨w.heap.size + 1, 6, none⟩ u6).cell? ⟨w.heap.size, 0, none⟩ = some (.slice p l cc) ∧ (((((((W.setCell ⟨w.heap.size + 1, 0, none⟩ u0).setCell ⟨w.heap.size + 1, 1, none⟩ u1).setCell ⟨w.heap.size + 1, 2, none⟩ u2).setCell ⟨w.heap.size + 1, 3, none⟩ u3).setCell ⟨w.heap.size + 1, 4, none⟩ u4).setCell ⟨w.heap.size + 1, 5, none⟩ u5).setCell ⟨w.heap.size + 1, 6, none⟩ u6).cell? ⟨w.heap.size, 1, none⟩ = some (.string t) ∧ (((((((W.setCell ⟨w.heap.size + 1, 0, none⟩ u0).setCell ⟨w.heap.size + 1, 1, none⟩ u1).setCell ⟨w.heap.size + 1, 2, none⟩ u2).setCell ⟨w.heap.size + 1, 3, none⟩ u3).setCell ⟨w.heap.size + 1, 4, none⟩ u4).setCell ⟨w.heap.size + 1, 5, none⟩ u5).setCell ⟨w.heap.size + 1, 6, none⟩ u6).cell? ⟨w.heap.size, 2, none⟩ = some (.iface 116 (.int .i64 z))) ∧ Below w.heap.size w (((((((W.setCell ⟨w.heap.size + 1, 0, none⟩ u0).setCell ⟨w.heap.size + 1, 1, none⟩ u1).setCell ⟨w.heap.size + 1, 2, none⟩ u2).setCell ⟨w.heap.size + 1, 3, none⟩ u3).setCell ⟨w.heap.size + 1, 4, none⟩ u4).setCell ⟨w.heap.size + 1, 5, none⟩ u5).setCell ⟨w.heap.size + 1, 6, none⟩ u6))) := fun W h u0 u1 u2 u3 u4 u5 u6 => ⟨HU.out _ (fun i => (cell_set7 (B := w.heap.size + 1) (j := i) W n1 u0 u1 u2 u3 u4 u5 u6).trans (HW.out W h i)), below_set7 (B := w.heap.size + 1) (b1.trans (h.mono hz1)) hs1 u0 u1 u2 u3 u4 u5 u6⟩
  clear hB e0 e1 e2 b0
  go_region_held3 (fun w' => (w'.cell? ⟨w.heap.size, 0, none⟩ = some (.slice p l cc) ∧ w'.cell? ⟨w.heap.size, 1, none⟩ = some (.string t) ∧ w'.cell? ⟨w.heap.size, 2, none⟩ = some (.iface 116 (.int .i64 z))) ∧ Below w.heap.size w w')
    (first | exact ⟨by with_reducible first | assumption | exact M0 | exact MS _ _ _ _ _ _ _, by with_reducible first | assumption | exact b1 | exact BS _ _ _ _ _ _ _⟩)
    (first
      | (go_at_call 100; have hx := OA; clear hx; refine (plain_d z wA).mono ?_; rintro r wP ⟨rfl, hP⟩; have HP' := HA'.trans (hP.mono HA'.size); have bP := b1.trans (HP'.mono hz1); have mP := HU.out wP (HW.out wP HP'); have OF : Hid (OwnA wP W1.drew.heap.size (.slice pA A.length cA') A) := owns_below OA.out hP; obtain ⟨q0, q1, q2, q3, q4, q5, q6⟩ := HB.out.1.below HP'; obtain ⟨h0, h1, h2, h3, h4, h5, h6⟩ := HB.out.2.below HB.out.1 HP'; simp only [z0] at q0 q1 q2 q3 q4 q5 q6; have MS := fun u0 u1 u2 u3 u4 u5 u6 => (HS.out wP HP' u0 u1 u2 u3 u4 u5 u6).1; have BS := fun u0 u1 u2 u3 u4 u5 u6 => (HS.out wP HP' u0 u1 u2 u3 u4 u5 u6).2)
      | (go_at_call 27; refine cA2.mono ?_; rintro r wA ⟨vA, rfl, oA, hA⟩; obtain ⟨pA, cA', rfl⟩ := own_slice oA; have HA' := HP'.trans (hA.mono HP'.size); have bA := b1.trans (HA'.mono hz1); have mA := HU.out wA (HW.out wA HA'); have OA : Hid (OwnA wA W1.drew.heap.size (.slice pA A.length cA') A) := own_weaken oA HP'.size; clear oA; have OF := OA; obtain ⟨q0, q1, q2, q3, q4, q5, q6⟩ := HB.out.1.below HA'; obtain ⟨h0, h1, h2, h3, h4, h5, h6⟩ := HB.out.2.below HB.out.1 HA'; simp only [z0] at q0 q1 q2 q3 q4 q5 q6; have MS := fun u0 u1 u2 u3 u4 u5 u6 => (HS.out wA HA' u0 u1 u2 u3 u4 u5 u6).1; have BS := fun u0 u1 u2 u3 u4 u5 u6 => (HS.out wA HA' u0 u1 u2 u3 u4 u5 u6).2)
      | (go_at_call 27; refine cA.mono ?_; rintro r wA ⟨vA, rfl, oA, hA⟩; obtain ⟨pA, cA', rfl⟩ := own_slice oA; have HA' := hA; have bA := b1.trans (HA'.mono hz1); have mA := HU.out wA (HW.out wA HA'); have OA : Hid (OwnA wA W1.drew.heap.size (.slice pA A.length cA') A) := oA; clear oA)
      | (go_at_call 100; refine (plain_d z W1.drew).mono ?_; rintro r wP ⟨rfl, hP⟩; have HP' := hP; have bP := b1.trans (HP'.mono hz1); have mP := HU.out wP (HW.out wP HP'); have cA2 := HC.out wP bP))
  · have same : ∀ (u0 u1 u2 u3 u4 u5 u6 : Value) (v : Value) (hv : OwnA wA W1.drew.heap.size v A), OwnA (((((((wA.setCell ⟨w.heap.size + 1, 0, none⟩ u0).setCell ⟨w.heap.size + 1, 1, none⟩ u1).setCell ⟨w.heap.size + 1, 2, none⟩ u2).setCell ⟨w.heap.size + 1, 3, none⟩ u3).setCell ⟨w.heap.size + 1, 4, none⟩ u4).setCell ⟨w.heap.size + 1, 5, none⟩ u5).setCell ⟨w.heap.size + 1, 6, none⟩ u6) w.heap.size v A := fun u0 u1 u2 u3 u4 u5 u6 v hv =>
      own_weaken (owns_same hv fun k hk => by
        have := (owns_block hv k hk).1
        exact heap_set7 _ (by omega) _ _ _ _ _ _ _) hz1
    go_wp2
    exact bodyPost_ret (v := opV ⟨2, t, (2, z, ⟨#[]⟩), 0, []⟩ (.slice pA A.length cA')) (by simp [results, Tryd.results92, go_sem, q0, q1, q2, q3, q4, q5, q6]) rfl ⟨_, rfl, same _ _ _ _ _ _ _ _ OF.out, BS _ _ _ _ _ _ _⟩

set_option maxHeartbeats 1000000 in
set_option maxRecDepth 100000 in
theorem embOp_text (y : ByteArray) (s : Value) (A : List A2) (t : ByteArray) (w : World) (hR : RN w s A) (hl : A.length ≤ 2097152) :
    Calls Tryd.prog 92 #[.agg #[s, .string t, .iface 117 (.string y)]] w fun r w' => ∃ v', r = .returned (opV ⟨2, t, (3, 0, y), 0, []⟩ v') ∧ OwnA w' w.heap.size v' A ∧ Below w.heap.size w w' := by
  have HC : Hid (∀ W, Below w.heap.size w W → Calls Tryd.prog 27 #[.agg #[s]] W fun r w' => ∃ v', r = .returned v' ∧ OwnA w' W.heap.size v' A ∧ Below W.heap.size W w') := fun W hW => attributes_any s A W (hR.row.below hW) hR.nz hl
  obtain ⟨p, l, cc, rfl⟩ : ∃ p l c, s = .slice p l c := by obtain ⟨p, c, h, _⟩ := hR.row.val; exact ⟨_, _, _, h⟩
  clear hR hl
  obtain ⟨W1, hW1⟩ : ∃ W, W = (w.alloc (.cells #[.slice p l cc, .string t, .iface 117 (.string y)] 60)).alloc (.cells #[.int .i64 0, .string ⟨#[]⟩, .int .i64 0, .int .i64 0, .string ⟨#[]⟩, .int .i64 0, .slice none 0 0] 33) := ⟨_, rfl⟩
  have b0 : Below w.heap.size w W1 := by rw [hW1]; exact ((Below.refl _ _).alloc (Nat.le_refl _) _).alloc (by simp) _
  have e0 : W1.cell? ⟨w.heap.size, 0, none⟩ = some (.slice p l cc) := by rw [hW1]; simp
  have e1 : W1.cell? ⟨w.heap.size, 1, none⟩ = some (.string t) := by rw [hW1]; simp
  have e2 : W1.cell? ⟨w.heap.size, 2, none⟩ = some (.iface 117 (.string y)) := by rw [hW1]; simp
  have hB : BoxO W1 (w.heap.size + 1) opZ nilS ∧ FrO W1 (w.heap.size + 1) := by
    have q1 := BoxO.new (w.alloc (.cells #[.slice p l cc, .string t, .iface 117 (.string y)] 60)) opZ nilS
    have q2 := FrO.new (w.alloc (.cells #[.slice p l cc, .string t, .iface 117 (.string y)] 60)) opZ nilS
    rw [World.size_alloc] at q1 q2
    rw [hW1]
    exact ⟨q1, q2⟩
  go_enter Tryd.func92, Tryd.ntmps92
  go_upto_region 1 with fail
  rw [← hW1]
  clear hW1
  have HB : Hid (BoxO W1.drew (w.heap.size + 1) opZ nilS ∧ FrO W1.drew (w.heap.size + 1)) := ⟨hB.1.drew, hB.2.drew⟩
  have b1 : Below w.heap.size w W1.drew := b0.drew
  have hz1 : w.heap.size ≤ W1.drew.heap.size := b1.size
  have hz2 : w.heap.size + 1 < W1.drew.heap.size := lt_of_cell hB.1.d0
  have cA := HC.out W1.drew b1
  have n1 : w.heap.size ≠ w.heap.size + 1 := by omega
  have hs1 : w.heap.size ≤ w.heap.size + 1 := by omega
  have HU : Hid (∀ W : World, (∀ i, W.cell? ⟨w.heap.size, i, none⟩ = W1.drew.cell? ⟨w.heap.size, i, none⟩) → W.cell? ⟨w.heap.size, 0, none⟩ = some (.slice p l cc) ∧ W.cell? ⟨w.heap.size, 1, none⟩ = some (.string t) ∧ W.cell? ⟨w.heap.size, 2, none⟩ = some (.iface 117 (.string y))) := fun W h => ⟨(h 0).trans e0, (h 1).trans e1, (h 2).trans e2⟩
  have M0 := HU.out W1.drew (fun _ => rfl)
  have HW : Hid (∀ W, Below W1.drew.heap.size W1.drew W → ∀ i, W.cell? ⟨w.heap.size, i, none⟩ = W1.drew.cell? ⟨w.heap.size, i, none⟩) := fun W h i => World.cell?_of_block (a := ⟨w.heap.size, i, none⟩) (h.block w.heap.size (by omega))
  have HS : Hid (∀ W, Below W1.drew.heap.size W1.drew W → (∀ u0 u1 u2 u3 u4 u5 u6 : Value, ((((((((W.setCell ⟨w.heap.size + 1, 0, none⟩ u0).setCell ⟨w.heap.size + 1, 1, none⟩ u1).setCell ⟨w.heap.size + 1, 2, none⟩ u2).setCell ⟨w.heap.size + 1, 3, none⟩ u3).setCell ⟨w.heap.size + 1, 4, none⟩ u4).setCell ⟨w.heap.size + 1, 5, none⟩ u5).setCell ⟨w.heap.size + 1, 6, none⟩ u6).cell? ⟨w.heap.size, 0, none⟩ = some (.slice p l cc) ∧ (((((((W.setCell ⟨w.heap.size + 1, 0, none⟩ u0).setCell ⟨w.heap.size + 1, 1, none⟩ u1).setCell ⟨w.heap.size + 1, 2, none⟩ u2).setCell ⟨w.heap.size + 1, 3, none⟩ u3).setCell ⟨w.heap.size + 1, 4, none⟩ u4).setCell ⟨w.heap.size + 1, 5, none⟩ u5).setCell ⟨w.heap.size + 1, 6, none⟩ u6).cell? ⟨w.heap.size, 1, none⟩ = some (.string t) ∧ (((((((W.setCell ⟨w.heap.size + 1, 0, none⟩ u0).setCell ⟨w.heap.size + 1, 1, none⟩ u1).setCell ⟨w.heap.size + 1, 2, none⟩ u2).setCell ⟨w.heap.size + 1, 3, none⟩ u3).setCell ⟨w.heap.size + 1, 4, none⟩ u4).setCell ⟨w.heap.size + 1, 5, none⟩ u5).setCell ⟨w.heap.size + 1, 6, none⟩ u6).cell? ⟨w.heap.size, 2, none⟩ = some (.iface 117 (.string y))) ∧ Below w.heap.size w (((((((W.setCell ⟨w.heap.size + 1, 0, none⟩ u0).setCell ⟨w.heap.size + 1, 1, none⟩ u1).setCell ⟨w.heap.size + 1, 2, none⟩ u2).setCell ⟨w.heap.size + 1, 3, none⟩ u3).setCell ⟨w.heap.size + 1, 4, none⟩ u4).setCell ⟨w.heap.size + 1, 5, none⟩ u5).setCell ⟨w.heap.size + 1, 6, none⟩ u6))) := fun W h u0 u1 u2 u3 u4 u5 u6 => ⟨HU.out _ (fun i => (cell_set7 (B := w.heap.size + 1) (j := i) W n1 u0 u1 u2 u3 u4 u5 u6).trans (HW.out W h i)), below_set7 (B := w.heap.size + 1) (b1.trans (h.mono hz1)) hs1 u0 u1 u2 u3 u4 u5 u6⟩
  clear hB e0 e1 e2 b0
  go_region_held3 (fun w' => (w'.cell? ⟨w.heap.size, 0, none⟩ = some (.slice p l cc) ∧ w'.cell? ⟨w.heap.size, 1, none⟩ = some (.string t) ∧ w'.cell? ⟨w.heap.size, 2, none⟩ = some (.iface 117 (.string y))) ∧ Below w.heap.size w w')
    (first | exact ⟨by with_reducible first | assumption | exact M0 | exact MS _ _ _ _ _ _ _, by with_reducible first | assumption | exact b1 | exact BS _ _ _ _ _ _ _⟩)
    (first
      | (go_at_call 102; have hx := OA; clear hx; refine (plain_t y wA).mono ?_; rintro r wP ⟨rfl, hP⟩; have HP' := HA'.trans (hP.mono HA'.size); have bP := b1.trans (HP'.mono hz1); have mP := HU.out wP (HW.out wP HP'); have OF : Hid (OwnA wP W1.drew.heap.size (.slice pA A.length cA') A) := owns_below OA.out hP; obtain ⟨q0, q1, q2, q3, q4, q5, q6⟩ := HB.out.1.below HP'; obtain ⟨h0, h1, h2, h3, h4, h5, h6⟩ := HB.out.2.below HB.out.1 HP'; simp only [z0] at q0 q1 q2 q3 q4 q5 q6; have MS := fun u0 u1 u2 u3 u4 u5 u6 => (HS.out wP HP' u0 u1 u2 u3 u4 u5 u6).1; have BS := fun u0 u1 u2 u3 u4 u5 u6 => (HS.out wP HP' u0 u1 u2 u3 u4 u5 u6).2)
      | (go_at_call 27; refine cA2.mono ?_; rintro r wA ⟨vA, rfl, oA, hA⟩; obtain ⟨pA, cA', rfl⟩ := own_slice oA; have HA' := HP'.trans (hA.mono HP'.size); have bA := b1.trans (HA'.mono hz1); have mA := HU.out wA (HW.out wA HA'); have OA : Hid (OwnA wA W1.drew.heap.size (.slice pA A.length cA') A) := own_weaken oA HP'.size; clear oA; have OF := OA; obtain ⟨q0, q1, q2, q3, q4, q5, q6⟩ := HB.out.1.below HA'; obtain ⟨h0, h1, h2, h3, h4, h5, h6⟩ := HB.out.2.below HB.out.1 HA'; simp only [z0] at q0 q1 q2 q3 q4 q5 q6; have MS := fun u0 u1 u2 u3 u4 u5 u6 => (HS.out wA HA' u0 u1 u2 u3 u4 u5 u6).1; have BS := fun u0 u1 u2 u3 u4 u5 u6 => (HS.out wA HA' u0 u1 u2 u3 u4 u5 u6).2)
      | (go_at_call 27; refine cA.mono ?_; rintro r wA ⟨vA, rfl, oA, hA⟩; obtain ⟨pA, cA', rfl⟩ := own_slice oA; have HA' := hA; have bA := b1.trans (HA'.mono hz1); have mA := HU.out wA (HW.out wA HA'); have OA : Hid (OwnA wA W1.drew.heap.size (.slice pA A.length cA') A) := oA; clear oA)
      | (go_at_call 102; refine (plain_t y W1.drew).mono ?_; rintro r wP ⟨rfl, hP⟩; have HP' := hP; have bP := b1.trans (HP'.mono hz1); have mP := HU.out wP (HW.out wP HP'); have cA2 := HC.out wP bP))
  · have same : ∀ (u0 u1 u2 u3 u4 u5 u6 : Value) (v : Value) (hv : OwnA wA W1.drew.heap.size v A), OwnA (((((((wA.setCell ⟨w.heap.size + 1, 0, none⟩ u0).setCell ⟨w.heap.size + 1, 1, none⟩ u1).setCell ⟨w.heap.size + 1, 2, none⟩ u2).setCell ⟨w.heap.size + 1, 3, none⟩ u3).setCell ⟨w.heap.size + 1, 4, none⟩ u4).setCell ⟨w.heap.size + 1, 5, none⟩ u5).setCell ⟨w.heap.size + 1, 6, none⟩ u6) w.heap.size v A := fun u0 u1 u2 u3 u4 u5 u6 v hv =>
      own_weaken (owns_same hv fun k hk => by
        have := (owns_block hv k hk).1
        exact heap_set7 _ (by omega) _ _ _ _ _ _ _) hz1
    go_wp2
    exact bodyPost_ret (v := opV ⟨2, t, (3, 0, y), 0, []⟩ (.slice pA A.length cA')) (by simp [results, Tryd.results92, go_sem, q0, q1, q2, q3, q4, q5, q6]) rfl ⟨_, rfl, same _ _ _ _ _ _ _ _ OF.out, BS _ _ _ _ _ _ _⟩
end Go.Proofs.YtfllomfjhkgaoaaDoor

/- What the methods Op of pieces answer. -/
namespace Go.Proofs.YtfllomfjhkgaoaaDoor
open Go Go.RowKit Go.Lib
set_option linter.unusedVariables false

set_option maxHeartbeats 1000000 in
set_option maxRecDepth 100000 in
theorem retOp (s : Value) (A : List A2) (n : Int) (w : World) (hR : RN w s A) (hl : A.length ≤ 2097152) :
    Calls Tryd.prog 94 #[.agg #[s, .int .i64 n]] w fun r w' => ∃ v', r = .returned (opV ⟨3, ⟨#[]⟩, z0, n, []⟩ v') ∧ OwnA w' w.heap.size v' A ∧ Below w.heap.size w w' := by
  have HC : Hid (∀ W, Below w.heap.size w W → Calls Tryd.prog 27 #[.agg #[s]] W fun r w' => ∃ v', r = .returned v' ∧ OwnA w' W.heap.size v' A ∧ Below W.heap.size W w') := fun W hW => attributes_any s A W (hR.row.below hW) hR.nz hl
  obtain ⟨p, l, cc, rfl⟩ : ∃ p l c, s = .slice p l c := by obtain ⟨p, c, h, _⟩ := hR.row.val; exact ⟨_, _, _, h⟩
  clear hR hl
  obtain ⟨W1, hW1⟩ : ∃ W, W = (w.alloc (.cells #[.slice p l cc, .int .i64 n] 63)).alloc (.cells #[.int .i64 0, .string ⟨#[]⟩, .int .i64 0, .int .i64 0, .string ⟨#[]⟩, .int .i64 0, .slice none 0 0] 33) := ⟨_, rfl⟩
  have b0 : Below w.heap.size w W1 := by rw [hW1]; exact ((Below.refl _ _).alloc (Nat.le_refl _) _).alloc (by simp) _
  have e0 : W1.cell? ⟨w.heap.size, 0, none⟩ = some (.slice p l cc) := by rw [hW1]; simp
  have e1 : W1.cell? ⟨w.heap.size, 1, none⟩ = some (.int .i64 n) := by rw [hW1]; simp
  have hB : BoxO W1 (w.heap.size + 1) opZ nilS ∧ FrO W1 (w.heap.size + 1) := by
    have q1 := BoxO.new (w.alloc (.cells #[.slice p l cc, .int .i64 n] 63)) opZ nilS
    have q2 := FrO.new (w.alloc (.cells #[.slice p l cc, .int .i64 n] 63)) opZ nilS
    rw [World.size_alloc] at q1 q2
    rw [hW1]
    exact ⟨q1, q2⟩
  go_enter Tryd.func94, Tryd.ntmps94
  go_upto_region 1 with fail
  rw [← hW1]
  clear hW1
  have HB : Hid (BoxO W1.drew (w.heap.size + 1) opZ nilS ∧ FrO W1.drew (w.heap.size + 1)) := ⟨hB.1.drew, hB.2.drew⟩
  have b1 : Below w.heap.size w W1.drew := b0.drew
  have hz1 : w.heap.size ≤ W1.drew.heap.size := b1.size
  have hz2 : w.heap.size + 1 < W1.drew.heap.size := lt_of_cell hB.1.d0
  have cA := HC.out W1.drew b1
  have n1 : w.heap.size ≠ w.heap.size + 1 := by omega
  have hs1 : w.heap.size ≤ w.heap.size + 1 := by omega
  have HU : Hid (∀ W : World, (∀ i, W.cell? ⟨w.heap.size, i, none⟩ = W1.drew.cell? ⟨w.heap.size, i, none⟩) → W.cell? ⟨w.heap.size, 0, none⟩ = some (.slice p l cc) ∧ W.cell? ⟨w.heap.size, 1, none⟩ = some (.int .i64 n)) := fun W h => ⟨(h 0).trans e0, (h 1).trans e1⟩
  have M0 := HU.out W1.drew (fun _ => rfl)
  have HW : Hid (∀ W, Below W1.drew.heap.size W1.drew W → ∀ i, W.cell? ⟨w.heap.size, i, none⟩ = W1.drew.cell? ⟨w.heap.size, i, none⟩) := fun W h i => World.cell?_of_block (a := ⟨w.heap.size, i, none⟩) (h.block w.heap.size (by omega))
  have HS : Hid (∀ W, Below W1.drew.heap.size W1.drew W → (∀ u0 u1 u2 u3 u4 u5 u6 : Value, ((((((((W.setCell ⟨w.heap.size + 1, 0, none⟩ u0).setCell ⟨w.heap.size + 1, 1, none⟩ u1).setCell ⟨w.heap.size + 1, 2, none⟩ u2).setCell ⟨w.heap.size + 1, 3, none⟩ u3).setCell ⟨w.heap.size + 1, 4, none⟩ u4).setCell ⟨w.heap.size + 1, 5, none⟩ u5).setCell ⟨w.heap.size + 1, 6, none⟩ u6).cell? ⟨w.heap.size, 0, none⟩ = some (.slice p l cc) ∧ (((((((W.setCell ⟨w.heap.size + 1, 0, none⟩ u0).setCell ⟨w.heap.size + 1, 1, none⟩ u1).setCell ⟨w.heap.size + 1, 2, none⟩ u2).setCell ⟨w.heap.size + 1, 3, none⟩ u3).setCell ⟨w.heap.size + 1, 4, none⟩ u4).setCell ⟨w.heap.size + 1, 5, none⟩ u5).setCell ⟨w.heap.size + 1, 6, none⟩ u6).cell? ⟨w.heap.size, 1, none⟩ = some (.int .i64 n)) ∧ Below w.heap.size w (((((((W.setCell ⟨w.heap.size + 1, 0, none⟩ u0).setCell ⟨w.heap.size + 1, 1, none⟩ u1).setCell ⟨w.heap.size + 1, 2, none⟩ u2).setCell ⟨w.heap.size + 1, 3, none⟩ u3).setCell ⟨w.heap.size + 1, 4, none⟩ u4).setCell ⟨w.heap.size + 1, 5, none⟩ u5).setCell ⟨w.heap.size + 1, 6, none⟩ u6))) := fun W h u0 u1 u2 u3 u4 u5 u6 => ⟨HU.out _ (fun i => (cell_set7 (B := w.heap.size + 1) (j := i) W n1 u0 u1 u2 u3 u4 u5 u6).trans (HW.out W h i)), below_set7 (B := w.heap.size + 1) (b1.trans (h.mono hz1)) hs1 u0 u1 u2 u3 u4 u5 u6⟩
  clear hB e0 e1 b0
  go_region_held3 (fun w' => (w'.cell? ⟨w.heap.size, 0, none⟩ = some (.slice p l cc) ∧ w'.cell? ⟨w.heap.size, 1, none⟩ = some (.int .i64 n)) ∧ Below w.heap.size w w')
    (first | exact ⟨by with_reducible first | assumption | exact M0 | exact MS _ _ _ _ _ _ _, by with_reducible first | assumption | exact b1 | exact BS _ _ _ _ _ _ _⟩)
    (first
      | (go_at_call 27; refine cA.mono ?_; rintro r wA ⟨vA, rfl, oA, hA⟩; obtain ⟨pA, cA', rfl⟩ := own_slice oA; have HA' := hA; have bA := b1.trans (HA'.mono hz1); have mA := HU.out wA (HW.out wA HA'); have OA : Hid (OwnA wA W1.drew.heap.size (.slice pA A.length cA') A) := oA; clear oA; obtain ⟨q0, q1, q2, q3, q4, q5, q6⟩ := HB.out.1.below HA'; obtain ⟨h0, h1, h2, h3, h4, h5, h6⟩ := HB.out.2.below HB.out.1 HA'; simp only [z0] at q0 q1 q2 q3 q4 q5 q6; have MS := fun u0 u1 u2 u3 u4 u5 u6 => (HS.out wA HA' u0 u1 u2 u3 u4 u5 u6).1; have BS := fun u0 u1 u2 u3 u4 u5 u6 => (HS.out wA HA' u0 u1 u2 u3 u4 u5 u6).2))
  · have same : ∀ (u0 u1 u2 u3 u4 u5 u6 : Value) (v : Value) (hv : OwnA wA W1.drew.heap.size v A), OwnA (((((((wA.setCell ⟨w.heap.size + 1, 0, none⟩ u0).setCell ⟨w.heap.size + 1, 1, none⟩ u1).setCell ⟨w.heap.size + 1, 2, none⟩ u2).setCell ⟨w.heap.size + 1, 3, none⟩ u3).setCell ⟨w.heap.size + 1, 4, none⟩ u4).setCell ⟨w.heap.size + 1, 5, none⟩ u5).setCell ⟨w.heap.size + 1, 6, none⟩ u6) w.heap.size v A := fun u0 u1 u2 u3 u4 u5 u6 v hv =>
      own_weaken (owns_same hv fun k hk => by
        have := (owns_block hv k hk).1
        exact heap_set7 _ (by omega) _ _ _ _ _ _ _) hz1
    go_wp2
    exact bodyPost_ret (v := opV ⟨3, ⟨#[]⟩, z0, n, []⟩ (.slice pA A.length cA')) (by simp [results, Tryd.results94, go_sem, z0, q0, q1, q2, q3, q4, q5, q6]) rfl ⟨_, rfl, same _ _ _ _ _ _ _ _ OA.out, BS _ _ _ _ _ _ _⟩

set_option maxHeartbeats 1000000 in
theorem delOp (n : Int) (w : World) :
    Calls Tryd.prog 96 #[.agg #[.int .i64 n]] w fun r w' => r = .returned (opV ⟨4, ⟨#[]⟩, z0, n, []⟩ (.slice none 0 0)) ∧ Below w.heap.size w w' := by
  go_enter Tryd.func96, Tryd.ntmps96
  go_wp2
  exact bodyPost_ret (v := opV ⟨4, ⟨#[]⟩, z0, n, []⟩ (.slice none 0 0)) (by simp [results, Tryd.results96, go_sem, z0]) rfl ⟨rfl, by go_grown⟩
theorem embOp_any (s : Value) (A : List A2) (t : ByteArray) (v : P3) (w : World) (hv : chkP v = 0) (hR : RN w s A) (hl : A.length ≤ 2097152) :
    Calls Tryd.prog 92 #[.agg #[s, .string t, valP v]] w fun r w' => ∃ v', r = .returned (opV ⟨2, t, v, 0, []⟩ v') ∧ OwnA w' w.heap.size v' A ∧ Below w.heap.size w w' := by
  obtain ⟨x, z, u⟩ := v
  rcases good_cases hv with ⟨rfl, rfl, rfl⟩ | ⟨rfl, rfl, rfl⟩ | ⟨rfl, rfl, rfl⟩ | ⟨rfl, rfl⟩ | ⟨rfl, rfl, _⟩
  · exact embOp_null s A t w hR hl
  · exact embOp_flag0 s A t w hR hl
  · exact embOp_flag1 s A t w hR hl
  · exact embOp_num z s A t w hR hl
  · exact embOp_text u s A t w hR hl
theorem opQ_1 {e : Op5} (hg : opE e = 0) (hk : e.k = 1) (s : Value) (w : World) (hR : RN w s e.A) (hl : e.A.length ≤ 2097152) :
    Calls Tryd.prog 90 #[.agg #[s, .string e.t, .int .i64 (scs e.t.data.toList).length]] w fun r w' => ∃ v', r = .returned (opV e v') ∧ OwnA w' w.heap.size v' e.A ∧ Below w.heap.size w w' := by
  refine (insOp s e.A e.t _ w hR hl).mono fun r w' ⟨v', h1, h2, h3⟩ => ⟨v', ?_, h2, h3⟩
  rw [h1]
  rcases op_good hg with ⟨hi, _⟩ | ⟨_, _, h⟩ | ⟨_, _, h⟩
  · have hc := hi.count
    rcases hi.kind with ⟨_, hv⟩ | ⟨h2, _⟩
    · obtain ⟨k, t, v, c, A⟩ := e
      simp only at hk hv hc
      subst hk hv hc
      rfl
    · omega
  · omega
  · omega
theorem opQ_2 {e : Op5} (hg : opE e = 0) (hk : e.k = 2) (s : Value) (w : World) (hR : RN w s e.A) (hl : e.A.length ≤ 2097152) :
    Calls Tryd.prog 92 #[.agg #[s, .string e.t, valP e.v]] w fun r w' => ∃ v', r = .returned (opV e v') ∧ OwnA w' w.heap.size v' e.A ∧ Below w.heap.size w w' := by
  rcases op_good hg with ⟨hi, _⟩ | ⟨_, _, h⟩ | ⟨_, _, h⟩
  · refine (embOp_any s e.A e.t e.v w hi.val hR hl).mono fun r w' ⟨v', h1, h2, h3⟩ => ⟨v', ?_, h2, h3⟩
    rw [h1]
    have hc := hi.count
    obtain ⟨k, t, v, c, A⟩ := e
    simp only at hk hc
    subst hk hc
    rfl
  · omega
  · omega
theorem cnt_flds {e : Op5} (h : Cnt e) : e.t = ⟨#[]⟩ ∧ e.v = z0 := by
  refine ⟨?_, h.val⟩
  have := h.text
  have h0 : e.t.toList = [] := List.isEmpty_iff.1 this
  rw [toList_data] at h0
  exact ByteArray.ext (Array.ext' h0)
theorem opQ_3 {e : Op5} (hg : opE e = 0) (hk : e.k = 3) (s : Value) (w : World) (hR : RN w s e.A) (hl : e.A.length ≤ 2097152) :
    Calls Tryd.prog 94 #[.agg #[s, .int .i64 e.c]] w fun r w' => ∃ v', r = .returned (opV e v') ∧ OwnA w' w.heap.size v' e.A ∧ Below w.heap.size w w' := by
  refine (retOp s e.A e.c w hR hl).mono fun r w' ⟨v', h1, h2, h3⟩ => ⟨v', ?_, h2, h3⟩
  rw [h1]
  rcases op_good hg with ⟨_, h⟩ | ⟨hc, _, _⟩ | ⟨_, _, h⟩
  · omega
  · obtain ⟨ht, hv⟩ := cnt_flds hc
    obtain ⟨k, t, v, c, A⟩ := e
    simp only at hk ht hv
    subst hk ht hv
    rfl
  · omega
theorem opQ_4 {e : Op5} (hg : opE e = 0) (hk : e.k = 4) (w : World) :
    Calls Tryd.prog 96 #[.agg #[.int .i64 e.c]] w fun r w' => ∃ v', r = .returned (opV e v') ∧ OwnA w' w.heap.size v' e.A ∧ Below w.heap.size w w' := by
  refine (delOp e.c w).mono fun r w' ⟨h1, h3⟩ => ⟨.slice none 0 0, ?_, ?_, h3⟩
  · rw [h1]
    rcases op_good hg with ⟨_, h⟩ | ⟨_, _, h⟩ | ⟨hc, _, _⟩
    · omega
    · omega
    · obtain ⟨ht, hv⟩ := cnt_flds hc
      obtain ⟨k, t, v, c, A⟩ := e
      simp only at hk ht hv
      subst hk ht hv
      rfl
  · rw [drop_A hg hk]; exact ⟨rfl, Or.inl ⟨rfl, rfl⟩⟩
end Go.Proofs.YtfllomfjhkgaoaaDoor

/- Operations as new memory: appends of rows of operations; vellumlaw05.copied. -/
namespace Go.Proofs.YtfllomfjhkgaoaaDoor
open Go Go.RowKit Go.Lib
set_option linter.unusedVariables false

theorem cellsO_inv : ∀ (L : List OV) (j : Nat) (u : Value), (cellsO L)[j]? = some u → ∃ i d, L[i]? = some d ∧ ((j = i * 7 ∧ u = .int .i64 d.1) ∨ (j = i * 7 + 1 ∧ u = .string d.2.1) ∨ (j = i * 7 + 2 ∧ u = .int .i64 d.2.2.1.1) ∨ (j = i * 7 + 3 ∧ u = .int .i64 d.2.2.1.2.1) ∨ (j = i * 7 + 4 ∧ u = .string d.2.2.1.2.2) ∨ (j = i * 7 + 5 ∧ u = .int .i64 d.2.2.2.1) ∨ (j = i * 7 + 6 ∧ u = slV d.2.2.2.2))
  | [], j, u, h => by simp [cellsO] at h
  | p :: r, 0, u, h => ⟨0, p, rfl, Or.inl ⟨rfl, by simpa [cellsO] using h.symm⟩⟩
  | p :: r, 1, u, h => ⟨0, p, rfl, Or.inr (Or.inl ⟨rfl, by simpa [cellsO] using h.symm⟩)⟩
  | p :: r, 2, u, h => ⟨0, p, rfl, Or.inr (Or.inr (Or.inl ⟨rfl, by simpa [cellsO] using h.symm⟩))⟩
  | p :: r, 3, u, h => ⟨0, p, rfl, Or.inr (Or.inr (Or.inr (Or.inl ⟨rfl, by simpa [cellsO] using h.symm⟩)))⟩
  | p :: r, 4, u, h => ⟨0, p, rfl, Or.inr (Or.inr (Or.inr (Or.inr (Or.inl ⟨rfl, by simpa [cellsO] using h.symm⟩))))⟩
  | p :: r, 5, u, h => ⟨0, p, rfl, Or.inr (Or.inr (Or.inr (Or.inr (Or.inr (Or.inl ⟨rfl, by simpa [cellsO] using h.symm⟩)))))⟩
  | p :: r, 6, u, h => ⟨0, p, rfl, Or.inr (Or.inr (Or.inr (Or.inr (Or.inr (Or.inr ⟨rfl, by simpa [cellsO] using h.symm⟩)))))⟩
  | p :: r, j + 7, u, h => by
    obtain ⟨i, q, hq, hh⟩ := cellsO_inv r j u (by simpa [cellsO] using h)
    refine ⟨i + 1, q, by simpa using hq, ?_⟩
    rcases hh with ⟨h1, h2⟩ | ⟨h1, h2⟩ | ⟨h1, h2⟩ | ⟨h1, h2⟩ | ⟨h1, h2⟩ | ⟨h1, h2⟩ | ⟨h1, h2⟩
    · exact Or.inl ⟨by omega, h2⟩
    · exact Or.inr (Or.inl ⟨by omega, h2⟩)
    · exact Or.inr (Or.inr (Or.inl ⟨by omega, h2⟩))
    · exact Or.inr (Or.inr (Or.inr (Or.inl ⟨by omega, h2⟩)))
    · exact Or.inr (Or.inr (Or.inr (Or.inr (Or.inl ⟨by omega, h2⟩))))
    · exact Or.inr (Or.inr (Or.inr (Or.inr (Or.inr (Or.inl ⟨by omega, h2⟩)))))
    · exact Or.inr (Or.inr (Or.inr (Or.inr (Or.inr (Or.inr ⟨by omega, h2⟩)))))
/-- append(own, a row of operations ...). -/
theorem wpList_append_rowO {w : World} {ops : Array Oper} {rest : List Oper} {o : Oper} {a : Act} {Q : Exit → Act → World → Prop} (hgd : o.guard = none) (s x : Operand)
    (ho : o.op = .call { callee := .builtin .append, args := #[s, x], argTypes := #[22, 22] })
    (base : Nat) (v : Value) (L : List OV) (hs : a.eval s = v) (hown : OwnO w base v L)
    (u : Value) (M : List OV) (hx : a.eval x = u) (hM : RowO w u M)
    (h63 : L.length + M.length ≤ 33554432) (hbase : base ≤ w.heap.size)
    (h : ∀ v' w', OwnO w' base v' (L ++ M) → w.grownBy w' v.ownBlock → wpList Tryd.prog ops Q rest (a.put o.dst v') w') : wpList Tryd.prog ops Q (o :: rest) a w := by
  obtain ⟨i, z, hi, hz, hz1, hz2, hz3⟩ := infoOp
  obtain ⟨p, cap, rfl, hcap, hnz, hc⟩ := hM
  cases p with
  | none =>
    have hM0 : M = [] := List.eq_nil_of_length_eq_zero (by have := hnz rfl; omega)
    have hcap0 := hnz rfl
    subst hM0
    subst hcap0
    exact wpList_append_own_none hgd s x 22 ho base 33 i 7 Tryd.underlying22 hi v L.length (cellsO L) hs hown hx (h v w (by simpa using hown) ⟨rfl, rfl, rfl, Nat.le_refl _, fun _ _ _ => rfl⟩)
  | some ad =>
    refine wpList_append_own _ hgd s x _ ho base 33 i z 7 88 Tryd.underlying22 hi hz hz1 hz2 hz3 (by decide) v L.length (cellsO L) hs hown ad M.length cap (cellsO M) hx (cellsO_len M) (fun j y hj => ?_) (cellsO_one _) (by unfold maxLen; omega) (by omega) hbase (fun v' w' h1 h2 _ => h v' w' ?_ h2)
    · obtain ⟨i, d, hd, hh⟩ := cellsO_inv M j y hj
      obtain ⟨b, off, hp, h0, h1, h2, h3, h4, h5, h6⟩ := hc i d hd
      obtain rfl := Option.some.inj hp
      rw [Addr.add_lit]
      rcases hh with ⟨rfl, rfl⟩ | ⟨rfl, rfl⟩ | ⟨rfl, rfl⟩ | ⟨rfl, rfl⟩ | ⟨rfl, rfl⟩ | ⟨rfl, rfl⟩ | ⟨rfl, rfl⟩
      · exact h0
      · exact h1
      · exact h2
      · exact h3
      · exact h4
      · exact h5
      · exact h6
    · show w'.ownsRow _ _ _ _ _ _
      rw [cellsO_append, List.length_append]
      exact h1
/-- What operations in memory are, their lists the call's own. -/
def OwD (w : World) (B : Nat) (D : List OV) (E : List Op5) : Prop := All2 (fun (d : OV) (e : Op5) => d.1 = e.k ∧ d.2.1 = e.t ∧ d.2.2.1 = e.v ∧ d.2.2.2.1 = e.c ∧ OwnA w B (slV d.2.2.2.2) e.A) D E
theorem OwD.below {w w' : World} {B : Nat} {D : List OV} {E : List Op5} (h : OwD w B D E) (b : Below w.heap.size w w') : OwD w' B D E := All2.imp (fun d e h => ⟨h.1, h.2.1, h.2.2.1, h.2.2.2.1, owns_below h.2.2.2.2 b⟩) h
theorem OwD.keep {w w' : World} {B : Nat} {D : List OV} {E : List Op5} (h : OwD w B D E) (b : KeepA w w') : OwD w' B D E := All2.imp (fun d e h => ⟨h.1, h.2.1, h.2.2.1, h.2.2.2.1, keepA_own h.2.2.2.2 b⟩) h
theorem OwD.weaken {w : World} {B B' : Nat} {D : List OV} {E : List Op5} (h : OwD w B D E) (hb : B' ≤ B) : OwD w B' D E := All2.imp (fun d e h => ⟨h.1, h.2.1, h.2.2.1, h.2.2.2.1, own_weaken h.2.2.2.2 hb⟩) h
theorem OwD.re {w : World} {B : Nat} {D : List OV} {E : List Op5} (h : OwD w B D E) : ReD w D E := All2.imp (fun d e h => ⟨h.1, h.2.1, h.2.2.1, h.2.2.2.1, own_RN h.2.2.2.2⟩) h
/-- A list of operations, the call's own. -/
def CoO (w : World) (B : Nat) (v : Value) (E : List Op5) : Prop := ∃ D, OwnO w B v D ∧ OwD w B D E
theorem CoO.below {w w' : World} {B : Nat} {v : Value} {E : List Op5} (h : CoO w B v E) (b : Below w.heap.size w w') : CoO w' B v E := by
  obtain ⟨D, h1, h2⟩ := h
  exact ⟨D, owns_below h1 b, h2.below b⟩
theorem CoO.re {w : World} {B : Nat} {v : Value} {E : List Op5} (h : CoO w B v E) : ReO w v E := by
  obtain ⟨D, h1, h2⟩ := h
  exact ⟨D, own_rowO h1, h2.re⟩

end Go.Proofs.YtfllomfjhkgaoaaDoor

/- build: what a delta tells: Count, Ops, Pieces, Same. -/
namespace Go.Proofs.YtfllomfjhkgaoaaDoor
open Go Go.RowKit Go.Lib
set_option linter.unusedVariables false

theorem count_any5 {B1 B2 : Nat} (v : Value) (E : List Op5) (w : World) (h : DelV w B1 B2 v E) :
    Calls Tryd.prog 13 #[v] w fun e w' => e = .returned (.int .i64 E.length) ∧ Below w.heap.size w w' := by
  obtain ⟨q, pv, PL, rfl, _, hq, hrow, hpie⟩ := h
  have c0 : w.cell? ⟨q, 0, none⟩ = some pv := by rw [cell_of_heap hq]; rfl
  obtain ⟨p, c, rfl⟩ := own_slice hrow
  have hl := forall2_len hpie
  rw [← hl]
  clear hq hrow hpie hl
  go_enter Tryd.func13, Tryd.ntmps13
  go_wp2
  go_ret
  exact ⟨rfl, Below.refl _ _⟩
theorem wpList_make_op (w : World) {ops : Array Oper} {rest : List Oper} {o : Oper} {a : Act} {Q : Exit → Act → World → Prop}
    (hg : o.guard = none) (l c : Operand) (hop : o.op = Op.makeSlice 22 l c) (base : Nat)
    (kl kc : IntKind) (C : Int) (n : Nat) (hl : a.eval l = .int kl 0) (hc : a.eval c = .int kc C) (hC : C = (n : Int)) (b2 : n ≤ 8388608) (b4 : base ≤ w.heap.size)
    (hK : ∀ v w', OwnO w' base v [] → w.grownBy w' none → wpList Tryd.prog ops Q rest (a.put o.dst v) w') :
    wpList Tryd.prog ops Q (o :: rest) a w := by
  obtain ⟨i, z, hi, hz, hz1, hz2, hz3⟩ := infoOp
  exact wpList_make_own w hg l c _ hop base 33 i z 7 Tryd.underlying22 hi hz hz1 kl kc C n hl hc hC (by rw [hz2]; omega) (by unfold maxLen; omega) b4 fun w' h1 h2 => hK _ w' h1 h2
theorem wpList_make_pi2 (w : World) {ops : Array Oper} {rest : List Oper} {o : Oper} {a : Act} {Q : Exit → Act → World → Prop}
    (hg : o.guard = none) (l c : Operand) (hop : o.op = Op.makeSlice 39 l c) (base : Nat)
    (kl kc : IntKind) (C : Int) (n : Nat) (hl : a.eval l = .int kl 0) (hc : a.eval c = .int kc C) (hC : C = (n : Int)) (b2 : n ≤ 8388608) (b4 : base ≤ w.heap.size)
    (hK : ∀ v w', OwnI w' base v [] → w.grownBy w' none → wpList Tryd.prog ops Q rest (a.put o.dst v) w') :
    wpList Tryd.prog ops Q (o :: rest) a w := by
  obtain ⟨i, z, hi, hz, hz1, hz2, hz3⟩ := infoPi
  exact wpList_make_own w hg l c _ hop base 43 i z 1 Tryd.underlying39 hi hz hz1 kl kc C n hl hc hC (by rw [hz2]; omega) (by unfold maxLen; omega) b4 fun w' h1 h2 => hK _ w' h1 h2
/-- What a loop over a delta's pieces reads. -/
theorem del_read {w : World} {B1 B2 q : Nat} {pv : Value} {PL : List Value} {E : List Op5} (hrow : OwnI w B1 pv PL) (hpie : PieD w B2 PL E) : ∃ p cap, pv = .slice p E.length cap ∧ ∀ k, k < E.length → ∃ ga e s, p = some ⟨ga, 0, none⟩ ∧ E[k]? = some e ∧ w.cell? ⟨ga, k, none⟩ = some (pieceQ e s) ∧ OwnA w B2 s e.A := by
  have hl := forall2_len hpie
  obtain ⟨p, cap, e⟩ := own_slice hrow
  refine ⟨p, cap, by rw [e, hl], fun k hk => ?_⟩
  obtain ⟨g, c, x, hv', hB, hx, hc⟩ := own_cell hrow k (by omega)
  obtain ⟨e', s, he, rfl, hs⟩ := oneI hpie hx
  rw [e] at hv'
  simp only [Value.slice.injEq] at hv'
  exact ⟨g, e', s, hv'.1, he, hc, hs⟩
set_option maxHeartbeats 4000000 in
set_option maxRecDepth 100000 in
theorem ops_any {B1 B2 : Nat} (v : Value) (E : List Op5) (w : World) (h : DelV w B1 B2 v E) (hg : ∀ o ∈ E, opE o = 0) (hA : ∀ o ∈ E, o.A.length ≤ 2097152) (hl : E.length ≤ 4194304) :
    Calls Tryd.prog 9 #[v] w fun e w' => ∃ v', e = .returned v' ∧ CoO w' w.heap.size v' E ∧ Below w.heap.size w w' := by
  obtain ⟨q, pv, PL, rfl, _, hq, hrow, hpie⟩ := h
  have c0 : w.cell? ⟨q, 0, none⟩ = some pv := by rw [cell_of_heap hq]; rfl
  obtain ⟨p, cap, rfl, hrd⟩ := del_read (q := q) hrow hpie
  have HV : Hid (∀ k, k < E.length → ∃ ga e s, p = some ⟨ga, 0, none⟩ ∧ E[k]? = some e ∧ w.cell? ⟨ga, k, none⟩ = some (pieceQ e s) ∧ OwnA w B2 s e.A) := hrd
  have HG : Hid (∀ o ∈ E, opE o = 0 ∧ o.A.length ≤ 2097152) := fun o ho => ⟨hg o ho, hA o ho⟩
  obtain ⟨n, hn⟩ : ∃ n, E.length = n := ⟨_, rfl⟩
  have HN : Hid (E.length = n) := hn
  rw [hn] at c0 hl HV
  clear hq hrow hpie hrd hg hA hn
  go_enter Tryd.func9, Tryd.ntmps9
  go_wp2_with (at_make; refine wpList_make_op _ rfl _ _ rfl w.heap.size .i64 .i64 _ n rfl rfl rfl (by omega) (Nat.le_refl _) ?_; intro v0 w1 hown hgr; have hb1 : Below w.heap.size w w1 := (Below.refl _ _).grown hgr (Nat.le_refl _) (fun k hk => by cases hk); have c1 := (hb1.cell (lt_of_cell c0)).trans c0; clear hgr)
  go_loopw [3, 17] (fun al i wr => ∃ (k : Nat) (D : List OV), k ≤ n ∧ i = .int .i64 k ∧ D.length = k ∧ OwnO wr w.heap.size al D ∧ OwD wr w.heap.size D (E.take k) ∧ Below w.heap.size w wr) (fun _ i _ => n - (RowKit.intOf i).toNat)
  case atStart => exact ⟨0, [], Nat.zero_le _, rfl, rfl, hown, .nil, hb1⟩
  case round =>
    clear hown hb1 c1
    obtain ⟨k, D, hk, rfl, hDl, hown, hsp, hbw⟩ := hrel
    by_cases hlt : k < n
    · have hltI : (k : Int) < n := by omega
      obtain ⟨ga, e, s, rfl, he, hc, hs⟩ := HV.out k hlt
      have c2 := (hbw.cell (lt_of_cell hc)).trans hc
      have hs2 := owns_below hs hbw
      obtain ⟨hg1, hA1⟩ := HG.out e (List.mem_of_getElem? he)
      have HT : Hid (E.take (k + 1) = E.take k ++ [e]) := by show _ = _; rw [List.take_add_one, he]; rfl
      have hge : Hid (∀ j, u3.ownBlock = some j → w.heap.size ≤ j) := fun j hj => (owns_block hown j hj).1
      have HO : Hid (OwnO wr w.heap.size u3 D ∧ OwD wr w.heap.size D (E.take k)) := ⟨hown, hsp⟩
      have hlen : D.length ≤ 8388608 := by omega
      have hlz : w.heap.size ≤ wr.heap.size := hbw.size
      have hkk := kinds_of hg1
      rcases hkk with hkk | hkk | hkk | hkk
      · have cO := opQ_1 hg1 hkk s wr (own_RN hs2) hA1
        obtain ⟨nn, hnn⟩ : ∃ x : Int, ((scs e.t.data.toList).length : Int) = x := ⟨_, rfl⟩
        rw [pieceQ_1 hkk] at c2
        rw [hnn] at c2 cO
        clear he hc hs hs2 hown hsp hg1 hA1 hkk hnn
        go_wp2_with fail
        refine cO.mono ?_; rintro r w5 ⟨v', rfl, own5, hb5⟩
        obtain ⟨p5, c5, rfl⟩ := own_slice own5
        have bw5 : Below w.heap.size w w5 := hbw.trans (hb5.mono hlz)
        obtain ⟨ek, et, ⟨ex, en, eu⟩, ec, eA⟩ := e
        have ba : Below w5.heap.size w5 (w5.alloc (.cells #[.int .i64 ek, .string et, .int .i64 ex, .int .i64 en, .string eu, .int .i64 ec, .slice p5 eA.length c5] 33)) := (Below.refl _ _).alloc (Nat.le_refl _) _
        have hat : OpAt (w5.alloc (.cells #[.int .i64 ek, .string et, .int .i64 ex, .int .i64 en, .string eu, .int .i64 ec, .slice p5 eA.length c5] 33)) w5.heap.size 0 (ek, et, (ex, en, eu), ec, p5, eA.length, c5) := ⟨by simp, by simp, by simp, by simp, by simp, by simp, by simp⟩
        have HO7 : Hid (OwnO (w5.alloc (.cells #[.int .i64 ek, .string et, .int .i64 ex, .int .i64 en, .string eu, .int .i64 ec, .slice p5 eA.length c5] 33)) w.heap.size u3 D ∧ OpAt (w5.alloc (.cells #[.int .i64 ek, .string et, .int .i64 ex, .int .i64 en, .string eu, .int .i64 ec, .slice p5 eA.length c5] 33)) w5.heap.size 0 (ek, et, (ex, en, eu), ec, p5, eA.length, c5)) := ⟨owns_below (owns_below HO.out.1 hb5) ba, hat⟩
        have HP7 : Hid (OwD (w5.alloc (.cells #[.int .i64 ek, .string et, .int .i64 ex, .int .i64 en, .string eu, .int .i64 ec, .slice p5 eA.length c5] 33)) w.heap.size (D ++ [(ek, et, (ex, en, eu), ec, p5, eA.length, c5)]) (E.take (k + 1))) := by
          show OwD _ _ _ _
          rw [HT.out]
          exact forall2_append ((HO.out.2.below hb5).below ba) (.cons ⟨rfl, rfl, rfl, rfl, own_weaken (owns_below own5 ba) hlz⟩ .nil)
        have bw7 := bw5.trans (ba.mono bw5.size)
        have hl33 : D.length ≤ 33554432 := by omega
        clear own5 hb5 bw5 ba hat HO HT cO c2
        go_wp2_with (at_builtin; refine wpList_append_ops rfl (.tmp 21) (.tmp 24) rfl w.heap.size u3 D rfl HO7.out.1 w5.heap.size 1 _ rfl HO7.out.2 hl33 bw7.size ?_; intro v8 w8 own8 gr8 hat8; have hsp8 : Hid (OwD w8 w.heap.size _ _) := HP7.out.keep (keepA_grownO HO7.out.1 gr8); have b8 := bw7.grown gr8 bw7.size (fun j hj => hge.out j hj); have HO8 : Hid (OwnO w8 w.heap.size v8 _) := own8; clear own8 gr8 hat8 HO7 HP7)
        go_roundw
        case rel => exact ⟨k + 1, _, by omega, by go_num, by simp [hDl], HO8.out, hsp8.out, b8⟩
        case measure => simp [RowKit.intOf]; omega
      · have cO := opQ_2 hg1 hkk s wr (own_RN hs2) hA1
        obtain ⟨V, hV⟩ : ∃ V, valP e.v = V := ⟨_, rfl⟩
        rw [pieceQ_2 hkk] at c2
        rw [hV] at c2 cO
        clear he hc hs hs2 hown hsp hg1 hA1 hkk hV
        go_wp2_with fail
        refine cO.mono ?_; rintro r w5 ⟨v', rfl, own5, hb5⟩
        obtain ⟨p5, c5, rfl⟩ := own_slice own5
        have bw5 : Below w.heap.size w w5 := hbw.trans (hb5.mono hlz)
        obtain ⟨ek, et, ⟨ex, en, eu⟩, ec, eA⟩ := e
        have ba : Below w5.heap.size w5 (w5.alloc (.cells #[.int .i64 ek, .string et, .int .i64 ex, .int .i64 en, .string eu, .int .i64 ec, .slice p5 eA.length c5] 33)) := (Below.refl _ _).alloc (Nat.le_refl _) _
        have hat : OpAt (w5.alloc (.cells #[.int .i64 ek, .string et, .int .i64 ex, .int .i64 en, .string eu, .int .i64 ec, .slice p5 eA.length c5] 33)) w5.heap.size 0 (ek, et, (ex, en, eu), ec, p5, eA.length, c5) := ⟨by simp, by simp, by simp, by simp, by simp, by simp, by simp⟩
        have HO7 : Hid (OwnO (w5.alloc (.cells #[.int .i64 ek, .string et, .int .i64 ex, .int .i64 en, .string eu, .int .i64 ec, .slice p5 eA.length c5] 33)) w.heap.size u3 D ∧ OpAt (w5.alloc (.cells #[.int .i64 ek, .string et, .int .i64 ex, .int .i64 en, .string eu, .int .i64 ec, .slice p5 eA.length c5] 33)) w5.heap.size 0 (ek, et, (ex, en, eu), ec, p5, eA.length, c5)) := ⟨owns_below (owns_below HO.out.1 hb5) ba, hat⟩
        have HP7 : Hid (OwD (w5.alloc (.cells #[.int .i64 ek, .string et, .int .i64 ex, .int .i64 en, .string eu, .int .i64 ec, .slice p5 eA.length c5] 33)) w.heap.size (D ++ [(ek, et, (ex, en, eu), ec, p5, eA.length, c5)]) (E.take (k + 1))) := by
          show OwD _ _ _ _
          rw [HT.out]
          exact forall2_append ((HO.out.2.below hb5).below ba) (.cons ⟨rfl, rfl, rfl, rfl, own_weaken (owns_below own5 ba) hlz⟩ .nil)
        have bw7 := bw5.trans (ba.mono bw5.size)
        have hl33 : D.length ≤ 33554432 := by omega
        clear own5 hb5 bw5 ba hat HO HT cO c2
        go_wp2_with (at_builtin; refine wpList_append_ops rfl (.tmp 21) (.tmp 24) rfl w.heap.size u3 D rfl HO7.out.1 w5.heap.size 1 _ rfl HO7.out.2 hl33 bw7.size ?_; intro v8 w8 own8 gr8 hat8; have hsp8 : Hid (OwD w8 w.heap.size _ _) := HP7.out.keep (keepA_grownO HO7.out.1 gr8); have b8 := bw7.grown gr8 bw7.size (fun j hj => hge.out j hj); have HO8 : Hid (OwnO w8 w.heap.size v8 _) := own8; clear own8 gr8 hat8 HO7 HP7)
        go_roundw
        case rel => exact ⟨k + 1, _, by omega, by go_num, by simp [hDl], HO8.out, hsp8.out, b8⟩
        case measure => simp [RowKit.intOf]; omega
      · have cO := opQ_3 hg1 hkk s wr (own_RN hs2) hA1
        rw [pieceQ_3 hkk] at c2
        clear he hc hs hs2 hown hsp hg1 hA1 hkk
        go_wp2_with fail
        refine cO.mono ?_; rintro r w5 ⟨v', rfl, own5, hb5⟩
        obtain ⟨p5, c5, rfl⟩ := own_slice own5
        have bw5 : Below w.heap.size w w5 := hbw.trans (hb5.mono hlz)
        obtain ⟨ek, et, ⟨ex, en, eu⟩, ec, eA⟩ := e
        have ba : Below w5.heap.size w5 (w5.alloc (.cells #[.int .i64 ek, .string et, .int .i64 ex, .int .i64 en, .string eu, .int .i64 ec, .slice p5 eA.length c5] 33)) := (Below.refl _ _).alloc (Nat.le_refl _) _
        have hat : OpAt (w5.alloc (.cells #[.int .i64 ek, .string et, .int .i64 ex, .int .i64 en, .string eu, .int .i64 ec, .slice p5 eA.length c5] 33)) w5.heap.size 0 (ek, et, (ex, en, eu), ec, p5, eA.length, c5) := ⟨by simp, by simp, by simp, by simp, by simp, by simp, by simp⟩
        have HO7 : Hid (OwnO (w5.alloc (.cells #[.int .i64 ek, .string et, .int .i64 ex, .int .i64 en, .string eu, .int .i64 ec, .slice p5 eA.length c5] 33)) w.heap.size u3 D ∧ OpAt (w5.alloc (.cells #[.int .i64 ek, .string et, .int .i64 ex, .int .i64 en, .string eu, .int .i64 ec, .slice p5 eA.length c5] 33)) w5.heap.size 0 (ek, et, (ex, en, eu), ec, p5, eA.length, c5)) := ⟨owns_below (owns_below HO.out.1 hb5) ba, hat⟩
        have HP7 : Hid (OwD (w5.alloc (.cells #[.int .i64 ek, .string et, .int .i64 ex, .int .i64 en, .string eu, .int .i64 ec, .slice p5 eA.length c5] 33)) w.heap.size (D ++ [(ek, et, (ex, en, eu), ec, p5, eA.length, c5)]) (E.take (k + 1))) := by
          show OwD _ _ _ _
          rw [HT.out]
          exact forall2_append ((HO.out.2.below hb5).below ba) (.cons ⟨rfl, rfl, rfl, rfl, own_weaken (owns_below own5 ba) hlz⟩ .nil)
        have bw7 := bw5.trans (ba.mono bw5.size)
        have hl33 : D.length ≤ 33554432 := by omega
        clear own5 hb5 bw5 ba hat HO HT cO c2
        go_wp2_with (at_builtin; refine wpList_append_ops rfl (.tmp 21) (.tmp 24) rfl w.heap.size u3 D rfl HO7.out.1 w5.heap.size 1 _ rfl HO7.out.2 hl33 bw7.size ?_; intro v8 w8 own8 gr8 hat8; have hsp8 : Hid (OwD w8 w.heap.size _ _) := HP7.out.keep (keepA_grownO HO7.out.1 gr8); have b8 := bw7.grown gr8 bw7.size (fun j hj => hge.out j hj); have HO8 : Hid (OwnO w8 w.heap.size v8 _) := own8; clear own8 gr8 hat8 HO7 HP7)
        go_roundw
        case rel => exact ⟨k + 1, _, by omega, by go_num, by simp [hDl], HO8.out, hsp8.out, b8⟩
        case measure => simp [RowKit.intOf]; omega
      · have cO := opQ_4 hg1 hkk wr
        rw [pieceQ_4 hkk] at c2
        clear he hc hs hs2 hown hsp hg1 hA1 hkk
        go_wp2_with fail
        refine cO.mono ?_; rintro r w5 ⟨v', rfl, own5, hb5⟩
        obtain ⟨p5, c5, rfl⟩ := own_slice own5
        have bw5 : Below w.heap.size w w5 := hbw.trans (hb5.mono hlz)
        obtain ⟨ek, et, ⟨ex, en, eu⟩, ec, eA⟩ := e
        have ba : Below w5.heap.size w5 (w5.alloc (.cells #[.int .i64 ek, .string et, .int .i64 ex, .int .i64 en, .string eu, .int .i64 ec, .slice p5 eA.length c5] 33)) := (Below.refl _ _).alloc (Nat.le_refl _) _
        have hat : OpAt (w5.alloc (.cells #[.int .i64 ek, .string et, .int .i64 ex, .int .i64 en, .string eu, .int .i64 ec, .slice p5 eA.length c5] 33)) w5.heap.size 0 (ek, et, (ex, en, eu), ec, p5, eA.length, c5) := ⟨by simp, by simp, by simp, by simp, by simp, by simp, by simp⟩
        have HO7 : Hid (OwnO (w5.alloc (.cells #[.int .i64 ek, .string et, .int .i64 ex, .int .i64 en, .string eu, .int .i64 ec, .slice p5 eA.length c5] 33)) w.heap.size u3 D ∧ OpAt (w5.alloc (.cells #[.int .i64 ek, .string et, .int .i64 ex, .int .i64 en, .string eu, .int .i64 ec, .slice p5 eA.length c5] 33)) w5.heap.size 0 (ek, et, (ex, en, eu), ec, p5, eA.length, c5)) := ⟨owns_below (owns_below HO.out.1 hb5) ba, hat⟩
        have HP7 : Hid (OwD (w5.alloc (.cells #[.int .i64 ek, .string et, .int .i64 ex, .int .i64 en, .string eu, .int .i64 ec, .slice p5 eA.length c5] 33)) w.heap.size (D ++ [(ek, et, (ex, en, eu), ec, p5, eA.length, c5)]) (E.take (k + 1))) := by
          show OwD _ _ _ _
          rw [HT.out]
          exact forall2_append ((HO.out.2.below hb5).below ba) (.cons ⟨rfl, rfl, rfl, rfl, own_weaken (owns_below own5 ba) hlz⟩ .nil)
        have bw7 := bw5.trans (ba.mono bw5.size)
        have hl33 : D.length ≤ 33554432 := by omega
        clear own5 hb5 bw5 ba hat HO HT cO c2
        go_wp2_with (at_builtin; refine wpList_append_ops rfl (.tmp 21) (.tmp 24) rfl w.heap.size u3 D rfl HO7.out.1 w5.heap.size 1 _ rfl HO7.out.2 hl33 bw7.size ?_; intro v8 w8 own8 gr8 hat8; have hsp8 : Hid (OwD w8 w.heap.size _ _) := HP7.out.keep (keepA_grownO HO7.out.1 gr8); have b8 := bw7.grown gr8 bw7.size (fun j hj => hge.out j hj); have HO8 : Hid (OwnO w8 w.heap.size v8 _) := own8; clear own8 gr8 hat8 HO7 HP7)
        go_roundw
        case rel => exact ⟨k + 1, _, by omega, by go_num, by simp [hDl], HO8.out, hsp8.out, b8⟩
        case measure => simp [RowKit.intOf]; omega
    · have hltI : ¬ (k : Int) < n := by omega
      have hE : E.take k = E := List.take_of_length_le (by rw [HN.out]; omega)
      rw [hE] at hsp
      have HX : Hid (CoO wr w.heap.size u3 E) := ⟨D, hown, hsp⟩
      clear hown hsp
      go_wp2
      go_ret
      exact ⟨_, rfl, HX.out, hbw⟩
end Go.Proofs.YtfllomfjhkgaoaaDoor

/- vellumhand.Make, Is; vellumlaw06's gone, text, large, lives. -/
namespace Go.Proofs.YtfllomfjhkgaoaaDoor
open Go Go.RowKit Go.Lib
set_option linter.unusedVariables false

set_option maxHeartbeats 1000000 in
theorem make_any {I : List Nat} {a : Nat → Addr} (v : Value) (E : List Op5) (w : World) (hI : ∀ i ∈ IxO, i ∈ I) (hS : Std I a w) (hv : ReO w v E) (hF : FitL E) (hl : E.length ≤ 1048576) (ht : txtS E ≤ 8388608) :
    Calls Tryd.prog 8 #[v] w fun r w' => ∃ dv, r = .returned dv ∧ ((ofE 0 0 E).2 = 0 → DelV w' w.heap.size w.heap.size dv (canonL E)) ∧ ((ofE 0 0 E).2 ≠ 0 → dv = .pointer none) ∧ Below w.heap.size w w' := by
  have c1 := buildOf_any v E w hI hS hv hF hl ht
  obtain ⟨D, ⟨p, cap, rfl, _, _, _⟩, hre⟩ := hv
  rw [forall2_len hre] at c1 ⊢
  clear hS hI hF hre ht
  obtain ⟨x, hx⟩ : ∃ x, ofE 0 0 E = x := ⟨_, rfl⟩
  rw [hx] at c1 ⊢
  clear hx
  obtain ⟨i, e⟩ := x
  obtain ⟨i1, hi1⟩ : ∃ z : Int, (i : Int) = z := ⟨_, rfl⟩
  simp only at c1 ⊢
  rw [hi1] at c1
  clear hi1
  cases e with
  | zero =>
    rw [errOf_zero] at c1
    go_enter Tryd.func8, Tryd.ntmps8
    go_wp2_with fail
    refine c1.mono ?_; rintro r w2 ⟨dv, rfl, hd, _, hb2⟩
    obtain ⟨q, pv, PL, rfl, hq⟩ := hd (by first | trivial | rfl)
    have HD : Hid (DelV w2 w.heap.size w.heap.size (.pointer (some ⟨q, 0, none⟩)) (canonL E)) := ⟨q, pv, PL, rfl, hq⟩
    clear c1 hd hq
    go_wp2
    go_ret
    exact ⟨_, rfl, fun _ => HD.out, fun h => absurd rfl h, hb2⟩
  | succ e =>
    rw [errOf_succ] at c1
    go_enter Tryd.func8, Tryd.ntmps8
    go_wp2_with fail
    refine c1.mono ?_; rintro r w2 ⟨dv, rfl, _, hd, hb2⟩
    obtain rfl := hd (by omega)
    clear c1 hd
    go_wp2
    go_ret
    exact ⟨_, rfl, fun h => (by cases h), fun _ => rfl, hb2⟩
/-- Lists that the calls read. -/
structure OkR (E : List Op5) : Prop where
  n : ∀ o ∈ E, o.A.length ≤ 1048576
  len : E.length ≤ 2097152
set_option maxHeartbeats 1000000 in
theorem is_any {B1 B2 : Nat} (d v : Value) (E F : List Op5) (w : World) (h : DelV w B1 B2 d E) (hg : ∀ o ∈ E, opE o = 0) (hE : OkR E) (hv : ReO w v F) (hF : OkR F) :
    Calls Tryd.prog 11 #[d, v] w fun r w' => r = .returned (.bool (decide (E = F))) ∧ Below w.heap.size w w' := by
  have c1 := ops_any d E w h hg (fun o ho => by have := hE.n o ho; omega) (by have := hE.len; omega)
  have c2 : Hid (∀ W v', Below w.heap.size w W → ReO W v' E → Calls Tryd.prog 23 #[v', v] W fun r w' => r = .returned (.bool (decide (E = F))) ∧ Below W.heap.size W w') := fun W v' hW h' => same6_any v' v E F W h' (hv.below hW) hE.len hF.len hE.n hF.n
  have c3 : Hid (∀ W, Below w.heap.size w W → Calls Tryd.prog 13 #[d] W fun e w' => e = .returned (.int .i64 E.length) ∧ Below W.heap.size W w') := fun W hW => count_any5 d E W (h.below hW)
  obtain ⟨q, pv, PL, rfl, _⟩ := h
  obtain ⟨D, ⟨p, cap, rfl, _, _, _⟩, hre⟩ := hv
  have hl := forall2_len hre
  rw [hl] at c2 ⊢
  obtain ⟨R, hR⟩ : ∃ x, decide (E = F) = x := ⟨_, rfl⟩
  rw [hR] at c2 ⊢
  have hlen : R = true → ((E.length : Int) == (F.length : Int)) = true := fun h => by
    rw [h] at hR
    rw [of_decide_eq_true hR]; simp
  clear hg hE hF hre hl hR
  go_enter Tryd.func11, Tryd.ntmps11
  go_wp2_with fail
  refine c1.mono ?_; rintro r w2 ⟨v', rfl, hco, hb2⟩
  have c4 := c2.out w2 v' hb2 hco.re
  clear c1 c2 hco
  go_wp2_with fail
  refine c4.mono ?_; rintro r w3 ⟨rfl, hb3⟩
  have b3 := hb2.trans (hb3.mono hb2.size)
  clear c4 hb2 hb3
  cases R with
  | true =>
    have c5 := c3.out w3 b3
    have hl2 := hlen rfl
    clear c3 hlen
    go_wp2_with fail
    refine c5.mono ?_; rintro r w4 ⟨rfl, hb4⟩
    have b4 := b3.trans (hb4.mono b3.size)
    clear c5 b3 hb4
    go_wp2
    go_ret
    exact ⟨rfl, b4⟩
  | false =>
    clear c3 hlen
    go_wp2
    go_ret
    exact ⟨rfl, b3⟩
set_option maxHeartbeats 1000000 in
theorem gone_any (n : Int) (w : World) : Calls Tryd.prog 19 #[.int .i64 n] w fun r w' => r = .returned (opV (delO n) (.slice none 0 0)) ∧ Below w.heap.size w w' := by
  go_enter Tryd.func19, Tryd.ntmps19
  go_wp2
  exact bodyPost_ret (v := opV (delO n) (.slice none 0 0)) (by simp [results, Tryd.results19, go_sem, delO, z0]) rfl ⟨rfl, by go_grown⟩
/-- A text to insert. -/
def txtO (t : ByteArray) : Op5 := ⟨1, t, z0, 0, []⟩
set_option maxHeartbeats 1000000 in
theorem text_any (t : ByteArray) (w : World) : Calls Tryd.prog 20 #[.string t] w fun r w' => r = .returned (opV (txtO t) (.slice none 0 0)) ∧ Below w.heap.size w w' := by
  go_enter Tryd.func20, Tryd.ntmps20
  go_wp2
  exact bodyPost_ret (v := opV (txtO t) (.slice none 0 0)) (by simp [results, Tryd.results20, go_sem, txtO, z0]) rfl ⟨rfl, by go_grown⟩

/-- How large a list is. -/
def larN (E : List Op5) : Int := (E.map fun o => (o.t.size : Int) + 10 * o.A.length + 10).sum
theorem larN_append (E F : List Op5) : larN (E ++ F) = larN E + larN F := by unfold larN; rw [List.map_append, List.sum_append]
theorem larN_one (o : Op5) : larN [o] = (o.t.size : Int) + 10 * o.A.length + 10 := by simp [larN]
theorem larN_le {E : List Op5} (h : FitL E) : 0 ≤ larN E ∧ larN E ≤ 20000000 * E.length := by
  induction E with
  | nil => simp [larN]
  | cons o r ih =>
    obtain ⟨h1, h2⟩ := ih (fun x hx => h x (List.mem_cons_of_mem _ hx))
    have ho := h o (List.mem_cons_self ..)
    have e : larN (o :: r) = (o.t.size : Int) + 10 * o.A.length + 10 + larN r := by simp [larN]
    have a1 := ho.t
    have a2 := ho.n
    rw [e, List.length_cons]
    omega
theorem larN_txt (E : List Op5) : (txtS E : Int) + 10 * E.length ≤ larN E := by
  induction E with
  | nil => simp [larN, txtS]
  | cons o r ih =>
    have e : larN (o :: r) = (o.t.size : Int) + 10 * o.A.length + 10 + larN r := by simp [larN]
    have e2 : txtS (o :: r) = o.t.size + txtS r := by simp [txtS]
    rw [e, e2, List.length_cons]
    omega
theorem larN_mem {E : List Op5} {o : Op5} (h : o ∈ E) : (o.t.size : Int) + 10 * o.A.length + 10 ≤ larN E := by
  induction E with
  | nil => cases h
  | cons x r ih =>
    have e : larN (x :: r) = (x.t.size : Int) + 10 * x.A.length + 10 + larN r := by simp [larN]
    have := larN_txt r
    rcases List.mem_cons.1 h with rfl | h
    · omega
    · have := ih h; omega
set_option maxHeartbeats 2000000 in
set_option maxRecDepth 100000 in
theorem large_any (v : Value) (E : List Op5) (w : World) (hv : ReO w v E) (hF : FitL E) (hl : E.length ≤ 1048576) :
    Calls Tryd.prog 7 #[v] w fun r w' => r = .returned (.bool (decide (60000 < larN E))) ∧ Below w.heap.size w w' := by
  obtain ⟨D0, hrow, hre⟩ := hv
  have hDE := forall2_len hre
  obtain ⟨n, hn⟩ : ∃ n, D0.length = n := ⟨_, rfl⟩
  obtain ⟨p, cap, rfl, hcap, hnz, hc⟩ := hrow
  have HC : Hid (∀ (j : Nat) (d : OV), D0[j]? = some d → ∃ b off, p = some ⟨b, off, none⟩ ∧ OpAt w b (off + j * 7) d) := hc
  have HN : Hid (D0.length = n ∧ E.length = n) := ⟨hn, by rw [← hDE, hn]⟩
  have hl : n ≤ 1048576 := by rw [← hn, hDE]; exact hl
  have HF : Hid (FitL E) := hF
  have HE : Hid (∀ (k : Nat) (d : OV), D0[k]? = some d → ∃ e : Op5, E[k]? = some e ∧ d.2.1 = e.t ∧ d.2.2.2.2.2.1 = e.A.length) := fun k d h => by
    obtain ⟨y, hy, r⟩ := forall2_get hre k d h
    obtain ⟨q, c, e1, _⟩ := r.2.2.2.2.row.val
    refine ⟨y, hy, r.2.1, ?_⟩
    simp only [slV, Value.slice.injEq] at e1
    exact e1.2.1
  rw [hn] at hcap ⊢
  clear hc hn hDE hre hnz hF
  go_enter Tryd.func7, Tryd.ntmps7
  go_wp2
  go_loopw [3, 8] (fun s i wr => ∃ (k : Nat) (z : Int), k ≤ n ∧ i = .int .i64 k ∧ s = .int .i64 z ∧ 0 ≤ z ∧ z ≤ 20000000 * k ∧ Hid (larN (E.take k) = z) ∧ Below w.heap.size w wr) (fun _ i _ => n - (RowKit.intOf i).toNat)
  case atStart => exact ⟨0, 0, Nat.zero_le _, rfl, rfl, by omega, by omega, by show larN (E.take 0) = 0; simp [larN], Below.refl _ _⟩
  case round =>
    obtain ⟨k, z, hk, rfl, rfl, hz0, hz1, HZ, hbw⟩ := hrel
    by_cases hlt : k < n
    · have hltI : (k : Int) < n := by omega
      obtain ⟨d, hd⟩ : ∃ d, D0[k]? = some d := ⟨_, List.getElem?_eq_getElem (by rw [HN.out.1]; exact hlt)⟩
      obtain ⟨e, he, het, hel⟩ := HE.out k d hd
      obtain ⟨b, off, rfl, hp⟩ := HC.out k d hd
      obtain ⟨c0, c1, c2, c3, c4, c5, c6⟩ := hp.below hbw
      have hfe := HF.out e (List.mem_of_getElem? he)
      have hT1 := hfe.t
      have hT2 := hfe.n
      have HS : Hid (larN (E.take (k + 1)) = z + ((e.t.size : Int) + 10 * e.A.length + 10)) := by
        show _ = _
        rw [List.take_add_one, he, Option.toList_some, larN_append, larN_one, HZ.out]
      clear hd he hp HZ hfe
      obtain ⟨dk, dt, ⟨dx, dn, du⟩, dc, ds⟩ := d
      obtain ⟨dp, dl, dcap⟩ := ds
      simp only at het hel
      rw [← het, ← hel] at HS
      rw [← het] at hT1
      rw [← hel] at hT2
      clear het hel
      simp only [slV] at c0 c1 c2 c3 c4 c5 c6
      obtain ⟨s, hs⟩ : ∃ s : Int, (dt.size : Int) = s := ⟨_, rfl⟩
      obtain ⟨L, hL⟩ : ∃ s : Int, (dl : Int) = s := ⟨_, rfl⟩
      have hs1 : 0 ≤ s ∧ s ≤ 8388608 := by omega
      have hL1 : 0 ≤ L ∧ L ≤ 1048576 := by omega
      obtain ⟨hs1, hs2⟩ := hs1
      obtain ⟨hL1, hL2⟩ := hL1
      rw [hs, hL] at HS
      have hk2 : (k : Int) ≤ 1048576 := by omega
      go_wp2
      go_roundw
      case rel => exact ⟨k + 1, z + (s + 10 * L + 10), by omega, by go_num, rfl, by omega, by omega, HS.out, hbw.alloc hbw.size _⟩
      case measure => simp [RowKit.intOf]; omega
    · have hltI : ¬ (k : Int) < n := by omega
      have hE : E.take k = E := List.take_of_length_le (by rw [HN.out.2]; omega)
      rw [hE] at HZ
      go_wp2
      go_ret
      exact ⟨by rw [HZ.out]; rfl, hbw⟩
end Go.Proofs.YtfllomfjhkgaoaaDoor

/- vellumlaw06.lives answers true. -/
namespace Go.Proofs.YtfllomfjhkgaoaaDoor
open Go Go.RowKit Go.Lib
set_option linter.unusedVariables false

/-- A row of operations laid at once. -/
theorem row_blk {w : World} {b : Nat} {D : List OV} (h : w.heap[b]? = some (.cells (cellsO D).toArray 33 (0, 0))) : RowO w (.slice (some ⟨b, 0, none⟩) D.length D.length) D := by
  refine ⟨some ⟨b, 0, none⟩, D.length, rfl, Nat.le_refl _, fun h => (by cases h), fun j d hd => ⟨b, 0, rfl, ?_⟩⟩
  obtain ⟨k0, k1, k2, k3, k4, k5, k6⟩ := cellsO_get D j d hd
  have e : ∀ i u, (cellsO D)[i]? = some u → w.cell? ⟨b, i, none⟩ = some u := fun i u hu => by
    rw [cell_of_heap h]
    rw [List.getElem?_toArray]
    exact hu
  rw [Nat.zero_add]
  exact ⟨e _ _ k0, e _ _ k1, e _ _ k2, e _ _ k3, e _ _ k4, e _ _ k5, e _ _ k6⟩
/-- An operation without attributes, as it lies in memory. -/
abbrev ovN (o : Op5) : OV := (o.k, o.t, o.v, o.c, (none, 0, 0))
theorem re_blk {w : World} {b : Nat} {E : List Op5} (h : w.heap[b]? = some (.cells (cellsO (E.map ovN)).toArray 33 (0, 0))) (hA : ∀ o ∈ E, o.A = []) : ReO w (.slice (some ⟨b, 0, none⟩) E.length E.length) E := by
  refine ⟨E.map ovN, ?_, ?_⟩
  · have := row_blk h
    rw [List.length_map] at this
    exact this
  · clear h
    induction E with
    | nil => exact .nil
    | cons o r ih =>
      refine .cons ⟨rfl, rfl, rfl, rfl, ?_⟩ (ih fun x hx => hA x (List.mem_cons_of_mem _ hx))
      rw [hA o (List.mem_cons_self ..)]
      exact RN.nil w
def live0 : List Op5 := [delO 1, txtO ⟨#[97]⟩, delO 2, txtO ⟨#[98]⟩, ⟨3, ⟨#[]⟩, z0, 3, []⟩]
def live1 : List Op5 := [txtO ⟨#[97, 98]⟩, delO 3]
theorem live0_ok : ofE 0 0 live0 = (0, 0) := by kernel_rfl
theorem live0_canon : canonL live0 = live1 := by kernel_rfl
theorem fit_nil {o : Op5} (h1 : o.t.size ≤ 8388608) (h2 : o.v.2.2.size ≤ 1048576) (h3 : o.A = []) : Fit o := ⟨h1, h2, fun q hq => (by rw [h3] at hq; cases hq), by rw [h3]; simp⟩
theorem live0_nil : ∀ o ∈ live0, o.A = [] := by
  intro o ho
  simp only [live0, List.mem_cons, List.not_mem_nil, or_false] at ho
  rcases ho with rfl | rfl | rfl | rfl | rfl <;> rfl
theorem live1_nil : ∀ o ∈ live1, o.A = [] := by
  intro o ho
  simp only [live1, List.mem_cons, List.not_mem_nil, or_false] at ho
  rcases ho with rfl | rfl <;> rfl
theorem live0_fit : FitL live0 := by
  intro o ho
  refine fit_nil ?_ ?_ (live0_nil o ho)
  all_goals
    simp only [live0, List.mem_cons, List.not_mem_nil, or_false] at ho
    rcases ho with rfl | rfl | rfl | rfl | rfl <;> decide
theorem live1_okR : OkR live1 := ⟨fun o ho => by rw [live1_nil o ho]; simp, by decide⟩
theorem live1_good : ∀ o ∈ live1, opE o = 0 := by
  intro o ho
  simp only [live1, List.mem_cons, List.not_mem_nil, or_false] at ho
  rcases ho with rfl | rfl <;> kernel_rfl
set_option maxHeartbeats 2000000 in
set_option maxRecDepth 100000 in
theorem lives_any {I : List Nat} {a : Nat → Addr} (w : World) (hI : ∀ i ∈ IxO, i ∈ I) (hS : Std I a w) :
    Calls Tryd.prog 6 #[] w fun r w' => r = .returned (.bool true) ∧ Below w.heap.size w w' := by
  have CO : Hid (∀ W b, Below w.heap.size w W → W.heap[b]? = some (.cells (cellsO (live0.map ovN)).toArray 33 (0, 0)) → Calls Tryd.prog 18 #[.slice (some ⟨b, 0, none⟩) 5 5] W fun r w' => ∃ dv, r = .returned (.tuple #[dv, .int .i64 0, .nilIface]) ∧ (∃ q, dv = .pointer (some ⟨q, 0, none⟩)) ∧ DelV w' W.heap.size W.heap.size dv live1 ∧ Below W.heap.size W w') := fun W b hW hb => by
    refine (buildOf_any _ live0 W hI (hS.below hW) (re_blk hb live0_nil) live0_fit (by decide) (by decide)).mono ?_
    rintro r w' ⟨dv, h1, h2, _, h4⟩
    rw [live0_ok] at h1 h2
    rw [live0_canon] at h2
    have h5 := h2 rfl
    obtain ⟨q, pv, PL, e, _⟩ := id h5
    exact ⟨dv, h1, ⟨q, e⟩, h5, h4⟩
  have CI : Hid (∀ W b dv B1 B2, DelV W B1 B2 dv live1 → W.heap[b]? = some (.cells (cellsO (live1.map ovN)).toArray 33 (0, 0)) → Calls Tryd.prog 11 #[dv, .slice (some ⟨b, 0, none⟩) 2 2] W fun r w' => r = .returned (.bool true) ∧ Below W.heap.size W w') := fun W b dv B1 B2 h hb => by
    have := is_any dv (.slice (some ⟨b, 0, none⟩) 2 2) live1 live1 W h live1_good live1_okR (re_blk hb live1_nil) live1_okR
    rw [decide_eq_true rfl] at this
    exact this
  clear hS hI
  go_enter Tryd.func6, Tryd.ntmps6
  go_wp2_with fail
  refine (gone_any _ _).mono ?_; rintro r w1 ⟨rfl, hb1⟩
  go_wp2_with fail
  refine (text_any _ _).mono ?_; rintro r w2 ⟨rfl, hb2⟩
  have b2 := hb1.trans (hb2.mono hb1.size)
  clear hb1 hb2
  go_wp2_with fail
  refine (gone_any _ _).mono ?_; rintro r w3 ⟨rfl, hb3⟩
  have b3 := b2.trans (hb3.mono b2.size)
  clear b2 hb3
  go_wp2_with fail
  refine (text_any _ _).mono ?_; rintro r w4 ⟨rfl, hb4⟩
  have b4 := b3.trans (hb4.mono b3.size)
  clear b3 hb4
  go_wp2_with fail
  refine (CO.out _ _ (b4.alloc b4.size _) (heap_alloc_new w4 _)).mono ?_; rintro r w5 ⟨dv, rfl, ⟨q, rfl⟩, hd5, hb5⟩
  have b5 := (b4.alloc b4.size _).trans (hb5.mono (Nat.le_trans b4.size (by rw [World.size_alloc]; omega)))
  have HD5 : Hid (∃ B1 B2, DelV w5 B1 B2 (.pointer (some ⟨q, 0, none⟩)) live1) := ⟨_, _, hd5⟩
  clear hb5 hd5 CO b4
  go_wp2_with fail
  refine (text_any _ _).mono ?_; rintro r w6 ⟨rfl, hb6⟩
  have b6 := b5.trans (hb6.mono b5.size)
  have HD6 : Hid (∃ B1 B2, DelV w6 B1 B2 (.pointer (some ⟨q, 0, none⟩)) live1) := by obtain ⟨_, _, h⟩ := HD5.out; exact ⟨_, _, h.below hb6⟩
  clear hb6 b5 HD5
  go_wp2_with fail
  refine (gone_any _ _).mono ?_; rintro r w7 ⟨rfl, hb7⟩
  have b7 := b6.trans (hb7.mono b6.size)
  have HD7 : Hid (∃ B1 B2, DelV w7 B1 B2 (.pointer (some ⟨q, 0, none⟩)) live1) := by obtain ⟨_, _, h⟩ := HD6.out; exact ⟨_, _, h.below hb7⟩
  clear hb7 b6 HD6
  obtain ⟨B1, B2, hd7⟩ := HD7.out
  have HD : Hid (DelV w7 B1 B2 (.pointer (some ⟨q, 0, none⟩)) live1) := hd7
  clear hd7 HD7
  go_wp2_with fail
  refine (CI.out _ _ _ B1 B2 (HD.out.below ((Below.refl _ _).alloc (Nat.le_refl _) _)) (heap_alloc_new w7 _)).mono ?_; rintro r w8 ⟨rfl, hb8⟩
  have b8 := (b7.alloc b7.size _).trans (hb8.mono (Nat.le_trans b7.size (by rw [World.size_alloc]; omega)))
  clear hb8 b7 CI HD
  go_wp2_with fail
  refine (empty_any w8).mono ?_; rintro r w9 ⟨v9, rfl, ⟨q9, pv9, PL9, rfl, _⟩, hb9⟩
  have b9 := b8.trans (hb9.mono b8.size)
  clear hb9 b8
  go_wp2_with fail
  refine (new_any (B := 0) (D := fun _ => False) w9 (Nat.zero_le _) (by simp)).mono ?_; rintro r w10 ⟨rfl, _, hb10⟩
  have b10 := b9.trans (hb10.mono b9.size)
  clear hb10 b9
  go_wp2
  go_ret
  exact ⟨rfl, b10⟩
end Go.Proofs.YtfllomfjhkgaoaaDoor

/- Canonical lists of operations in order are in order. -/
namespace Go.Proofs.YtfllomfjhkgaoaaDoor
open Go Go.RowKit Go.Lib
set_option linter.unusedVariables false

theorem trim_sub (P : List Op5) : (∀ x ∈ trimL P, x ∈ P) ∧ txtS (trimL P) ≤ txtS P ∧ (trimL P).length ≤ P.length := by
  rcases List.eq_nil_or_concat P with rfl | ⟨F, x, rfl⟩
  · exact ⟨fun x h => h, Nat.le_refl _, Nat.le_refl _⟩
  · rw [List.concat_eq_append]
    have e : trimL (F ++ [x]) = if plainR x then F else F ++ [x] := by
      unfold trimL
      rw [List.getLast?_concat, List.dropLast_concat]
    rw [e]
    split
    · exact ⟨fun y h => List.mem_append_left _ h, by rw [txtS_append]; omega, by simp⟩
    · exact ⟨fun y h => h, Nat.le_refl _, Nat.le_refl _⟩
/-- The canonical list of operations in order is in order, and no greater. -/
theorem canon_ok {E : List Op5} (h : OkE E) : OkE (canonL E) ∧ txtS (canonL E) ≤ txtS E ∧ (canonL E).length ≤ E.length := by
  have hz : BSz (bldR E) E.length (txtS E) := by
    have := bldR_sz E BSz.nil h.fit
    rw [Nat.zero_add, Nat.zero_add] at this
    exact this
  obtain ⟨c1, c2, c3, c4⟩ := canon_spec h.wel
  obtain ⟨s1, s2⟩ := canon_sums h.wel
  have key : (∀ x ∈ canonL E, FitA x) ∧ txtS (canonL E) ≤ txtS E ∧ (canonL E).length ≤ E.length := by
    rw [← finB_canon h.wel]
    obtain ⟨a, b, c⟩ := hz.set
    have a2 := hz.fit
    have b2 := hz.txt
    have c2 := hz.len
    unfold finB
    by_cases h0 : 0 < (bldR E).2
    · rw [if_pos h0]
      unfold setB at a b c
      rw [if_pos h0] at a b c
      exact ⟨a, b, c⟩
    · rw [if_neg h0]
      obtain ⟨t1, t2, t3⟩ := trim_sub (bldR E).1
      exact ⟨fun x hx => a2 x (t1 x hx), by omega, by omega⟩
  have hb := h.base
  have hr := h.res
  have ht := h.txt
  have hl := h.len
  exact ⟨⟨wel_good c1 (by omega), key.1, by omega, by omega, by omega, by omega⟩, key.2⟩
theorem OkE.okR {E : List Op5} (h : OkE E) (hl : E.length ≤ 2097152) : OkR E := ⟨fun o ho => (h.fit o ho).n, hl⟩
theorem OkE.fitL {E : List Op5} (h : OkE E) : FitL E := fitA_all h.fit h.txt
/-- A list that isn't large. -/
theorem small_of {E : List Op5} (h : decide (60000 < larN E) = false) : txtS E ≤ 60000 ∧ E.length ≤ 6000 ∧ ∀ o ∈ E, o.A.length ≤ 6000 := by
  have h1 := of_decide_eq_false h
  have h2 := larN_txt E
  exact ⟨by omega, by omega, fun o ho => by have := larN_mem ho; omega⟩
/-- What a loop over a list of the call's own and over a row of pieces reads. -/
theorem both_read {w : World} {B1 B2 : Nat} {v1 v2 : Value} {P : List Value} {C : List Op5} (h1 : CoO w B1 v1 C) (h2 : OwnI w B2 v2 P) (h3 : PieD w B2 P C) :
    ∃ p1 c1 p2 c2, v1 = .slice p1 C.length c1 ∧ v2 = .slice p2 C.length c2 ∧ ∀ m, m < C.length → ∃ (e : Op5) (d : OV) (b ga : Nat) (s : Value), C[m]? = some e ∧ p1 = some ⟨b, 0, none⟩ ∧ OpAt w b (0 + m * 7) d ∧ ovV d = opV e (slV d.2.2.2.2) ∧ d.1 = e.k ∧ OwnA w B1 (slV d.2.2.2.2) e.A ∧ p2 = some ⟨ga, 0, none⟩ ∧ w.cell? ⟨ga, m, none⟩ = some (pieceQ e s) ∧ OwnA w B2 s e.A := by
  obtain ⟨D, hD, hO⟩ := h1
  have hl1 := forall2_len hO
  have hl2 := forall2_len h3
  obtain ⟨p1, c1, e1⟩ := own_slice hD
  obtain ⟨p2, c2, e2⟩ := own_slice h2
  refine ⟨p1, c1, p2, c2, by rw [e1, hl1], by rw [e2, hl2], fun m hm => ?_⟩
  obtain ⟨ga, c, x, hv', hB, hx, hc⟩ := own_cell h2 m (by omega)
  obtain ⟨e, s, he, rfl, hs⟩ := oneI h3 hx
  rw [e2] at hv'
  simp only [Value.slice.injEq] at hv'
  have hd : D[m]? = some (D[m]'(by omega)) := List.getElem?_eq_getElem (by omega)
  obtain ⟨y, hy, r⟩ := forall2_get hO m _ hd
  obtain rfl : y = e := Option.some.inj (hy.symm.trans he)
  rcases hD.2 with ⟨_, h0⟩ | ⟨g, cap, cur, e3, _, _, _, _, _, _⟩
  · omega
  · rw [e1] at e3
    simp only [Value.slice.injEq] at e3
    have hD' := hD
    unfold OwnO at hD'
    rw [e1, e3.1] at hD'
    have hat := own_opAt hD' m _ hd
    exact ⟨y, D[m]'(by omega), g, ga, s, he, e3.1, hat, opV_of ⟨r.1, r.2.1, r.2.2.1, r.2.2.2.1, own_RN r.2.2.2.2⟩, r.1, r.2.2.2.2, hv'.1, hc, hs⟩
end Go.Proofs.YtfllomfjhkgaoaaDoor

/- build: own and Pieces: a delta's pieces, each with a list of its own. -/
namespace Go.Proofs.YtfllomfjhkgaoaaDoor
open Go Go.RowKit Go.Lib
set_option linter.unusedVariables false

theorem as_r_e6 (v : Value) (W : World) : (Instr.typeAssert (.iface 63 v) 43 60 true).run Tryd.prog W = .ok (.tuple #[.agg #[.slice none 0 0, .string ⟨#[]⟩, .nilIface], .bool false]) W := by kernel_rfl
theorem as_d_e6 (v : Value) (W : World) : (Instr.typeAssert (.iface 65 v) 43 60 true).run Tryd.prog W = .ok (.tuple #[.agg #[.slice none 0 0, .string ⟨#[]⟩, .nilIface], .bool false]) W := by kernel_rfl
set_option maxHeartbeats 2000000 in
set_option maxRecDepth 100000 in
theorem own1_any (p : Option Addr) (l c : Nat) (t : ByteArray) (n : Int) (A : List A2) (w : World) (hR : RN w (.slice p l c) A) (hl : A.length ≤ 2097152) :
    Calls Tryd.prog 24 #[.iface 55 (.agg #[.slice p l c, .string t, .int .i64 n])] w fun r w' => ∃ p' c', r = .returned (.iface 55 (.agg #[.slice p' A.length c', .string t, .int .i64 n])) ∧ OwnA w' w.heap.size (.slice p' A.length c') A ∧ Below w.heap.size w w' := by
  have b0 : Below w.heap.size w (w.alloc (.cells #[.slice p l c, .string t, .int .i64 n] 55)) := (Below.refl _ _).alloc (Nat.le_refl _) _
  have k0 := heap_alloc_new w (.cells #[.slice p l c, .string t, .int .i64 n] 55)
  have cA := attributes_any (.slice p l c) A _ (hR.below b0).row hR.nz hl
  clear hR hl
  have a0 := as_i_i
  go_enter Tryd.func24, Tryd.ntmps24
  go_wp2_with fail
  refine cA.mono ?_; rintro r w2 ⟨v', rfl, own2, hb2⟩
  obtain ⟨p', c', rfl⟩ := own_slice own2
  have m0 := (hb2.block _ (by simp only [World.size_alloc]; omega)).trans k0
  have d0 : w2.cell? ⟨w.heap.size, 0, none⟩ = some (.slice p l c) := by rw [cell_of_heap m0]; rfl
  have d1 : w2.cell? ⟨w.heap.size, 1, none⟩ = some (.string t) := by rw [cell_of_heap m0]; rfl
  have d2 : w2.cell? ⟨w.heap.size, 2, none⟩ = some (.int .i64 n) := by rw [cell_of_heap m0]; rfl
  have f0 : w2.frozen? ⟨w.heap.size, 0, none⟩ = false := frozen_of_heap m0 0
  have HQ : Hid (OwnA (w2.setCell ⟨w.heap.size, 0, none⟩ (.slice p' A.length c')) w.heap.size (.slice p' A.length c') A ∧ Below w.heap.size w (w2.setCell ⟨w.heap.size, 0, none⟩ (.slice p' A.length c'))) :=
    ⟨own_weaken (ownsRow_setCell_below own2 (a := ⟨w.heap.size, 0, none⟩) (by simp only [World.size_alloc]; omega) _) (by simp only [World.size_alloc]; omega), (b0.trans (hb2.mono b0.size)).setCell (Nat.le_refl _) _⟩
  clear cA b0 k0 own2 hb2 m0
  go_wp2
  go_ret
  exact ⟨p', c', rfl, HQ.out⟩
set_option maxHeartbeats 2000000 in
set_option maxRecDepth 100000 in
theorem own2_any (p : Option Addr) (l c : Nat) (t : ByteArray) (V : Value) (A : List A2) (w : World) (hR : RN w (.slice p l c) A) (hl : A.length ≤ 2097152) (hV : ∃ u x, V = .iface u x) :
    Calls Tryd.prog 24 #[.iface 60 (.agg #[.slice p l c, .string t, V])] w fun r w' => ∃ p' c', r = .returned (.iface 60 (.agg #[.slice p' A.length c', .string t, V])) ∧ OwnA w' w.heap.size (.slice p' A.length c') A ∧ Below w.heap.size w w' := by
  obtain ⟨u, x, rfl⟩ := hV
  have b0 : Below w.heap.size w (w.alloc (.cells #[.slice p l c, .string t, .iface u x] 60)) := (Below.refl _ _).alloc (Nat.le_refl _) _
  have k0 := heap_alloc_new w (.cells #[.slice p l c, .string t, .iface u x] 60)
  have cA := attributes_any (.slice p l c) A _ (hR.below b0).row hR.nz hl
  clear hR hl
  have a0 := as_e_i
  have a1 := as_e_e
  go_enter Tryd.func24, Tryd.ntmps24
  go_wp2_with fail
  refine cA.mono ?_; rintro r w2 ⟨v', rfl, own2, hb2⟩
  obtain ⟨p', c', rfl⟩ := own_slice own2
  have m0 := (hb2.block _ (by simp only [World.size_alloc]; omega)).trans k0
  have d0 : w2.cell? ⟨w.heap.size, 0, none⟩ = some (.slice p l c) := by rw [cell_of_heap m0]; rfl
  have d1 : w2.cell? ⟨w.heap.size, 1, none⟩ = some (.string t) := by rw [cell_of_heap m0]; rfl
  have d2 : w2.cell? ⟨w.heap.size, 2, none⟩ = some (.iface u x) := by rw [cell_of_heap m0]; rfl
  have f0 : w2.frozen? ⟨w.heap.size, 0, none⟩ = false := frozen_of_heap m0 0
  have HQ : Hid (OwnA (w2.setCell ⟨w.heap.size, 0, none⟩ (.slice p' A.length c')) w.heap.size (.slice p' A.length c') A ∧ Below w.heap.size w (w2.setCell ⟨w.heap.size, 0, none⟩ (.slice p' A.length c'))) :=
    ⟨own_weaken (ownsRow_setCell_below own2 (a := ⟨w.heap.size, 0, none⟩) (by simp only [World.size_alloc]; omega) _) (by simp only [World.size_alloc]; omega), (b0.trans (hb2.mono b0.size)).setCell (Nat.le_refl _) _⟩
  clear cA b0 k0 own2 hb2 m0
  go_wp2
  go_ret
  exact ⟨p', c', rfl, HQ.out⟩
set_option maxHeartbeats 2000000 in
set_option maxRecDepth 100000 in
theorem own3_any (p : Option Addr) (l c : Nat) (n : Int) (A : List A2) (w : World) (hR : RN w (.slice p l c) A) (hl : A.length ≤ 2097152) :
    Calls Tryd.prog 24 #[.iface 63 (.agg #[.slice p l c, .int .i64 n])] w fun r w' => ∃ p' c', r = .returned (.iface 63 (.agg #[.slice p' A.length c', .int .i64 n])) ∧ OwnA w' w.heap.size (.slice p' A.length c') A ∧ Below w.heap.size w w' := by
  have b0 : Below w.heap.size w (w.alloc (.cells #[.slice p l c, .int .i64 n] 63)) := (Below.refl _ _).alloc (Nat.le_refl _) _
  have k0 := heap_alloc_new w (.cells #[.slice p l c, .int .i64 n] 63)
  have cA := attributes_any (.slice p l c) A _ (hR.below b0).row hR.nz hl
  clear hR hl
  have a0 := as_r_i
  have a1 := as_r_e6
  have a2 := as_r_r
  go_enter Tryd.func24, Tryd.ntmps24
  go_wp2_with fail
  refine cA.mono ?_; rintro r w2 ⟨v', rfl, own2, hb2⟩
  obtain ⟨p', c', rfl⟩ := own_slice own2
  have m0 := (hb2.block _ (by simp only [World.size_alloc]; omega)).trans k0
  have d0 : w2.cell? ⟨w.heap.size, 0, none⟩ = some (.slice p l c) := by rw [cell_of_heap m0]; rfl
  have d1 : w2.cell? ⟨w.heap.size, 1, none⟩ = some (.int .i64 n) := by rw [cell_of_heap m0]; rfl
  have f0 : w2.frozen? ⟨w.heap.size, 0, none⟩ = false := frozen_of_heap m0 0
  have HQ : Hid (OwnA (w2.setCell ⟨w.heap.size, 0, none⟩ (.slice p' A.length c')) w.heap.size (.slice p' A.length c') A ∧ Below w.heap.size w (w2.setCell ⟨w.heap.size, 0, none⟩ (.slice p' A.length c'))) :=
    ⟨own_weaken (ownsRow_setCell_below own2 (a := ⟨w.heap.size, 0, none⟩) (by simp only [World.size_alloc]; omega) _) (by simp only [World.size_alloc]; omega), (b0.trans (hb2.mono b0.size)).setCell (Nat.le_refl _) _⟩
  clear cA b0 k0 own2 hb2 m0
  go_wp2
  go_ret
  exact ⟨p', c', rfl, HQ.out⟩
set_option maxHeartbeats 1000000 in
theorem own4_any (n : Int) (w : World) : Calls Tryd.prog 24 #[.iface 65 (.agg #[.int .i64 n])] w fun r w' => r = .returned (.iface 65 (.agg #[.int .i64 n])) ∧ Below w.heap.size w w' := by
  have a0 := as_d_i
  have a1 := as_d_e6
  have a2 := as_d_r
  go_enter Tryd.func24, Tryd.ntmps24
  go_wp2
  go_ret
  exact ⟨rfl, by go_grown⟩
theorem ownP_any (e : Op5) (s : Value) (w : World) (hg : opE e = 0) (hR : RN w s e.A) (hl : e.A.length ≤ 2097152) :
    Calls Tryd.prog 24 #[pieceQ e s] w fun r w' => ∃ s', r = .returned (pieceQ e s') ∧ OwnA w' w.heap.size s' e.A ∧ Below w.heap.size w w' := by
  obtain ⟨p, c, rfl, _⟩ := hR.row.val
  rcases kinds_of hg with h | h | h | h
  · rw [pieceQ_1 h]
    refine (own1_any p _ c e.t _ e.A w hR hl).mono ?_
    rintro r w' ⟨p', c', h1, h2, h3⟩
    exact ⟨.slice p' e.A.length c', by rw [h1, pieceQ_1 h], h2, h3⟩
  · rw [pieceQ_2 h]
    refine (own2_any p _ c e.t _ e.A w hR hl (valP_if _)).mono ?_
    rintro r w' ⟨p', c', h1, h2, h3⟩
    exact ⟨.slice p' e.A.length c', by rw [h1, pieceQ_2 h], h2, h3⟩
  · rw [pieceQ_3 h]
    refine (own3_any p _ c e.c e.A w hR hl).mono ?_
    rintro r w' ⟨p', c', h1, h2, h3⟩
    exact ⟨.slice p' e.A.length c', by rw [h1, pieceQ_3 h], h2, h3⟩
  · rw [pieceQ_4 h]
    refine (own4_any e.c w).mono ?_
    rintro r w' ⟨h1, h3⟩
    exact ⟨.slice none 0 0, by rw [h1, pieceQ_4 h], by rw [drop_A hg h]; exact World.ownsRow_nil _ _ _ _, h3⟩
set_option maxHeartbeats 4000000 in
set_option maxRecDepth 100000 in
theorem pieces_any {B1 B2 : Nat} (v : Value) (E : List Op5) (w : World) (h : DelV w B1 B2 v E) (hg : ∀ o ∈ E, opE o = 0) (hA : ∀ o ∈ E, o.A.length ≤ 2097152) (hl : E.length ≤ 4194304) :
    Calls Tryd.prog 12 #[v] w fun e w' => ∃ v', e = .returned v' ∧ (∃ P, OwnI w' w.heap.size v' P ∧ PieD w' w.heap.size P E) ∧ Below w.heap.size w w' := by
  obtain ⟨q, pv, PL, rfl, _, hq, hrow, hpie⟩ := h
  have c0 : w.cell? ⟨q, 0, none⟩ = some pv := by rw [cell_of_heap hq]; rfl
  obtain ⟨p, cap, rfl, hrd⟩ := del_read (q := q) hrow hpie
  have HV : Hid (∀ k, k < E.length → ∃ ga e s, p = some ⟨ga, 0, none⟩ ∧ E[k]? = some e ∧ w.cell? ⟨ga, k, none⟩ = some (pieceQ e s) ∧ OwnA w B2 s e.A) := hrd
  have HG : Hid (∀ o ∈ E, opE o = 0 ∧ o.A.length ≤ 2097152) := fun o ho => ⟨hg o ho, hA o ho⟩
  obtain ⟨n, hn⟩ : ∃ n, E.length = n := ⟨_, rfl⟩
  have HN : Hid (E.length = n) := hn
  rw [hn] at c0 hl HV
  clear hq hrow hpie hrd hg hA hn
  go_enter Tryd.func12, Tryd.ntmps12
  go_wp2_with (at_make; refine wpList_make_pi2 _ rfl _ _ rfl w.heap.size .i64 .i64 _ n rfl rfl rfl (by omega) (Nat.le_refl _) ?_; intro v0 w1 hown hgr; have hb1 : Below w.heap.size w w1 := (Below.refl _ _).grown hgr (Nat.le_refl _) (fun k hk => by cases hk); have c1 := (hb1.cell (lt_of_cell c0)).trans c0; clear hgr)
  go_loopw [3, 17] (fun al i wr => ∃ (k : Nat) (D : List Value), k ≤ n ∧ i = .int .i64 k ∧ D.length = k ∧ OwnI wr w.heap.size al D ∧ PieD wr w.heap.size D (E.take k) ∧ Below w.heap.size w wr) (fun _ i _ => n - (RowKit.intOf i).toNat)
  case atStart => exact ⟨0, [], Nat.zero_le _, rfl, rfl, hown, .nil, hb1⟩
  case round =>
    clear hown hb1 c1
    obtain ⟨k, D, hk, rfl, hDl, hown, hsp, hbw⟩ := hrel
    by_cases hlt : k < n
    · have hltI : (k : Int) < n := by omega
      obtain ⟨ga, e, s, rfl, he, hc, hs⟩ := HV.out k hlt
      have c2 := (hbw.cell (lt_of_cell hc)).trans hc
      have hs2 := owns_below hs hbw
      obtain ⟨hg1, hA1⟩ := HG.out e (List.mem_of_getElem? he)
      have HT : Hid (E.take (k + 1) = E.take k ++ [e]) := by show _ = _; rw [List.take_add_one, he]; rfl
      have hge : Hid (∀ j, u3.ownBlock = some j → w.heap.size ≤ j) := fun j hj => (owns_block hown j hj).1
      have HO : Hid (OwnI wr w.heap.size u3 D ∧ PieD wr w.heap.size D (E.take k)) := ⟨hown, hsp⟩
      have hlen : D.length ≤ 8388608 := by omega
      have hlz : w.heap.size ≤ wr.heap.size := hbw.size
      have cO := ownP_any e s wr hg1 (own_RN hs2) hA1
      obtain ⟨u, x, hux⟩ := pieceQ_if e s
      have hq := fun s' => pieceQ_if e s'
      obtain ⟨PQ, hPQ⟩ : ∃ f : Value → Value, pieceQ e = f := ⟨_, rfl⟩
      have HPQ : Hid (pieceQ e = PQ) := hPQ
      rw [hPQ] at cO hux hq
      rw [hPQ] at c2
      rw [hux] at c2 cO
      clear he hc hs hs2 hown hsp hg1 hA1 hux hPQ
      go_wp2_with fail
      refine cO.mono ?_; rintro r w5 ⟨s', rfl, own5, hb5⟩
      obtain ⟨u', x', hux'⟩ := hq s'
      have HU : Hid (PQ s' = .iface u' x') := hux'
      rw [hux']
      have bw5 : Below w.heap.size w w5 := hbw.trans (hb5.mono hlz)
      have ba : Below w5.heap.size w5 (w5.alloc (.cells #[.iface u' x'] 43)) := (Below.refl _ _).alloc (Nat.le_refl _) _
      have hu6 : (w5.alloc (.cells #[.iface u' x'] 43)).cell? ⟨w5.heap.size, 0, none⟩ = some (.iface u' x') := by simp
      have HO7 : Hid (OwnI (w5.alloc (.cells #[.iface u' x'] 43)) w.heap.size u3 D) := owns_below (owns_below HO.out.1 hb5) ba
      have HP7 : Hid (PieD (w5.alloc (.cells #[.iface u' x'] 43)) w.heap.size (D ++ [.iface u' x']) (E.take (k + 1))) := by
        show PieD _ _ _ _
        rw [HT.out]
        exact forall2_append ((HO.out.2.below hb5).below ba) (.cons ⟨s', by rw [HPQ.out, HU.out], own_weaken (owns_below own5 ba) hlz⟩ .nil)
      have bw7 := bw5.trans (ba.mono bw5.size)
      clear own5 hb5 bw5 ba HO HT cO c2 hux' hq
      go_wp2_with (at_builtin; refine wpList_append_piAt rfl (.tmp 21) (.tmp 24) rfl w.heap.size u3 D rfl HO7.out w5.heap.size 1 (.iface u' x') rfl hu6 rfl hlen bw7.size ?_; intro v8 w8 own8 gr8 hat8; have hsp8 : Hid (PieD w8 w.heap.size _ _) := HP7.out.keep (keepA_grownI HO7.out gr8); have b8 := bw7.grown gr8 bw7.size (fun j hj => hge.out j hj); have HO8 : Hid (OwnI w8 w.heap.size v8 _) := own8; clear own8 gr8 hat8 HO7 HP7 hu6)
      go_roundw
      case rel => exact ⟨k + 1, _, by omega, by go_num, by simp [hDl], HO8.out, hsp8.out, b8⟩
      case measure => simp [RowKit.intOf]; omega
    · have hltI : ¬ (k : Int) < n := by omega
      have hE : E.take k = E := List.take_of_length_le (by rw [HN.out]; omega)
      rw [hE] at hsp
      have HX : Hid (∃ P, OwnI wr w.heap.size u3 P ∧ PieD wr w.heap.size P E) := ⟨D, hown, hsp⟩
      clear hown hsp
      go_wp2
      go_ret
      exact ⟨_, rfl, HX.out, hbw⟩
end Go.Proofs.YtfllomfjhkgaoaaDoor

/- Of all lists of operations vellumlaw06.BuildPieces answers true. -/
namespace Go.Proofs.YtfllomfjhkgaoaaDoor
open Go Go.RowKit Go.Lib
set_option linter.unusedVariables false

set_option maxHeartbeats 8000000 in
set_option maxRecDepth 100000 in
theorem buildPieces_any {I : List Nat} {ad : Nat → Addr} (va : Value) (A : List Op5) (w : World) (hI : ∀ i ∈ IxO, i ∈ I) (hS : Std I ad w) (ra : ReO w va A) (fA : FitL A) (lA : A.length ≤ 1048576) :
    Calls Tryd.prog 4 #[va] w fun r w' => r = .returned (.bool true) ∧ Below w.heap.size w w' := by
  have cF := lives_any w hI hS
  have cL : Hid (∀ W, Below w.heap.size w W → Calls Tryd.prog 7 #[va] W fun r w' => r = .returned (.bool (decide (60000 < larN A))) ∧ Below W.heap.size W w') := fun W hW => large_any va A W (ra.below hW) fA lA
  have cM : Hid (txtS A ≤ 60000 → ∀ W, Below w.heap.size w W → Calls Tryd.prog 8 #[va] W fun r w' => ∃ dv, r = .returned dv ∧ ((ofE 0 0 A).2 = 0 → DelV w' W.heap.size W.heap.size dv (canonL A)) ∧ ((ofE 0 0 A).2 ≠ 0 → dv = .pointer none) ∧ Below W.heap.size W w') := fun ht W hW => make_any va A W hI (hS.below hW) (ra.below hW) fA lA (by omega)
  obtain ⟨D, ⟨pv, cv, rfl, _, _, _⟩, hre⟩ := ra
  obtain ⟨nv, hnv⟩ : ∃ n, D.length = n := ⟨_, rfl⟩
  rw [hnv] at cL cM ⊢
  clear hre hnv hS hI
  obtain ⟨q, hq⟩ : ∃ q, decide (60000 < larN A) = q := ⟨_, rfl⟩
  rw [hq] at cL
  have HQ : Hid (decide (60000 < larN A) = q) := hq
  have HF : Hid (FitL A ∧ A.length ≤ 1048576) := ⟨fA, lA⟩
  clear hq fA lA
  go_enter Tryd.func4, Tryd.ntmps4
  go_wp2_with fail
  refine cF.mono ?_; rintro r w1 ⟨rfl, hb1⟩
  have c1 := cL.out _ hb1
  clear cF cL
  go_wp2_with fail
  refine c1.mono ?_; rintro r w2 ⟨rfl, hb2'⟩
  have hb2 := hb1.trans (hb2'.mono hb1.size)
  clear c1 hb1 hb2'
  cases q with
  | true =>
    go_wp2
    go_ret
    exact ⟨rfl, hb2⟩
  | false =>
    have hsm := small_of HQ.out
    have c2 := cM.out hsm.1 _ hb2
    have hlA := HF.out.2
    have HO : Hid ((ofE 0 0 A).2 = 0 → OkE (canonL A) ∧ (canonL A).length ≤ 6000) := fun h => by
      have ok := okE_of h HF.out.1 (by omega) (by omega)
      obtain ⟨k1, k2, k3⟩ := canon_ok ok
      exact ⟨k1, by omega⟩
    obtain ⟨C, hC⟩ : ∃ C, canonL A = C := ⟨_, rfl⟩
    rw [hC] at c2 HO
    obtain ⟨er, her⟩ : ∃ x, (ofE 0 0 A).2 = x := ⟨_, rfl⟩
    rw [her] at c2 HO
    clear hsm cM HQ HF hC her hlA
    cases er with
    | succ e =>
      go_wp2_with fail
      refine c2.mono ?_; rintro r w3 ⟨dv, rfl, _, hd, hb3⟩
      obtain rfl := hd (by omega)
      have b3 := hb2.trans (hb3.mono hb2.size)
      clear c2 hd hb2 hb3 HO
      go_wp2
      go_ret
      exact ⟨rfl, b3⟩
    | zero =>
      have HO2 := HO.out rfl
      obtain ⟨hok, hlC⟩ := HO2
      go_wp2_with fail
      refine c2.mono ?_; rintro r w3 ⟨dv, rfl, hd, _, hb3⟩
      have hdel : DelV w3 w2.heap.size w2.heap.size dv C := hd (by first | rfl | trivial)
      obtain ⟨qd, hqd⟩ : ∃ qd, dv = .pointer (some ⟨qd, 0, none⟩) := by obtain ⟨q, _, _, e, _⟩ := hdel; exact ⟨q, e⟩
      subst hqd
      have b3 := hb2.trans (hb3.mono hb2.size)
      have cO := ops_any _ C w3 hdel hok.good (fun o ho => by have := (hok.fit o ho).n; omega) (by omega)
      have HD : Hid (DelV w3 w2.heap.size w2.heap.size (.pointer (some ⟨qd, 0, none⟩)) C ∧ OkE C) := ⟨hdel, hok⟩
      clear c2 hd hb2 hb3 HO hdel hok
      go_wp2_with fail
      refine cO.mono ?_; rintro r w5 ⟨v5, rfl, hco, hb5⟩
      have cP := pieces_any _ C w5 (HD.out.1.below hb5) HD.out.2.good (fun o ho => by have := (HD.out.2.fit o ho).n; omega) (by omega)
      have b5 := b3.trans (hb5.mono b3.size)
      have HC5 : Hid (CoO w5 w3.heap.size v5 C ∧ Below w3.heap.size w3 w5) := ⟨hco, hb5⟩
      obtain ⟨D5, hD5, hO5⟩ := hco
      obtain ⟨p1, q1, rfl⟩ := own_slice hD5
      have hl5 := forall2_len hO5
      rw [hl5] at HC5 ⊢
      clear cO hb5 b3 hD5 hO5 hl5
      go_wp2_with fail
      refine cP.mono ?_; rintro r w6 ⟨v6, rfl, ⟨P6, hP6, hQ6⟩, hb6⟩
      obtain ⟨p2, q2, rfl⟩ := own_slice hP6
      have hl6 := forall2_len hQ6
      rw [hl6] at hP6 ⊢
      have b6 := b5.trans (hb6.mono b5.size)
      have cC := count_any5 _ C w6 ((HD.out.1.below HC5.out.2).below hb6)
      have HR6 : Hid (CoO w6 w3.heap.size (.slice p1 C.length q1) C ∧ OwnI w6 w5.heap.size (.slice p2 C.length q2) P6 ∧ PieD w6 w5.heap.size P6 C ∧ P6.length = C.length) := ⟨HC5.out.1.below hb6, hP6, hQ6, hl6⟩
      clear cP hb6 b5 HC5 hP6 hQ6 hl6
      have hlc : ((C.length : Int) != (C.length : Int)) = false := by simp
      go_wp2_with fail
      refine cC.mono ?_; rintro r w4 ⟨rfl, hb4⟩
      have b4 := b6.trans (hb4.mono b6.size)
      have HV : Hid (∀ m, m < C.length → ∃ (e : Op5) (d : OV) (b ga : Nat) (s : Value), C[m]? = some e ∧ p1 = some ⟨b, 0, none⟩ ∧ OpAt w4 b (0 + m * 7) d ∧ ovV d = opV e (slV d.2.2.2.2) ∧ d.1 = e.k ∧ OwnA w4 w3.heap.size (slV d.2.2.2.2) e.A ∧ p2 = some ⟨ga, 0, none⟩ ∧ w4.cell? ⟨ga, m, none⟩ = some (pieceQ e s) ∧ OwnA w4 w5.heap.size s e.A) := by
        obtain ⟨y1, y2, y3, y4⟩ := HR6.out
        have y2' : OwnI w4 w5.heap.size (.slice p2 C.length q2) P6 := owns_below y2 hb4
        obtain ⟨a1, a2, a3, a4, e1, e2, h⟩ := both_read (y1.below hb4) y2' (y3.below hb4)
        simp only [Value.slice.injEq] at e1 e2
        obtain ⟨rfl, _, _⟩ := e1
        obtain ⟨rfl, _, _⟩ := e2
        exact h
      have HG : Hid (∀ o ∈ C, opE o = 0 ∧ Fit o) := fun o ho => ⟨HD.out.2.good o ho, HD.out.2.fitL o ho⟩
      have HB4 : Hid (Below w.heap.size w w4) := b4
      obtain ⟨n, hn⟩ : ∃ n, C.length = n := ⟨_, rfl⟩
      have HN : Hid (C.length = n) := hn
      rw [hn] at HV hlC ⊢
      clear cC hb4 b4 b6 HR6 HD hlc hn
      go_wp2
      go_loopw [41] (fun i wr => ∃ (m : Nat), m ≤ n ∧ i = .int .i64 m ∧ Below w4.heap.size w4 wr) (fun i _ => n - (RowKit.intOf i).toNat)
      case atStart => exact ⟨0, Nat.zero_le _, rfl, Below.refl _ _⟩
      case round =>
        obtain ⟨m, hm, rfl, hbw⟩ := hrel
        by_cases hlt : m < n
        · have hltI : (m : Int) < n := by omega
          obtain ⟨e, d, b, ga, s, he, rfl, hin, hov, hdk, hrs', rfl, hc, hrp'⟩ := HV.out m hlt
          rw [Nat.zero_add] at hin
          obtain ⟨hge, hfe⟩ := HG.out e (List.mem_of_getElem? he)
          have hkk := kinds_of hge
          have hrs := own_RN hrs'
          have hrp := own_RN hrp'
          have cR : ∀ W, Below w4.heap.size w4 W → Calls Tryd.prog 15 #[ovV d] W fun r w' => r = .returned (.int .i64 (len5 e)) ∧ Below W.heap.size W w' := fun W hW => by
            rw [hov]; exact len6_any e _ _ _ W hge hfe.t
          have cS : ∀ W v, Below w4.heap.size w4 W → RN W v e.A → Calls Tryd.prog 14 #[opV e v, ovV d] W fun r w' => r = .returned (.bool true) ∧ Below W.heap.size W w' := fun W v hW hv => by
            have := same6o_any e e v (slV d.2.2.2.2) W hv.row (hrs.below hW).row (by have := hfe.n; omega) (by have := hfe.n; omega)
            rw [decide_eq_true rfl, ← hov] at this
            exact this
          have hAl : e.A.length ≤ 2097152 := by have := hfe.n; omega
          obtain ⟨c0, c1, c2, c3, c4, c5, c6⟩ := hin.below hbw
          have cp := (hbw.cell (lt_of_cell hc)).trans hc
          have HE : Hid (RN w4 s e.A ∧ RN w4 (slV d.2.2.2.2) e.A) := ⟨hrp, hrs⟩
          have HOk : Hid (d.1 = e.k) := hdk
          clear hin he hrs hc hrp hov hdk hrs' hrp' hfe
          obtain ⟨f, t, ⟨x, z, u⟩, cc1, p, j, cc⟩ := d
          simp only [slV] at c0 c1 c2 c3 c4 c5 c6 HE
          simp only [ovV, ovC, slV] at cR cS
          simp only at HOk
          have HU : Hid (∀ w', Below wr.drew.heap.size wr.drew w' → (w'.cell? ⟨b, m * 7, none⟩ = some (.int .i64 f) ∧ w'.cell? ⟨b, m * 7 + 1, none⟩ = some (.string t) ∧ w'.cell? ⟨b, m * 7 + 2, none⟩ = some (.int .i64 x) ∧ w'.cell? ⟨b, m * 7 + 3, none⟩ = some (.int .i64 z) ∧ w'.cell? ⟨b, m * 7 + 4, none⟩ = some (.string u) ∧ w'.cell? ⟨b, m * 7 + 5, none⟩ = some (.int .i64 cc1) ∧ w'.cell? ⟨b, m * 7 + 6, none⟩ = some (.slice p j cc))) := fun w' hb => ⟨(hb.cell (lt_of_cell (w := wr.drew) c0)).trans c0, (hb.cell (lt_of_cell (w := wr.drew) c1)).trans c1, (hb.cell (lt_of_cell (w := wr.drew) c2)).trans c2, (hb.cell (lt_of_cell (w := wr.drew) c3)).trans c3, (hb.cell (lt_of_cell (w := wr.drew) c4)).trans c4, (hb.cell (lt_of_cell (w := wr.drew) c5)).trans c5, (hb.cell (lt_of_cell (w := wr.drew) c6)).trans c6⟩
          have hz1 : w4.heap.size ≤ wr.drew.heap.size := hbw.size
          obtain ⟨L9, hL9⟩ : ∃ x, len5 e = x := ⟨_, rfl⟩
          obtain ⟨V9, hV9⟩ : ∃ x, valP e.v = x := ⟨_, rfl⟩
          obtain ⟨ps, ls, cs, rfl⟩ : ∃ p l c, s = .slice p l c := by obtain ⟨p, c, h, _⟩ := HE.out.1.row.val; exact ⟨_, _, _, h⟩
          rw [hL9] at cR
          rcases hkk with h | h | h | h
          · have hop : ∀ (W : World) (s1 : Value), RN W s1 e.A → Calls Tryd.prog 90 #[.agg #[s1, .string e.t, .int .i64 (scs e.t.data.toList).length]] W fun r w' => ∃ v', r = .returned (opV e v') ∧ OwnA w' W.heap.size v' e.A ∧ Below W.heap.size W w' := fun W s1 hs => opQ_1 hge h s1 W hs hAl
            have hlen : ∀ (W : World) (s1 : Value), Calls Tryd.prog 89 #[.agg #[s1, .string e.t, .int .i64 (scs e.t.data.toList).length]] W fun r w' => r = .returned (.int .i64 L9) ∧ Below W.heap.size W w' := fun W s1 => by
              have h9 := ilen_any s1 e.t ((scs e.t.data.toList).length) W
              rw [← hL9]; unfold len5 lenO; rw [if_pos (Or.inl h), if_pos h]; exact h9
            rw [pieceQ_1 h] at cp
            obtain rfl : f = 1 := HOk.out.trans h
            have HK : Hid (e.k = 1) := h
            obtain ⟨sn, hsn⟩ : ∃ x : Int, ((scs e.t.data.toList).length : Int) = x := ⟨_, rfl⟩
            rw [hsn] at hop hlen cp
            have HOP : Hid _ := hop
            have HLN : Hid _ := hlen
            have HSm : Hid _ := cS
            clear h hL9 hV9 hop hlen cS hsn
            go_wp2_with fail
            have cOp := fun W (hW : Below w4.heap.size w4 W) => HOP.out W (.slice ps ls cs) (HE.out.1.below hW)
            have cLn := fun W => HLN.out W (.slice ps ls cs)
            go_region_held3 (fun w' => (w'.cell? ⟨b, m * 7, none⟩ = some (.int .i64 1) ∧ w'.cell? ⟨b, m * 7 + 1, none⟩ = some (.string t) ∧ w'.cell? ⟨b, m * 7 + 2, none⟩ = some (.int .i64 x) ∧ w'.cell? ⟨b, m * 7 + 3, none⟩ = some (.int .i64 z) ∧ w'.cell? ⟨b, m * 7 + 4, none⟩ = some (.string u) ∧ w'.cell? ⟨b, m * 7 + 5, none⟩ = some (.int .i64 cc1) ∧ w'.cell? ⟨b, m * 7 + 6, none⟩ = some (.slice p j cc)) ∧ Below w4.heap.size w4 w')
              (exact ⟨by first | (with_reducible assumption) | (simp [*]; done), by first | (with_reducible assumption) | exact hbw.drew⟩)
              (first
                | (go_at_call 15; refine (cR _ ?_).mono ?_; (· first | assumption | (apply And.right; assumption)); rintro r wD ⟨rfl, bD'⟩; have bD : Below wr.drew.heap.size wr.drew wD := bC.trans (bD'.mono bC.size); have jD : Below w4.heap.size w4 wD := (hbw.drew).trans (bD.mono hz1); have mmD := HU.out _ bD)
                | (go_at_call 89; refine (cLn _).mono ?_; rintro r wC ⟨rfl, bC'⟩; have bC : Below wr.drew.heap.size wr.drew wC := bB.trans (bC'.mono bB.size); have jC : Below w4.heap.size w4 wC := (hbw.drew).trans (bC.mono hz1); have mmC := HU.out _ bC)
                | (go_at_call 14; refine cSa.out.mono ?_; rintro r wB ⟨rfl, bB'⟩; have bB : Below wr.drew.heap.size wr.drew wB := bA.trans (bB'.mono bA.size); have jB : Below w4.heap.size w4 wB := (hbw.drew).trans (bB.mono hz1); have mmB := HU.out _ bB)
                | (go_at_call 90; refine (cOp _ ?_).mono ?_; (· first | assumption | exact hbw.drew | (apply And.right; assumption)); rintro r wA ⟨vA, rfl, oA, bA⟩; obtain ⟨pA, cA, rfl⟩ := own_slice oA; have jA : Below w4.heap.size w4 wA := (hbw.drew).trans (bA.mono hz1); have mmA := HU.out _ bA; have cSa : Hid (Calls Tryd.prog 14 #[opV e (.slice pA e.A.length cA), .agg #[.int .i64 1, .string t, .int .i64 x, .int .i64 z, .string u, .int .i64 cc1, .slice p j cc]] wA fun r w' => r = .returned (.bool true) ∧ Below wA.heap.size wA w') := HSm.out wA (.slice pA e.A.length cA) jA (own_RN oA); clear oA))
            clear cR cOp cLn cSa mmA mmB mmC jA jB jC bA bB bC bD cp c0 c1 c2 c3 c4 c5 c6
            obtain ⟨c0, c1, c2, c3, c4, c5, c6⟩ := mmD
            have cAt := fun W (hW : Below w4.heap.size w4 W) => attributes_any (.slice ps ls cs) e.A W (HE.out.1.below hW).row (HE.out.1.below hW).nz hAl
            have cSA : Hid (∀ W v, Below w4.heap.size w4 W → RN W v e.A → Calls Tryd.prog 16 #[v, .slice p j cc] W fun r w' => r = .returned (.bool true) ∧ Below W.heap.size W w') := fun W v hW hv => by
              have := refSame_any v (.slice p j cc) e.A e.A W hv.row (HE.out.2.below hW).row (by omega) (by omega)
              rw [decide_eq_true rfl] at this
              exact this
            have HU3 : Hid (∀ w', Below wD.drew.heap.size wD.drew w' → (w'.cell? ⟨b, m * 7, none⟩ = some (.int .i64 1) ∧ w'.cell? ⟨b, m * 7 + 1, none⟩ = some (.string t) ∧ w'.cell? ⟨b, m * 7 + 2, none⟩ = some (.int .i64 x) ∧ w'.cell? ⟨b, m * 7 + 3, none⟩ = some (.int .i64 z) ∧ w'.cell? ⟨b, m * 7 + 4, none⟩ = some (.string u) ∧ w'.cell? ⟨b, m * 7 + 5, none⟩ = some (.int .i64 cc1) ∧ w'.cell? ⟨b, m * 7 + 6, none⟩ = some (.slice p j cc))) := fun w' hb => ⟨(hb.cell (lt_of_cell (w := wD.drew) c0)).trans c0, (hb.cell (lt_of_cell (w := wD.drew) c1)).trans c1, (hb.cell (lt_of_cell (w := wD.drew) c2)).trans c2, (hb.cell (lt_of_cell (w := wD.drew) c3)).trans c3, (hb.cell (lt_of_cell (w := wD.drew) c4)).trans c4, (hb.cell (lt_of_cell (w := wD.drew) c5)).trans c5, (hb.cell (lt_of_cell (w := wD.drew) c6)).trans c6⟩
            have hzF : w4.heap.size ≤ wD.drew.heap.size := jD.size
            have ab := as_i_b
            go_wp2_with fail
            go_region_held3 (fun w' => (w'.cell? ⟨b, m * 7, none⟩ = some (.int .i64 1) ∧ w'.cell? ⟨b, m * 7 + 1, none⟩ = some (.string t) ∧ w'.cell? ⟨b, m * 7 + 2, none⟩ = some (.int .i64 x) ∧ w'.cell? ⟨b, m * 7 + 3, none⟩ = some (.int .i64 z) ∧ w'.cell? ⟨b, m * 7 + 4, none⟩ = some (.string u) ∧ w'.cell? ⟨b, m * 7 + 5, none⟩ = some (.int .i64 cc1) ∧ w'.cell? ⟨b, m * 7 + 6, none⟩ = some (.slice p j cc)) ∧ Below w4.heap.size w4 w')
              (exact ⟨by first | (with_reducible assumption) | (simp [*]; done), by first | (with_reducible assumption) | exact jD.drew⟩)
              (first
                | (go_at_call 16; refine cSa.out.mono ?_; rintro r wH ⟨rfl, bH'⟩; have bH : Below wD.drew.heap.size wD.drew wH := bG.trans (bH'.mono bG.size); have jH : Below w4.heap.size w4 wH := (jD.drew).trans (bH.mono hzF); have mmH := HU3.out _ bH)
                | (go_at_call 27; refine (cAt _ ?_).mono ?_; (· first | assumption | exact jD.drew | (apply And.right; assumption)); rintro r wG ⟨vA, rfl, oA, bG⟩; obtain ⟨pA, cA, rfl⟩ := own_slice oA; have jG : Below w4.heap.size w4 wG := (jD.drew).trans (bG.mono hzF); have mmG := HU3.out _ bG; have cSa : Hid (Calls Tryd.prog 16 #[.slice pA e.A.length cA, .slice p j cc] wG fun r w' => r = .returned (.bool true) ∧ Below wG.heap.size wG w') := cSA.out wG (.slice pA e.A.length cA) jG (own_RN oA); clear oA))
            clear cAt cSa mmG mmH bG bH jG c0 c1 c2 c3 c4 c5 c6
            go_wp2
            go_roundw
            case rel => exact ⟨m + 1, by omega, by go_num, jH⟩
            case measure => simp [RowKit.intOf]; omega
          · have hop : ∀ (W : World) (s1 : Value), RN W s1 e.A → Calls Tryd.prog 92 #[.agg #[s1, .string e.t, valP e.v]] W fun r w' => ∃ v', r = .returned (opV e v') ∧ OwnA w' W.heap.size v' e.A ∧ Below W.heap.size W w' := fun W s1 hs => opQ_2 hge h s1 W hs hAl
            have hlen : ∀ (W : World) (s1 : Value), Calls Tryd.prog 91 #[.agg #[s1, .string e.t, valP e.v]] W fun r w' => r = .returned (.int .i64 L9) ∧ Below W.heap.size W w' := fun W s1 => by
              have h9 := elen_any (valP e.v) s1 e.t W
              rw [← hL9]; unfold len5 lenO; rw [if_pos (Or.inr h), if_neg (by omega)]; exact h9
            rw [pieceQ_2 h] at cp
            obtain rfl : f = 2 := HOk.out.trans h
            have HK : Hid (e.k = 2) := h
            rw [hV9] at hop hlen cp
            have HOP : Hid _ := hop
            have HLN : Hid _ := hlen
            have HSm : Hid _ := cS
            clear h hL9 hV9 hop hlen cS
            go_wp2_with fail
            have cOp := fun W (hW : Below w4.heap.size w4 W) => HOP.out W (.slice ps ls cs) (HE.out.1.below hW)
            have cLn := fun W => HLN.out W (.slice ps ls cs)
            go_region_held3 (fun w' => (w'.cell? ⟨b, m * 7, none⟩ = some (.int .i64 2) ∧ w'.cell? ⟨b, m * 7 + 1, none⟩ = some (.string t) ∧ w'.cell? ⟨b, m * 7 + 2, none⟩ = some (.int .i64 x) ∧ w'.cell? ⟨b, m * 7 + 3, none⟩ = some (.int .i64 z) ∧ w'.cell? ⟨b, m * 7 + 4, none⟩ = some (.string u) ∧ w'.cell? ⟨b, m * 7 + 5, none⟩ = some (.int .i64 cc1) ∧ w'.cell? ⟨b, m * 7 + 6, none⟩ = some (.slice p j cc)) ∧ Below w4.heap.size w4 w')
              (exact ⟨by first | (with_reducible assumption) | (simp [*]; done), by first | (with_reducible assumption) | exact hbw.drew⟩)
              (first
                | (go_at_call 15; refine (cR _ ?_).mono ?_; (· first | assumption | (apply And.right; assumption)); rintro r wD ⟨rfl, bD'⟩; have bD : Below wr.drew.heap.size wr.drew wD := bC.trans (bD'.mono bC.size); have jD : Below w4.heap.size w4 wD := (hbw.drew).trans (bD.mono hz1); have mmD := HU.out _ bD)
                | (go_at_call 91; refine (cLn _).mono ?_; rintro r wC ⟨rfl, bC'⟩; have bC : Below wr.drew.heap.size wr.drew wC := bB.trans (bC'.mono bB.size); have jC : Below w4.heap.size w4 wC := (hbw.drew).trans (bC.mono hz1); have mmC := HU.out _ bC)
                | (go_at_call 14; refine cSa.out.mono ?_; rintro r wB ⟨rfl, bB'⟩; have bB : Below wr.drew.heap.size wr.drew wB := bA.trans (bB'.mono bA.size); have jB : Below w4.heap.size w4 wB := (hbw.drew).trans (bB.mono hz1); have mmB := HU.out _ bB)
                | (go_at_call 92; refine (cOp _ ?_).mono ?_; (· first | assumption | exact hbw.drew | (apply And.right; assumption)); rintro r wA ⟨vA, rfl, oA, bA⟩; obtain ⟨pA, cA, rfl⟩ := own_slice oA; have jA : Below w4.heap.size w4 wA := (hbw.drew).trans (bA.mono hz1); have mmA := HU.out _ bA; have cSa : Hid (Calls Tryd.prog 14 #[opV e (.slice pA e.A.length cA), .agg #[.int .i64 2, .string t, .int .i64 x, .int .i64 z, .string u, .int .i64 cc1, .slice p j cc]] wA fun r w' => r = .returned (.bool true) ∧ Below wA.heap.size wA w') := HSm.out wA (.slice pA e.A.length cA) jA (own_RN oA); clear oA))
            clear cR cOp cLn cSa mmA mmB mmC jA jB jC bA bB bC bD cp c0 c1 c2 c3 c4 c5 c6
            obtain ⟨c0, c1, c2, c3, c4, c5, c6⟩ := mmD
            have cAt := fun W (hW : Below w4.heap.size w4 W) => attributes_any (.slice ps ls cs) e.A W (HE.out.1.below hW).row (HE.out.1.below hW).nz hAl
            have cSA : Hid (∀ W v, Below w4.heap.size w4 W → RN W v e.A → Calls Tryd.prog 16 #[v, .slice p j cc] W fun r w' => r = .returned (.bool true) ∧ Below W.heap.size W w') := fun W v hW hv => by
              have := refSame_any v (.slice p j cc) e.A e.A W hv.row (HE.out.2.below hW).row (by omega) (by omega)
              rw [decide_eq_true rfl] at this
              exact this
            have HU3 : Hid (∀ w', Below wD.drew.heap.size wD.drew w' → (w'.cell? ⟨b, m * 7, none⟩ = some (.int .i64 2) ∧ w'.cell? ⟨b, m * 7 + 1, none⟩ = some (.string t) ∧ w'.cell? ⟨b, m * 7 + 2, none⟩ = some (.int .i64 x) ∧ w'.cell? ⟨b, m * 7 + 3, none⟩ = some (.int .i64 z) ∧ w'.cell? ⟨b, m * 7 + 4, none⟩ = some (.string u) ∧ w'.cell? ⟨b, m * 7 + 5, none⟩ = some (.int .i64 cc1) ∧ w'.cell? ⟨b, m * 7 + 6, none⟩ = some (.slice p j cc))) := fun w' hb => ⟨(hb.cell (lt_of_cell (w := wD.drew) c0)).trans c0, (hb.cell (lt_of_cell (w := wD.drew) c1)).trans c1, (hb.cell (lt_of_cell (w := wD.drew) c2)).trans c2, (hb.cell (lt_of_cell (w := wD.drew) c3)).trans c3, (hb.cell (lt_of_cell (w := wD.drew) c4)).trans c4, (hb.cell (lt_of_cell (w := wD.drew) c5)).trans c5, (hb.cell (lt_of_cell (w := wD.drew) c6)).trans c6⟩
            have hzF : w4.heap.size ≤ wD.drew.heap.size := jD.size
            have ab := as_e_b
            go_wp2_with fail
            go_region_held3 (fun w' => (w'.cell? ⟨b, m * 7, none⟩ = some (.int .i64 2) ∧ w'.cell? ⟨b, m * 7 + 1, none⟩ = some (.string t) ∧ w'.cell? ⟨b, m * 7 + 2, none⟩ = some (.int .i64 x) ∧ w'.cell? ⟨b, m * 7 + 3, none⟩ = some (.int .i64 z) ∧ w'.cell? ⟨b, m * 7 + 4, none⟩ = some (.string u) ∧ w'.cell? ⟨b, m * 7 + 5, none⟩ = some (.int .i64 cc1) ∧ w'.cell? ⟨b, m * 7 + 6, none⟩ = some (.slice p j cc)) ∧ Below w4.heap.size w4 w')
              (exact ⟨by first | (with_reducible assumption) | (simp [*]; done), by first | (with_reducible assumption) | exact jD.drew⟩)
              (first
                | (go_at_call 16; refine cSa.out.mono ?_; rintro r wH ⟨rfl, bH'⟩; have bH : Below wD.drew.heap.size wD.drew wH := bG.trans (bH'.mono bG.size); have jH : Below w4.heap.size w4 wH := (jD.drew).trans (bH.mono hzF); have mmH := HU3.out _ bH)
                | (go_at_call 27; refine (cAt _ ?_).mono ?_; (· first | assumption | exact jD.drew | (apply And.right; assumption)); rintro r wG ⟨vA, rfl, oA, bG⟩; obtain ⟨pA, cA, rfl⟩ := own_slice oA; have jG : Below w4.heap.size w4 wG := (jD.drew).trans (bG.mono hzF); have mmG := HU3.out _ bG; have cSa : Hid (Calls Tryd.prog 16 #[.slice pA e.A.length cA, .slice p j cc] wG fun r w' => r = .returned (.bool true) ∧ Below wG.heap.size wG w') := cSA.out wG (.slice pA e.A.length cA) jG (own_RN oA); clear oA))
            clear cAt cSa mmG mmH bG bH jG c0 c1 c2 c3 c4 c5 c6
            go_wp2
            go_roundw
            case rel => exact ⟨m + 1, by omega, by go_num, jH⟩
            case measure => simp [RowKit.intOf]; omega
          · have hop : ∀ (W : World) (s1 : Value), RN W s1 e.A → Calls Tryd.prog 94 #[.agg #[s1, .int .i64 e.c]] W fun r w' => ∃ v', r = .returned (opV e v') ∧ OwnA w' W.heap.size v' e.A ∧ Below W.heap.size W w' := fun W s1 hs => opQ_3 hge h s1 W hs hAl
            have hlen : ∀ (W : World) (s1 : Value), Calls Tryd.prog 93 #[.agg #[s1, .int .i64 e.c]] W fun r w' => r = .returned (.int .i64 L9) ∧ Below W.heap.size W w' := fun W s1 => by
              have h9 := rlen_any s1 e.c W
              rw [← hL9]; unfold len5; rw [if_neg (by omega)]; exact h9
            rw [pieceQ_3 h] at cp
            obtain rfl : f = 3 := HOk.out.trans h
            have HK : Hid (e.k = 3) := h
            have HOP : Hid _ := hop
            have HLN : Hid _ := hlen
            have HSm : Hid _ := cS
            clear h hL9 hV9 hop hlen cS
            go_wp2_with fail
            have cOp := fun W (hW : Below w4.heap.size w4 W) => HOP.out W (.slice ps ls cs) (HE.out.1.below hW)
            have cLn := fun W => HLN.out W (.slice ps ls cs)
            go_region_held3 (fun w' => (w'.cell? ⟨b, m * 7, none⟩ = some (.int .i64 3) ∧ w'.cell? ⟨b, m * 7 + 1, none⟩ = some (.string t) ∧ w'.cell? ⟨b, m * 7 + 2, none⟩ = some (.int .i64 x) ∧ w'.cell? ⟨b, m * 7 + 3, none⟩ = some (.int .i64 z) ∧ w'.cell? ⟨b, m * 7 + 4, none⟩ = some (.string u) ∧ w'.cell? ⟨b, m * 7 + 5, none⟩ = some (.int .i64 cc1) ∧ w'.cell? ⟨b, m * 7 + 6, none⟩ = some (.slice p j cc)) ∧ Below w4.heap.size w4 w')
              (exact ⟨by first | (with_reducible assumption) | (simp [*]; done), by first | (with_reducible assumption) | exact hbw.drew⟩)
              (first
                | (go_at_call 15; refine (cR _ ?_).mono ?_; (· first | assumption | (apply And.right; assumption)); rintro r wD ⟨rfl, bD'⟩; have bD : Below wr.drew.heap.size wr.drew wD := bC.trans (bD'.mono bC.size); have jD : Below w4.heap.size w4 wD := (hbw.drew).trans (bD.mono hz1); have mmD := HU.out _ bD)
                | (go_at_call 93; refine (cLn _).mono ?_; rintro r wC ⟨rfl, bC'⟩; have bC : Below wr.drew.heap.size wr.drew wC := bB.trans (bC'.mono bB.size); have jC : Below w4.heap.size w4 wC := (hbw.drew).trans (bC.mono hz1); have mmC := HU.out _ bC)
                | (go_at_call 14; refine cSa.out.mono ?_; rintro r wB ⟨rfl, bB'⟩; have bB : Below wr.drew.heap.size wr.drew wB := bA.trans (bB'.mono bA.size); have jB : Below w4.heap.size w4 wB := (hbw.drew).trans (bB.mono hz1); have mmB := HU.out _ bB)
                | (go_at_call 94; refine (cOp _ ?_).mono ?_; (· first | assumption | exact hbw.drew | (apply And.right; assumption)); rintro r wA ⟨vA, rfl, oA, bA⟩; obtain ⟨pA, cA, rfl⟩ := own_slice oA; have jA : Below w4.heap.size w4 wA := (hbw.drew).trans (bA.mono hz1); have mmA := HU.out _ bA; have cSa : Hid (Calls Tryd.prog 14 #[opV e (.slice pA e.A.length cA), .agg #[.int .i64 3, .string t, .int .i64 x, .int .i64 z, .string u, .int .i64 cc1, .slice p j cc]] wA fun r w' => r = .returned (.bool true) ∧ Below wA.heap.size wA w') := HSm.out wA (.slice pA e.A.length cA) jA (own_RN oA); clear oA))
            clear cR cOp cLn cSa mmA mmB mmC jA jB jC bA bB bC bD cp c0 c1 c2 c3 c4 c5 c6
            obtain ⟨c0, c1, c2, c3, c4, c5, c6⟩ := mmD
            have cAt := fun W (hW : Below w4.heap.size w4 W) => attributes_any (.slice ps ls cs) e.A W (HE.out.1.below hW).row (HE.out.1.below hW).nz hAl
            have cSA : Hid (∀ W v, Below w4.heap.size w4 W → RN W v e.A → Calls Tryd.prog 16 #[v, .slice p j cc] W fun r w' => r = .returned (.bool true) ∧ Below W.heap.size W w') := fun W v hW hv => by
              have := refSame_any v (.slice p j cc) e.A e.A W hv.row (HE.out.2.below hW).row (by omega) (by omega)
              rw [decide_eq_true rfl] at this
              exact this
            have HU3 : Hid (∀ w', Below wD.drew.heap.size wD.drew w' → (w'.cell? ⟨b, m * 7, none⟩ = some (.int .i64 3) ∧ w'.cell? ⟨b, m * 7 + 1, none⟩ = some (.string t) ∧ w'.cell? ⟨b, m * 7 + 2, none⟩ = some (.int .i64 x) ∧ w'.cell? ⟨b, m * 7 + 3, none⟩ = some (.int .i64 z) ∧ w'.cell? ⟨b, m * 7 + 4, none⟩ = some (.string u) ∧ w'.cell? ⟨b, m * 7 + 5, none⟩ = some (.int .i64 cc1) ∧ w'.cell? ⟨b, m * 7 + 6, none⟩ = some (.slice p j cc))) := fun w' hb => ⟨(hb.cell (lt_of_cell (w := wD.drew) c0)).trans c0, (hb.cell (lt_of_cell (w := wD.drew) c1)).trans c1, (hb.cell (lt_of_cell (w := wD.drew) c2)).trans c2, (hb.cell (lt_of_cell (w := wD.drew) c3)).trans c3, (hb.cell (lt_of_cell (w := wD.drew) c4)).trans c4, (hb.cell (lt_of_cell (w := wD.drew) c5)).trans c5, (hb.cell (lt_of_cell (w := wD.drew) c6)).trans c6⟩
            have hzF : w4.heap.size ≤ wD.drew.heap.size := jD.size
            have ab := as_r_b
            go_wp2_with fail
            go_region_held3 (fun w' => (w'.cell? ⟨b, m * 7, none⟩ = some (.int .i64 3) ∧ w'.cell? ⟨b, m * 7 + 1, none⟩ = some (.string t) ∧ w'.cell? ⟨b, m * 7 + 2, none⟩ = some (.int .i64 x) ∧ w'.cell? ⟨b, m * 7 + 3, none⟩ = some (.int .i64 z) ∧ w'.cell? ⟨b, m * 7 + 4, none⟩ = some (.string u) ∧ w'.cell? ⟨b, m * 7 + 5, none⟩ = some (.int .i64 cc1) ∧ w'.cell? ⟨b, m * 7 + 6, none⟩ = some (.slice p j cc)) ∧ Below w4.heap.size w4 w')
              (exact ⟨by first | (with_reducible assumption) | (simp [*]; done), by first | (with_reducible assumption) | exact jD.drew⟩)
              (first
                | (go_at_call 16; refine cSa.out.mono ?_; rintro r wH ⟨rfl, bH'⟩; have bH : Below wD.drew.heap.size wD.drew wH := bG.trans (bH'.mono bG.size); have jH : Below w4.heap.size w4 wH := (jD.drew).trans (bH.mono hzF); have mmH := HU3.out _ bH)
                | (go_at_call 27; refine (cAt _ ?_).mono ?_; (· first | assumption | exact jD.drew | (apply And.right; assumption)); rintro r wG ⟨vA, rfl, oA, bG⟩; obtain ⟨pA, cA, rfl⟩ := own_slice oA; have jG : Below w4.heap.size w4 wG := (jD.drew).trans (bG.mono hzF); have mmG := HU3.out _ bG; have cSa : Hid (Calls Tryd.prog 16 #[.slice pA e.A.length cA, .slice p j cc] wG fun r w' => r = .returned (.bool true) ∧ Below wG.heap.size wG w') := cSA.out wG (.slice pA e.A.length cA) jG (own_RN oA); clear oA))
            clear cAt cSa mmG mmH bG bH jG c0 c1 c2 c3 c4 c5 c6
            go_wp2
            go_roundw
            case rel => exact ⟨m + 1, by omega, by go_num, jH⟩
            case measure => simp [RowKit.intOf]; omega
          · have hop : ∀ (W : World) (s1 : Value), RN W s1 e.A → Calls Tryd.prog 96 #[.agg #[.int .i64 e.c]] W fun r w' => ∃ v', r = .returned (opV e v') ∧ OwnA w' W.heap.size v' e.A ∧ Below W.heap.size W w' := fun W s1 hs => opQ_4 hge h W
            have hlen : ∀ (W : World) (s1 : Value), Calls Tryd.prog 95 #[.agg #[.int .i64 e.c]] W fun r w' => r = .returned (.int .i64 L9) ∧ Below W.heap.size W w' := fun W s1 => by
              have h9 := dlen_any e.c W
              rw [← hL9]; unfold len5; rw [if_neg (by omega)]; exact h9
            rw [pieceQ_4 h] at cp
            obtain rfl : f = 4 := HOk.out.trans h
            have HK : Hid (e.k = 4) := h
            have HOP : Hid _ := hop
            have HLN : Hid _ := hlen
            have HSm : Hid _ := cS
            clear h hL9 hV9 hop hlen cS
            go_wp2_with fail
            have cOp := fun W (hW : Below w4.heap.size w4 W) => HOP.out W (.slice ps ls cs) (HE.out.1.below hW)
            have cLn := fun W => HLN.out W (.slice ps ls cs)
            go_region_held3 (fun w' => (w'.cell? ⟨b, m * 7, none⟩ = some (.int .i64 4) ∧ w'.cell? ⟨b, m * 7 + 1, none⟩ = some (.string t) ∧ w'.cell? ⟨b, m * 7 + 2, none⟩ = some (.int .i64 x) ∧ w'.cell? ⟨b, m * 7 + 3, none⟩ = some (.int .i64 z) ∧ w'.cell? ⟨b, m * 7 + 4, none⟩ = some (.string u) ∧ w'.cell? ⟨b, m * 7 + 5, none⟩ = some (.int .i64 cc1) ∧ w'.cell? ⟨b, m * 7 + 6, none⟩ = some (.slice p j cc)) ∧ Below w4.heap.size w4 w')
              (exact ⟨by first | (with_reducible assumption) | (simp [*]; done), by first | (with_reducible assumption) | exact hbw.drew⟩)
              (first
                | (go_at_call 15; refine (cR _ ?_).mono ?_; (· first | assumption | (apply And.right; assumption)); rintro r wD ⟨rfl, bD'⟩; have bD : Below wr.drew.heap.size wr.drew wD := bC.trans (bD'.mono bC.size); have jD : Below w4.heap.size w4 wD := (hbw.drew).trans (bD.mono hz1); have mmD := HU.out _ bD)
                | (go_at_call 95; refine (cLn _).mono ?_; rintro r wC ⟨rfl, bC'⟩; have bC : Below wr.drew.heap.size wr.drew wC := bB.trans (bC'.mono bB.size); have jC : Below w4.heap.size w4 wC := (hbw.drew).trans (bC.mono hz1); have mmC := HU.out _ bC)
                | (go_at_call 14; refine cSa.out.mono ?_; rintro r wB ⟨rfl, bB'⟩; have bB : Below wr.drew.heap.size wr.drew wB := bA.trans (bB'.mono bA.size); have jB : Below w4.heap.size w4 wB := (hbw.drew).trans (bB.mono hz1); have mmB := HU.out _ bB)
                | (go_at_call 96; refine (cOp _ ?_).mono ?_; (· first | assumption | exact hbw.drew | (apply And.right; assumption)); rintro r wA ⟨vA, rfl, oA, bA⟩; obtain ⟨pA, cA, rfl⟩ := own_slice oA; have jA : Below w4.heap.size w4 wA := (hbw.drew).trans (bA.mono hz1); have mmA := HU.out _ bA; have cSa : Hid (Calls Tryd.prog 14 #[opV e (.slice pA e.A.length cA), .agg #[.int .i64 4, .string t, .int .i64 x, .int .i64 z, .string u, .int .i64 cc1, .slice p j cc]] wA fun r w' => r = .returned (.bool true) ∧ Below wA.heap.size wA w') := HSm.out wA (.slice pA e.A.length cA) jA (own_RN oA); clear oA))
            clear cR cOp cLn cSa mmA mmB mmC jA jB jC bA bB bC bD cp c0 c1 c2 c3 c4 c5 c6
            obtain ⟨c0, c1, c2, c3, c4, c5, c6⟩ := mmD
            have ab := as_d_b
            go_wp2_with fail
            go_quiet (fail)
            go_wp2
            go_roundw
            case rel => exact ⟨m + 1, by omega, by go_num, below_drewN jD _⟩
            case measure => simp [RowKit.intOf]; omega
        · have hltI : ¬ (m : Int) < n := by omega
          have b9 := HB4.out.trans (hbw.mono HB4.out.size)
          go_wp2
          go_ret
          exact ⟨rfl, b9⟩
end Go.Proofs.YtfllomfjhkgaoaaDoor
