/- What content.Cells and content.Newlines answer. What the methods Op of api.Insert and api.Embed answer. What the methods Op of pieces answer. ops.Bearers: the pieces that bear attributes, with their numbers. Of all lists of operations vellumlaw05.OpsPieces answers true. Of all lists of operations vellumlaw05.OpsMemory answers true. -/
import Derived.Test.YtkgflmbhkbeakabDoorMga
import Derived.Test.YtkgflmbhkbeakabDoorCq
import Derived.Deep.RegionHeld3
import Derived.Deep.DeepCutAuto
import Derived.Test.YtkgflmbhkbeakabDoorQf

/- What content.Cells and content.Newlines answer. -/
namespace Go.Proofs.YtkgflmbhkbeakabDoor
open Go Go.RowKit Go.Lib
set_option linter.unusedVariables false

/-- An insert's cells. -/
def cellsOf (o : Op5) : List C5 := if o.k = 1 then mkC o.A (scs o.t.data.toList) else [(-1, o.t, o.v, o.A)]
theorem cellsOf_len (o : Op5) : (cellsOf o).length = lenO o := by
  unfold cellsOf lenO
  split
  · exact mkC_len _ _
  · rfl
theorem cellsOf_A (o : Op5) : ∀ e ∈ cellsOf o, e.2.2.2 = o.A := fun e he => by
  unfold cellsOf at he
  split at he
  · unfold mkC at he
    obtain ⟨r, _, rfl⟩ := List.mem_map.1 he
    rfl
  · obtain rfl := List.mem_singleton.1 he
    rfl
/-- How many newlines an insert has. -/
def newlO (o : Op5) : Nat := if o.k = 1 then countByte o.t.data.toList 10 else 0

theorem plain_f0 (w : World) : Calls Tryd.prog 81 #[.bool false] w fun e w' => e = .returned (pl 1 0 ⟨#[]⟩) ∧ Below w.heap.size w w' := plain_f false w
theorem plain_f1 (w : World) : Calls Tryd.prog 81 #[.bool true] w fun e w' => e = .returned (pl 1 1 ⟨#[]⟩) ∧ Below w.heap.size w w' := plain_f true w

end Go.Proofs.YtkgflmbhkbeakabDoor

/- What the methods Op of api.Insert and api.Embed answer. -/
namespace Go.Proofs.YtkgflmbhkbeakabDoor
open Go Go.RowKit Go.Lib
set_option linter.unusedVariables false

theorem cell_drew0 (W : World) (a : Addr) : W.drew.cell? a = W.cell? a := rfl
set_option maxHeartbeats 1000000 in
set_option maxRecDepth 100000 in
theorem insOp (s : Value) (A : List A2) (t : ByteArray) (n : Int) (w : World) (hR : RN w s A) (hl : A.length ≤ 2097152) :
    Calls Tryd.prog 75 #[.agg #[s, .string t, .int .i64 n]] w fun r w' => ∃ v', r = .returned (opV ⟨1, t, z0, 0, []⟩ v') ∧ OwnA w' w.heap.size v' A ∧ Below w.heap.size w w' := by
  have HC : Hid (∀ W, Below w.heap.size w W → Calls Tryd.prog 73 #[.agg #[s]] W fun r w' => ∃ v', r = .returned v' ∧ OwnA w' W.heap.size v' A ∧ Below W.heap.size W w') := fun W hW => attributes_any s A W (hR.row.below hW) hR.nz hl
  obtain ⟨p, l, cc, rfl⟩ : ∃ p l c, s = .slice p l c := by obtain ⟨p, c, h, _⟩ := hR.row.val; exact ⟨_, _, _, h⟩
  clear hR hl
  obtain ⟨W1, hW1⟩ : ∃ W, W = (w.alloc (.cells #[.slice p l cc, .string t, .int .i64 n] 74)).alloc (.cells #[.int .i64 0, .string ⟨#[]⟩, .int .i64 0, .int .i64 0, .string ⟨#[]⟩, .int .i64 0, .slice none 0 0] 37) := ⟨_, rfl⟩
  have b0 : Below w.heap.size w W1 := by rw [hW1]; exact ((Below.refl _ _).alloc (Nat.le_refl _) _).alloc (by simp) _
  have e0 : W1.cell? ⟨w.heap.size, 0, none⟩ = some (.slice p l cc) := by rw [hW1]; simp
  have e1 : W1.cell? ⟨w.heap.size, 1, none⟩ = some (.string t) := by rw [hW1]; simp
  have hB : BoxO W1 (w.heap.size + 1) opZ nilS ∧ FrO W1 (w.heap.size + 1) := by
    have q1 := BoxO.new (w.alloc (.cells #[.slice p l cc, .string t, .int .i64 n] 74)) opZ nilS
    have q2 := FrO.new (w.alloc (.cells #[.slice p l cc, .string t, .int .i64 n] 74)) opZ nilS
    rw [World.size_alloc] at q1 q2
    rw [hW1]
    exact ⟨q1, q2⟩
  go_enter Tryd.func75, Tryd.ntmps75
  go_upto_region 1 with fail
  rw [← hW1]
  clear hW1
  have HB : Hid (BoxO W1.drew (w.heap.size + 1) opZ nilS ∧ FrO W1.drew (w.heap.size + 1)) := ⟨hB.1.drew, hB.2.drew⟩
  have b1 : Below w.heap.size w W1.drew := b0.drew
  have hz1 : w.heap.size ≤ W1.drew.heap.size := b1.size
  have hz2 : w.heap.size + 1 < W1.drew.heap.size := lt_of_cell hB.1.d0
  have cA := HC.out W1.drew b1
  have n1 : w.heap.size ≠ w.heap.size + 1 := by omega
  have hs1 : w.heap.size ≤ w.heap.size + 1 := by omega
  have HU : Hid (∀ W : World, (∀ i, W.cell? ⟨w.heap.size, i, none⟩ = W1.drew.cell? ⟨w.heap.size, i, none⟩) → W.cell? ⟨w.heap.size, 0, none⟩ = some (.slice p l cc) ∧ W.cell? ⟨w.heap.size, 1, none⟩ = some (.string t)) := fun W h => ⟨(h 0).trans e0, (h 1).trans e1⟩
  have M0 := HU.out W1.drew (fun _ => rfl)
  have HW : Hid (∀ W, Below W1.drew.heap.size W1.drew W → ∀ i, W.cell? ⟨w.heap.size, i, none⟩ = W1.drew.cell? ⟨w.heap.size, i, none⟩) := fun W h i => World.cell?_of_block (a := ⟨w.heap.size, i, none⟩) (h.block w.heap.size (by omega))
  have HS : Hid (∀ W, Below W1.drew.heap.size W1.drew W → (∀ u0 u1 u2 u3 u4 u5 u6 : Value, ((((((((W.setCell ⟨w.heap.size + 1, 0, none⟩ u0).setCell ⟨w.heap.size + 1, 1, none⟩ u1).setCell ⟨w.heap.size + 1, 2, none⟩ u2).setCell ⟨w.heap.size + 1, 3, none⟩ u3).setCell ⟨w.heap.size + 1, 4, none⟩ u4).setCell ⟨w.heap.size + 1, 5, none⟩ u5).setCell ⟨w.heap.size + 1, 6, none⟩ u6).cell? ⟨w.heap.size, 0, none⟩ = some (.slice p l cc) ∧ (((((((W.setCell ⟨w.heap.size + 1, 0, none⟩ u0).setCell ⟨w.heap.size + 1, 1, none⟩ u1).setCell ⟨w.heap.size + 1, 2, none⟩ u2).setCell ⟨w.heap.size + 1, 3, none⟩ u3).setCell ⟨w.heap.size + 1, 4, none⟩ u4).setCell ⟨w.heap.size + 1, 5, none⟩ u5).setCell ⟨w.heap.size + 1, 6, none⟩ u6).cell? ⟨w.heap.size, 1, none⟩ = some (.string t)) ∧ Below w.heap.size w (((((((W.setCell ⟨w.heap.size + 1, 0, none⟩ u0).setCell ⟨w.heap.size + 1, 1, none⟩ u1).setCell ⟨w.heap.size + 1, 2, none⟩ u2).setCell ⟨w.heap.size + 1, 3, none⟩ u3).setCell ⟨w.heap.size + 1, 4, none⟩ u4).setCell ⟨w.heap.size + 1, 5, none⟩ u5).setCell ⟨w.heap.size + 1, 6, none⟩ u6))) := fun W h u0 u1 u2 u3 u4 u5 u6 => ⟨HU.out _ (fun i => (cell_set7 (B := w.heap.size + 1) (j := i) W n1 u0 u1 u2 u3 u4 u5 u6).trans (HW.out W h i)), below_set7 (B := w.heap.size + 1) (b1.trans (h.mono hz1)) hs1 u0 u1 u2 u3 u4 u5 u6⟩
  clear hB e0 e1 b0
  go_region_held3 (fun w' => (w'.cell? ⟨w.heap.size, 0, none⟩ = some (.slice p l cc) ∧ w'.cell? ⟨w.heap.size, 1, none⟩ = some (.string t)) ∧ Below w.heap.size w w')
    (first | exact ⟨by with_reducible first | assumption | exact M0 | exact MS _ _ _ _ _ _ _, by with_reducible first | assumption | exact b1 | exact BS _ _ _ _ _ _ _⟩)
    (first
      | (go_at_call 73; refine cA.mono ?_; rintro r wA ⟨vA, rfl, oA, hA⟩; obtain ⟨pA, cA', rfl⟩ := own_slice oA; have HA' := hA; have bA := b1.trans (HA'.mono hz1); have mA := HU.out wA (HW.out wA HA'); have OA : Hid (OwnA wA W1.drew.heap.size (.slice pA A.length cA') A) := oA; clear oA; obtain ⟨q0, q1, q2, q3, q4, q5, q6⟩ := HB.out.1.below HA'; obtain ⟨h0, h1, h2, h3, h4, h5, h6⟩ := HB.out.2.below HB.out.1 HA'; simp only [z0] at q0 q1 q2 q3 q4 q5 q6; have MS := fun u0 u1 u2 u3 u4 u5 u6 => (HS.out wA HA' u0 u1 u2 u3 u4 u5 u6).1; have BS := fun u0 u1 u2 u3 u4 u5 u6 => (HS.out wA HA' u0 u1 u2 u3 u4 u5 u6).2))
  · have same : ∀ (u0 u1 u2 u3 u4 u5 u6 : Value) (v : Value) (hv : OwnA wA W1.drew.heap.size v A), OwnA (((((((wA.setCell ⟨w.heap.size + 1, 0, none⟩ u0).setCell ⟨w.heap.size + 1, 1, none⟩ u1).setCell ⟨w.heap.size + 1, 2, none⟩ u2).setCell ⟨w.heap.size + 1, 3, none⟩ u3).setCell ⟨w.heap.size + 1, 4, none⟩ u4).setCell ⟨w.heap.size + 1, 5, none⟩ u5).setCell ⟨w.heap.size + 1, 6, none⟩ u6) w.heap.size v A := fun u0 u1 u2 u3 u4 u5 u6 v hv =>
      own_weaken (owns_same hv fun k hk => by
        have := (owns_block hv k hk).1
        exact heap_set7 _ (by omega) _ _ _ _ _ _ _) hz1
    go_wp2
    exact bodyPost_ret (v := opV ⟨1, t, z0, 0, []⟩ (.slice pA A.length cA')) (by simp [results, Tryd.results75, go_sem, z0, q0, q1, q2, q3, q4, q5, q6]) rfl ⟨_, rfl, same _ _ _ _ _ _ _ _ OA.out, BS _ _ _ _ _ _ _⟩

set_option maxHeartbeats 1000000 in
set_option maxRecDepth 100000 in
theorem embOp_null (s : Value) (A : List A2) (t : ByteArray) (w : World) (hR : RN w s A) (hl : A.length ≤ 2097152) :
    Calls Tryd.prog 79 #[.agg #[s, .string t, .iface 98 (.agg #[])]] w fun r w' => ∃ v', r = .returned (opV ⟨2, t, z0, 0, []⟩ v') ∧ OwnA w' w.heap.size v' A ∧ Below w.heap.size w w' := by
  have HC : Hid (∀ W, Below w.heap.size w W → Calls Tryd.prog 73 #[.agg #[s]] W fun r w' => ∃ v', r = .returned v' ∧ OwnA w' W.heap.size v' A ∧ Below W.heap.size W w') := fun W hW => attributes_any s A W (hR.row.below hW) hR.nz hl
  obtain ⟨p, l, cc, rfl⟩ : ∃ p l c, s = .slice p l c := by obtain ⟨p, c, h, _⟩ := hR.row.val; exact ⟨_, _, _, h⟩
  clear hR hl
  obtain ⟨W1, hW1⟩ : ∃ W, W = (w.alloc (.cells #[.slice p l cc, .string t, .iface 98 (.agg #[])] 90)).alloc (.cells #[.int .i64 0, .string ⟨#[]⟩, .int .i64 0, .int .i64 0, .string ⟨#[]⟩, .int .i64 0, .slice none 0 0] 37) := ⟨_, rfl⟩
  have b0 : Below w.heap.size w W1 := by rw [hW1]; exact ((Below.refl _ _).alloc (Nat.le_refl _) _).alloc (by simp) _
  have e0 : W1.cell? ⟨w.heap.size, 0, none⟩ = some (.slice p l cc) := by rw [hW1]; simp
  have e1 : W1.cell? ⟨w.heap.size, 1, none⟩ = some (.string t) := by rw [hW1]; simp
  have e2 : W1.cell? ⟨w.heap.size, 2, none⟩ = some (.iface 98 (.agg #[])) := by rw [hW1]; simp
  have hB : BoxO W1 (w.heap.size + 1) opZ nilS ∧ FrO W1 (w.heap.size + 1) := by
    have q1 := BoxO.new (w.alloc (.cells #[.slice p l cc, .string t, .iface 98 (.agg #[])] 90)) opZ nilS
    have q2 := FrO.new (w.alloc (.cells #[.slice p l cc, .string t, .iface 98 (.agg #[])] 90)) opZ nilS
    rw [World.size_alloc] at q1 q2
    rw [hW1]
    exact ⟨q1, q2⟩
  go_enter Tryd.func79, Tryd.ntmps79
  go_upto_region 1 with fail
  rw [← hW1]
  clear hW1
  have HB : Hid (BoxO W1.drew (w.heap.size + 1) opZ nilS ∧ FrO W1.drew (w.heap.size + 1)) := ⟨hB.1.drew, hB.2.drew⟩
  have b1 : Below w.heap.size w W1.drew := b0.drew
  have hz1 : w.heap.size ≤ W1.drew.heap.size := b1.size
  have hz2 : w.heap.size + 1 < W1.drew.heap.size := lt_of_cell hB.1.d0
  have cA := HC.out W1.drew b1
  have n1 : w.heap.size ≠ w.heap.size + 1 := by omega
  have hs1 : w.heap.size ≤ w.heap.size + 1 := by omega
  have HU : Hid (∀ W : World, (∀ i, W.cell? ⟨w.heap.size, i, none⟩ = W1.drew.cell? ⟨w.heap.size, i, none⟩) → W.cell? ⟨w.heap.size, 0, none⟩ = some (.slice p l cc) ∧ W.cell? ⟨w.heap.size, 1, none⟩ = some (.string t) ∧ W.cell? ⟨w.heap.size, 2, none⟩ = some (.iface 98 (.agg #[]))) := fun W h => ⟨(h 0).trans e0, (h 1).trans e1, (h 2).trans e2⟩
  have M0 := HU.out W1.drew (fun _ => rfl)
  have HW : Hid (∀ W, Below W1.drew.heap.size W1.drew W → ∀ i, W.cell? ⟨w.heap.size, i, none⟩ = W1.drew.cell? ⟨w.heap.size, i, none⟩) := fun W h i => World.cell?_of_block (a := ⟨w.heap.size, i, none⟩) (h.block w.heap.size (by omega))
  have HS : Hid (∀ W, Below W1.drew.heap.size W1.drew W → (∀ u0 u1 u2 u3 u4 u5 u6 : Value, ((((((((W.setCell ⟨w.heap.size + 1, 0, none⟩ u0).setCell ⟨w.heap.size + 1, 1, none⟩ u1).setCell ⟨w.heap.size + 1, 2, none⟩ u2).setCell ⟨w.heap.size + 1, 3, none⟩ u3).setCell ⟨w.heap.size + 1, 4, none⟩ u4).setCell ⟨w.heap.size + 1, 5, none⟩ u5).setCell ⟨w.heap.size + 1, 6, none⟩ u6).cell? ⟨w.heap.size, 0, none⟩ = some (.slice p l cc) ∧ (((((((W.setCell ⟨w.heap.size + 1, 0, none⟩ u0).setCell ⟨w.heap.size + 1, 1, none⟩ u1).setCell ⟨w.heap.size + 1, 2, none⟩ u2).setCell ⟨w.heap.size + 1, 3, none⟩ u3).setCell ⟨w.heap.size + 1, 4, none⟩ u4).setCell ⟨w.heap.size + 1, 5, none⟩ u5).setCell ⟨w.heap.size + 1, 6, none⟩ u6).cell? ⟨w.heap.size, 1, none⟩ = some (.string t) ∧ (((((((W.setCell ⟨w.heap.size + 1, 0, none⟩ u0).setCell ⟨w.heap.size + 1, 1, none⟩ u1).setCell ⟨w.heap.size + 1, 2, none⟩ u2).setCell ⟨w.heap.size + 1, 3, none⟩ u3).setCell ⟨w.heap.size + 1, 4, none⟩ u4).setCell ⟨w.heap.size + 1, 5, none⟩ u5).setCell ⟨w.heap.size + 1, 6, none⟩ u6).cell? ⟨w.heap.size, 2, none⟩ = some (.iface 98 (.agg #[]))) ∧ Below w.heap.size w (((((((W.setCell ⟨w.heap.size + 1, 0, none⟩ u0).setCell ⟨w.heap.size + 1, 1, none⟩ u1).setCell ⟨w.heap.size + 1, 2, none⟩ u2).setCell ⟨w.heap.size + 1, 3, none⟩ u3).setCell ⟨w.heap.size + 1, 4, none⟩ u4).setCell ⟨w.heap.size + 1, 5, none⟩ u5).setCell ⟨w.heap.size + 1, 6, none⟩ u6))) := fun W h u0 u1 u2 u3 u4 u5 u6 => ⟨HU.out _ (fun i => (cell_set7 (B := w.heap.size + 1) (j := i) W n1 u0 u1 u2 u3 u4 u5 u6).trans (HW.out W h i)), below_set7 (B := w.heap.size + 1) (b1.trans (h.mono hz1)) hs1 u0 u1 u2 u3 u4 u5 u6⟩
  clear hB e0 e1 e2 b0
  go_region_held3 (fun w' => (w'.cell? ⟨w.heap.size, 0, none⟩ = some (.slice p l cc) ∧ w'.cell? ⟨w.heap.size, 1, none⟩ = some (.string t) ∧ w'.cell? ⟨w.heap.size, 2, none⟩ = some (.iface 98 (.agg #[]))) ∧ Below w.heap.size w w')
    (first | exact ⟨by with_reducible first | assumption | exact M0 | exact MS _ _ _ _ _ _ _, by with_reducible first | assumption | exact b1 | exact BS _ _ _ _ _ _ _⟩)
    (first
      | (go_at_call 87; have hx := OA; clear hx; refine (plain_n wA).mono ?_; rintro r wP ⟨rfl, hP⟩; have HP' := HA'.trans (hP.mono HA'.size); have bP := b1.trans (HP'.mono hz1); have mP := HU.out wP (HW.out wP HP'); have OF : Hid (OwnA wP W1.drew.heap.size (.slice pA A.length cA') A) := owns_below OA.out hP; obtain ⟨q0, q1, q2, q3, q4, q5, q6⟩ := HB.out.1.below HP'; obtain ⟨h0, h1, h2, h3, h4, h5, h6⟩ := HB.out.2.below HB.out.1 HP'; simp only [z0] at q0 q1 q2 q3 q4 q5 q6; have MS := fun u0 u1 u2 u3 u4 u5 u6 => (HS.out wP HP' u0 u1 u2 u3 u4 u5 u6).1; have BS := fun u0 u1 u2 u3 u4 u5 u6 => (HS.out wP HP' u0 u1 u2 u3 u4 u5 u6).2)
      | (go_at_call 73; refine cA2.mono ?_; rintro r wA ⟨vA, rfl, oA, hA⟩; obtain ⟨pA, cA', rfl⟩ := own_slice oA; have HA' := HP'.trans (hA.mono HP'.size); have bA := b1.trans (HA'.mono hz1); have mA := HU.out wA (HW.out wA HA'); have OA : Hid (OwnA wA W1.drew.heap.size (.slice pA A.length cA') A) := own_weaken oA HP'.size; clear oA; have OF := OA; obtain ⟨q0, q1, q2, q3, q4, q5, q6⟩ := HB.out.1.below HA'; obtain ⟨h0, h1, h2, h3, h4, h5, h6⟩ := HB.out.2.below HB.out.1 HA'; simp only [z0] at q0 q1 q2 q3 q4 q5 q6; have MS := fun u0 u1 u2 u3 u4 u5 u6 => (HS.out wA HA' u0 u1 u2 u3 u4 u5 u6).1; have BS := fun u0 u1 u2 u3 u4 u5 u6 => (HS.out wA HA' u0 u1 u2 u3 u4 u5 u6).2)
      | (go_at_call 73; refine cA.mono ?_; rintro r wA ⟨vA, rfl, oA, hA⟩; obtain ⟨pA, cA', rfl⟩ := own_slice oA; have HA' := hA; have bA := b1.trans (HA'.mono hz1); have mA := HU.out wA (HW.out wA HA'); have OA : Hid (OwnA wA W1.drew.heap.size (.slice pA A.length cA') A) := oA; clear oA)
      | (go_at_call 87; refine (plain_n W1.drew).mono ?_; rintro r wP ⟨rfl, hP⟩; have HP' := hP; have bP := b1.trans (HP'.mono hz1); have mP := HU.out wP (HW.out wP HP'); have cA2 := HC.out wP bP))
  · have same : ∀ (u0 u1 u2 u3 u4 u5 u6 : Value) (v : Value) (hv : OwnA wA W1.drew.heap.size v A), OwnA (((((((wA.setCell ⟨w.heap.size + 1, 0, none⟩ u0).setCell ⟨w.heap.size + 1, 1, none⟩ u1).setCell ⟨w.heap.size + 1, 2, none⟩ u2).setCell ⟨w.heap.size + 1, 3, none⟩ u3).setCell ⟨w.heap.size + 1, 4, none⟩ u4).setCell ⟨w.heap.size + 1, 5, none⟩ u5).setCell ⟨w.heap.size + 1, 6, none⟩ u6) w.heap.size v A := fun u0 u1 u2 u3 u4 u5 u6 v hv =>
      own_weaken (owns_same hv fun k hk => by
        have := (owns_block hv k hk).1
        exact heap_set7 _ (by omega) _ _ _ _ _ _ _) hz1
    go_wp2
    exact bodyPost_ret (v := opV ⟨2, t, z0, 0, []⟩ (.slice pA A.length cA')) (by simp [results, Tryd.results79, go_sem, z0, q0, q1, q2, q3, q4, q5, q6]) rfl ⟨_, rfl, same _ _ _ _ _ _ _ _ OF.out, BS _ _ _ _ _ _ _⟩

set_option maxHeartbeats 1000000 in
set_option maxRecDepth 100000 in
theorem embOp_flag0 (s : Value) (A : List A2) (t : ByteArray) (w : World) (hR : RN w s A) (hl : A.length ≤ 2097152) :
    Calls Tryd.prog 79 #[.agg #[s, .string t, .iface 94 (.bool false)]] w fun r w' => ∃ v', r = .returned (opV ⟨2, t, (1, 0, ⟨#[]⟩), 0, []⟩ v') ∧ OwnA w' w.heap.size v' A ∧ Below w.heap.size w w' := by
  have HC : Hid (∀ W, Below w.heap.size w W → Calls Tryd.prog 73 #[.agg #[s]] W fun r w' => ∃ v', r = .returned v' ∧ OwnA w' W.heap.size v' A ∧ Below W.heap.size W w') := fun W hW => attributes_any s A W (hR.row.below hW) hR.nz hl
  obtain ⟨p, l, cc, rfl⟩ : ∃ p l c, s = .slice p l c := by obtain ⟨p, c, h, _⟩ := hR.row.val; exact ⟨_, _, _, h⟩
  clear hR hl
  obtain ⟨W1, hW1⟩ : ∃ W, W = (w.alloc (.cells #[.slice p l cc, .string t, .iface 94 (.bool false)] 90)).alloc (.cells #[.int .i64 0, .string ⟨#[]⟩, .int .i64 0, .int .i64 0, .string ⟨#[]⟩, .int .i64 0, .slice none 0 0] 37) := ⟨_, rfl⟩
  have b0 : Below w.heap.size w W1 := by rw [hW1]; exact ((Below.refl _ _).alloc (Nat.le_refl _) _).alloc (by simp) _
  have e0 : W1.cell? ⟨w.heap.size, 0, none⟩ = some (.slice p l cc) := by rw [hW1]; simp
  have e1 : W1.cell? ⟨w.heap.size, 1, none⟩ = some (.string t) := by rw [hW1]; simp
  have e2 : W1.cell? ⟨w.heap.size, 2, none⟩ = some (.iface 94 (.bool false)) := by rw [hW1]; simp
  have hB : BoxO W1 (w.heap.size + 1) opZ nilS ∧ FrO W1 (w.heap.size + 1) := by
    have q1 := BoxO.new (w.alloc (.cells #[.slice p l cc, .string t, .iface 94 (.bool false)] 90)) opZ nilS
    have q2 := FrO.new (w.alloc (.cells #[.slice p l cc, .string t, .iface 94 (.bool false)] 90)) opZ nilS
    rw [World.size_alloc] at q1 q2
    rw [hW1]
    exact ⟨q1, q2⟩
  go_enter Tryd.func79, Tryd.ntmps79
  go_upto_region 1 with fail
  rw [← hW1]
  clear hW1
  have HB : Hid (BoxO W1.drew (w.heap.size + 1) opZ nilS ∧ FrO W1.drew (w.heap.size + 1)) := ⟨hB.1.drew, hB.2.drew⟩
  have b1 : Below w.heap.size w W1.drew := b0.drew
  have hz1 : w.heap.size ≤ W1.drew.heap.size := b1.size
  have hz2 : w.heap.size + 1 < W1.drew.heap.size := lt_of_cell hB.1.d0
  have cA := HC.out W1.drew b1
  have n1 : w.heap.size ≠ w.heap.size + 1 := by omega
  have hs1 : w.heap.size ≤ w.heap.size + 1 := by omega
  have HU : Hid (∀ W : World, (∀ i, W.cell? ⟨w.heap.size, i, none⟩ = W1.drew.cell? ⟨w.heap.size, i, none⟩) → W.cell? ⟨w.heap.size, 0, none⟩ = some (.slice p l cc) ∧ W.cell? ⟨w.heap.size, 1, none⟩ = some (.string t) ∧ W.cell? ⟨w.heap.size, 2, none⟩ = some (.iface 94 (.bool false))) := fun W h => ⟨(h 0).trans e0, (h 1).trans e1, (h 2).trans e2⟩
  have M0 := HU.out W1.drew (fun _ => rfl)
  have HW : Hid (∀ W, Below W1.drew.heap.size W1.drew W → ∀ i, W.cell? ⟨w.heap.size, i, none⟩ = W1.drew.cell? ⟨w.heap.size, i, none⟩) := fun W h i => World.cell?_of_block (a := ⟨w.heap.size, i, none⟩) (h.block w.heap.size (by omega))
  have HS : Hid (∀ W, Below W1.drew.heap.size W1.drew W → (∀ u0 u1 u2 u3 u4 u5 u6 : Value, ((((((((W.setCell ⟨w.heap.size + 1, 0, none⟩ u0).setCell ⟨w.heap.size + 1, 1, none⟩ u1).setCell ⟨w.heap.size + 1, 2, none⟩ u2).setCell ⟨w.heap.size + 1, 3, none⟩ u3).setCell ⟨w.heap.size + 1, 4, none⟩ u4).setCell ⟨w.heap.size + 1, 5, none⟩ u5).setCell ⟨w.heap.size + 1, 6, none⟩ u6).cell? ⟨w.heap.size, 0, none⟩ = some (.slice p l cc) ∧ (((((((W.setCell ⟨w.heap.size + 1, 0, none⟩ u0).setCell ⟨w.heap.size + 1, 1, none⟩ u1).setCell ⟨w.heap.size + 1, 2, none⟩ u2).setCell ⟨w.heap.size + 1, 3, none⟩ u3).setCell ⟨w.heap.size + 1, 4, none⟩ u4).setCell ⟨w.heap.size + 1, 5, none⟩ u5).setCell ⟨w.heap.size + 1, 6, none⟩ u6).cell? ⟨w.heap.size, 1, none⟩ = some (.string t) ∧ (((((((W.setCell ⟨w.heap.size + 1, 0, none⟩ u0).setCell ⟨w.heap.size + 1, 1, none⟩ u1).setCell ⟨w.heap.size + 1, 2, none⟩ u2).setCell ⟨w.heap.size + 1, 3, none⟩ u3).setCell ⟨w.heap.size + 1, 4, none⟩ u4).setCell ⟨w.heap.size + 1, 5, none⟩ u5).setCell ⟨w.heap.size + 1, 6, none⟩ u6).cell? ⟨w.heap.size, 2, none⟩ = some (.iface 94 (.bool false))) ∧ Below w.heap.size w (((((((W.setCell ⟨w.heap.size + 1, 0, none⟩ u0).setCell ⟨w.heap.size + 1, 1, none⟩ u1).setCell ⟨w.heap.size + 1, 2, none⟩ u2).setCell ⟨w.heap.size + 1, 3, none⟩ u3).setCell ⟨w.heap.size + 1, 4, none⟩ u4).setCell ⟨w.heap.size + 1, 5, none⟩ u5).setCell ⟨w.heap.size + 1, 6, none⟩ u6))) := fun W h u0 u1 u2 u3 u4 u5 u6 => ⟨HU.out _ (fun i => (cell_set7 (B := w.heap.size + 1) (j := i) W n1 u0 u1 u2 u3 u4 u5 u6).trans (HW.out W h i)), below_set7 (B := w.heap.size + 1) (b1.trans (h.mono hz1)) hs1 u0 u1 u2 u3 u4 u5 u6⟩
  clear hB e0 e1 e2 b0
  go_region_held3 (fun w' => (w'.cell? ⟨w.heap.size, 0, none⟩ = some (.slice p l cc) ∧ w'.cell? ⟨w.heap.size, 1, none⟩ = some (.string t) ∧ w'.cell? ⟨w.heap.size, 2, none⟩ = some (.iface 94 (.bool false))) ∧ Below w.heap.size w w')
    (first | exact ⟨by with_reducible first | assumption | exact M0 | exact MS _ _ _ _ _ _ _, by with_reducible first | assumption | exact b1 | exact BS _ _ _ _ _ _ _⟩)
    (first
      | (go_at_call 81; have hx := OA; clear hx; refine (plain_f0 wA).mono ?_; rintro r wP ⟨rfl, hP⟩; have HP' := HA'.trans (hP.mono HA'.size); have bP := b1.trans (HP'.mono hz1); have mP := HU.out wP (HW.out wP HP'); have OF : Hid (OwnA wP W1.drew.heap.size (.slice pA A.length cA') A) := owns_below OA.out hP; obtain ⟨q0, q1, q2, q3, q4, q5, q6⟩ := HB.out.1.below HP'; obtain ⟨h0, h1, h2, h3, h4, h5, h6⟩ := HB.out.2.below HB.out.1 HP'; simp only [z0] at q0 q1 q2 q3 q4 q5 q6; have MS := fun u0 u1 u2 u3 u4 u5 u6 => (HS.out wP HP' u0 u1 u2 u3 u4 u5 u6).1; have BS := fun u0 u1 u2 u3 u4 u5 u6 => (HS.out wP HP' u0 u1 u2 u3 u4 u5 u6).2)
      | (go_at_call 73; refine cA2.mono ?_; rintro r wA ⟨vA, rfl, oA, hA⟩; obtain ⟨pA, cA', rfl⟩ := own_slice oA; have HA' := HP'.trans (hA.mono HP'.size); have bA := b1.trans (HA'.mono hz1); have mA := HU.out wA (HW.out wA HA'); have OA : Hid (OwnA wA W1.drew.heap.size (.slice pA A.length cA') A) := own_weaken oA HP'.size; clear oA; have OF := OA; obtain ⟨q0, q1, q2, q3, q4, q5, q6⟩ := HB.out.1.below HA'; obtain ⟨h0, h1, h2, h3, h4, h5, h6⟩ := HB.out.2.below HB.out.1 HA'; simp only [z0] at q0 q1 q2 q3 q4 q5 q6; have MS := fun u0 u1 u2 u3 u4 u5 u6 => (HS.out wA HA' u0 u1 u2 u3 u4 u5 u6).1; have BS := fun u0 u1 u2 u3 u4 u5 u6 => (HS.out wA HA' u0 u1 u2 u3 u4 u5 u6).2)
      | (go_at_call 73; refine cA.mono ?_; rintro r wA ⟨vA, rfl, oA, hA⟩; obtain ⟨pA, cA', rfl⟩ := own_slice oA; have HA' := hA; have bA := b1.trans (HA'.mono hz1); have mA := HU.out wA (HW.out wA HA'); have OA : Hid (OwnA wA W1.drew.heap.size (.slice pA A.length cA') A) := oA; clear oA)
      | (go_at_call 81; refine (plain_f0 W1.drew).mono ?_; rintro r wP ⟨rfl, hP⟩; have HP' := hP; have bP := b1.trans (HP'.mono hz1); have mP := HU.out wP (HW.out wP HP'); have cA2 := HC.out wP bP))
  · have same : ∀ (u0 u1 u2 u3 u4 u5 u6 : Value) (v : Value) (hv : OwnA wA W1.drew.heap.size v A), OwnA (((((((wA.setCell ⟨w.heap.size + 1, 0, none⟩ u0).setCell ⟨w.heap.size + 1, 1, none⟩ u1).setCell ⟨w.heap.size + 1, 2, none⟩ u2).setCell ⟨w.heap.size + 1, 3, none⟩ u3).setCell ⟨w.heap.size + 1, 4, none⟩ u4).setCell ⟨w.heap.size + 1, 5, none⟩ u5).setCell ⟨w.heap.size + 1, 6, none⟩ u6) w.heap.size v A := fun u0 u1 u2 u3 u4 u5 u6 v hv =>
      own_weaken (owns_same hv fun k hk => by
        have := (owns_block hv k hk).1
        exact heap_set7 _ (by omega) _ _ _ _ _ _ _) hz1
    go_wp2
    exact bodyPost_ret (v := opV ⟨2, t, (1, 0, ⟨#[]⟩), 0, []⟩ (.slice pA A.length cA')) (by simp [results, Tryd.results79, go_sem, q0, q1, q2, q3, q4, q5, q6]) rfl ⟨_, rfl, same _ _ _ _ _ _ _ _ OF.out, BS _ _ _ _ _ _ _⟩

set_option maxHeartbeats 1000000 in
set_option maxRecDepth 100000 in
theorem embOp_flag1 (s : Value) (A : List A2) (t : ByteArray) (w : World) (hR : RN w s A) (hl : A.length ≤ 2097152) :
    Calls Tryd.prog 79 #[.agg #[s, .string t, .iface 94 (.bool true)]] w fun r w' => ∃ v', r = .returned (opV ⟨2, t, (1, 1, ⟨#[]⟩), 0, []⟩ v') ∧ OwnA w' w.heap.size v' A ∧ Below w.heap.size w w' := by
  have HC : Hid (∀ W, Below w.heap.size w W → Calls Tryd.prog 73 #[.agg #[s]] W fun r w' => ∃ v', r = .returned v' ∧ OwnA w' W.heap.size v' A ∧ Below W.heap.size W w') := fun W hW => attributes_any s A W (hR.row.below hW) hR.nz hl
  obtain ⟨p, l, cc, rfl⟩ : ∃ p l c, s = .slice p l c := by obtain ⟨p, c, h, _⟩ := hR.row.val; exact ⟨_, _, _, h⟩
  clear hR hl
  obtain ⟨W1, hW1⟩ : ∃ W, W = (w.alloc (.cells #[.slice p l cc, .string t, .iface 94 (.bool true)] 90)).alloc (.cells #[.int .i64 0, .string ⟨#[]⟩, .int .i64 0, .int .i64 0, .string ⟨#[]⟩, .int .i64 0, .slice none 0 0] 37) := ⟨_, rfl⟩
  have b0 : Below w.heap.size w W1 := by rw [hW1]; exact ((Below.refl _ _).alloc (Nat.le_refl _) _).alloc (by simp) _
  have e0 : W1.cell? ⟨w.heap.size, 0, none⟩ = some (.slice p l cc) := by rw [hW1]; simp
  have e1 : W1.cell? ⟨w.heap.size, 1, none⟩ = some (.string t) := by rw [hW1]; simp
  have e2 : W1.cell? ⟨w.heap.size, 2, none⟩ = some (.iface 94 (.bool true)) := by rw [hW1]; simp
  have hB : BoxO W1 (w.heap.size + 1) opZ nilS ∧ FrO W1 (w.heap.size + 1) := by
    have q1 := BoxO.new (w.alloc (.cells #[.slice p l cc, .string t, .iface 94 (.bool true)] 90)) opZ nilS
    have q2 := FrO.new (w.alloc (.cells #[.slice p l cc, .string t, .iface 94 (.bool true)] 90)) opZ nilS
    rw [World.size_alloc] at q1 q2
    rw [hW1]
    exact ⟨q1, q2⟩
  go_enter Tryd.func79, Tryd.ntmps79
  go_upto_region 1 with fail
  rw [← hW1]
  clear hW1
  have HB : Hid (BoxO W1.drew (w.heap.size + 1) opZ nilS ∧ FrO W1.drew (w.heap.size + 1)) := ⟨hB.1.drew, hB.2.drew⟩
  have b1 : Below w.heap.size w W1.drew := b0.drew
  have hz1 : w.heap.size ≤ W1.drew.heap.size := b1.size
  have hz2 : w.heap.size + 1 < W1.drew.heap.size := lt_of_cell hB.1.d0
  have cA := HC.out W1.drew b1
  have n1 : w.heap.size ≠ w.heap.size + 1 := by omega
  have hs1 : w.heap.size ≤ w.heap.size + 1 := by omega
  have HU : Hid (∀ W : World, (∀ i, W.cell? ⟨w.heap.size, i, none⟩ = W1.drew.cell? ⟨w.heap.size, i, none⟩) → W.cell? ⟨w.heap.size, 0, none⟩ = some (.slice p l cc) ∧ W.cell? ⟨w.heap.size, 1, none⟩ = some (.string t) ∧ W.cell? ⟨w.heap.size, 2, none⟩ = some (.iface 94 (.bool true))) := fun W h => ⟨(h 0).trans e0, (h 1).trans e1, (h 2).trans e2⟩
  have M0 := HU.out W1.drew (fun _ => rfl)
  have HW : Hid (∀ W, Below W1.drew.heap.size W1.drew W → ∀ i, W.cell? ⟨w.heap.size, i, none⟩ = W1.drew.cell? ⟨w.heap.size, i, none⟩) := fun W h i => World.cell?_of_block (a := ⟨w.heap.size, i, none⟩) (h.block w.heap.size (by omega))
  have HS : Hid (∀ W, Below W1.drew.heap.size W1.drew W → (∀ u0 u1 u2 u3 u4 u5 u6 : Value, ((((((((W.setCell ⟨w.heap.size + 1, 0, none⟩ u0).setCell ⟨w.heap.size + 1, 1, none⟩ u1).setCell ⟨w.heap.size + 1, 2, none⟩ u2).setCell ⟨w.heap.size + 1, 3, none⟩ u3).setCell ⟨w.heap.size + 1, 4, none⟩ u4).setCell ⟨w.heap.size + 1, 5, none⟩ u5).setCell ⟨w.heap.size + 1, 6, none⟩ u6).cell? ⟨w.heap.size, 0, none⟩ = some (.slice p l cc) ∧ (((((((W.setCell ⟨w.heap.size + 1, 0, none⟩ u0).setCell ⟨w.heap.size + 1, 1, none⟩ u1).setCell ⟨w.heap.size + 1, 2, none⟩ u2).setCell ⟨w.heap.size + 1, 3, none⟩ u3).setCell ⟨w.heap.size + 1, 4, none⟩ u4).setCell ⟨w.heap.size + 1, 5, none⟩ u5).setCell ⟨w.heap.size + 1, 6, none⟩ u6).cell? ⟨w.heap.size, 1, none⟩ = some (.string t) ∧ (((((((W.setCell ⟨w.heap.size + 1, 0, none⟩ u0).setCell ⟨w.heap.size + 1, 1, none⟩ u1).setCell ⟨w.heap.size + 1, 2, none⟩ u2).setCell ⟨w.heap.size + 1, 3, none⟩ u3).setCell ⟨w.heap.size + 1, 4, none⟩ u4).setCell ⟨w.heap.size + 1, 5, none⟩ u5).setCell ⟨w.heap.size + 1, 6, none⟩ u6).cell? ⟨w.heap.size, 2, none⟩ = some (.iface 94 (.bool true))) ∧ Below w.heap.size w (((((((W.setCell ⟨w.heap.size + 1, 0, none⟩ u0).setCell ⟨w.heap.size + 1, 1, none⟩ u1).setCell ⟨w.heap.size + 1, 2, none⟩ u2).setCell ⟨w.heap.size + 1, 3, none⟩ u3).setCell ⟨w.heap.size + 1, 4, none⟩ u4).setCell ⟨w.heap.size + 1, 5, none⟩ u5).setCell ⟨w.heap.size + 1, 6, none⟩ u6))) := fun W h u0 u1 u2 u3 u4 u5 u6 => ⟨HU.out _ (fun i => (cell_set7 (B := w.heap.size + 1) (j := i) W n1 u0 u1 u2 u3 u4 u5 u6).trans (HW.out W h i)), below_set7 (B := w.heap.size + 1) (b1.trans (h.mono hz1)) hs1 u0 u1 u2 u3 u4 u5 u6⟩
  clear hB e0 e1 e2 b0
  go_region_held3 (fun w' => (w'.cell? ⟨w.heap.size, 0, none⟩ = some (.slice p l cc) ∧ w'.cell? ⟨w.heap.size, 1, none⟩ = some (.string t) ∧ w'.cell? ⟨w.heap.size, 2, none⟩ = some (.iface 94 (.bool true))) ∧ Below w.heap.size w w')
    (first | exact ⟨by with_reducible first | assumption | exact M0 | exact MS _ _ _ _ _ _ _, by with_reducible first | assumption | exact b1 | exact BS _ _ _ _ _ _ _⟩)
    (first
      | (go_at_call 81; have hx := OA; clear hx; refine (plain_f1 wA).mono ?_; rintro r wP ⟨rfl, hP⟩; have HP' := HA'.trans (hP.mono HA'.size); have bP := b1.trans (HP'.mono hz1); have mP := HU.out wP (HW.out wP HP'); have OF : Hid (OwnA wP W1.drew.heap.size (.slice pA A.length cA') A) := owns_below OA.out hP; obtain ⟨q0, q1, q2, q3, q4, q5, q6⟩ := HB.out.1.below HP'; obtain ⟨h0, h1, h2, h3, h4, h5, h6⟩ := HB.out.2.below HB.out.1 HP'; simp only [z0] at q0 q1 q2 q3 q4 q5 q6; have MS := fun u0 u1 u2 u3 u4 u5 u6 => (HS.out wP HP' u0 u1 u2 u3 u4 u5 u6).1; have BS := fun u0 u1 u2 u3 u4 u5 u6 => (HS.out wP HP' u0 u1 u2 u3 u4 u5 u6).2)
      | (go_at_call 73; refine cA2.mono ?_; rintro r wA ⟨vA, rfl, oA, hA⟩; obtain ⟨pA, cA', rfl⟩ := own_slice oA; have HA' := HP'.trans (hA.mono HP'.size); have bA := b1.trans (HA'.mono hz1); have mA := HU.out wA (HW.out wA HA'); have OA : Hid (OwnA wA W1.drew.heap.size (.slice pA A.length cA') A) := own_weaken oA HP'.size; clear oA; have OF := OA; obtain ⟨q0, q1, q2, q3, q4, q5, q6⟩ := HB.out.1.below HA'; obtain ⟨h0, h1, h2, h3, h4, h5, h6⟩ := HB.out.2.below HB.out.1 HA'; simp only [z0] at q0 q1 q2 q3 q4 q5 q6; have MS := fun u0 u1 u2 u3 u4 u5 u6 => (HS.out wA HA' u0 u1 u2 u3 u4 u5 u6).1; have BS := fun u0 u1 u2 u3 u4 u5 u6 => (HS.out wA HA' u0 u1 u2 u3 u4 u5 u6).2)
      | (go_at_call 73; refine cA.mono ?_; rintro r wA ⟨vA, rfl, oA, hA⟩; obtain ⟨pA, cA', rfl⟩ := own_slice oA; have HA' := hA; have bA := b1.trans (HA'.mono hz1); have mA := HU.out wA (HW.out wA HA'); have OA : Hid (OwnA wA W1.drew.heap.size (.slice pA A.length cA') A) := oA; clear oA)
      | (go_at_call 81; refine (plain_f1 W1.drew).mono ?_; rintro r wP ⟨rfl, hP⟩; have HP' := hP; have bP := b1.trans (HP'.mono hz1); have mP := HU.out wP (HW.out wP HP'); have cA2 := HC.out wP bP))
  · have same : ∀ (u0 u1 u2 u3 u4 u5 u6 : Value) (v : Value) (hv : OwnA wA W1.drew.heap.size v A), OwnA (((((((wA.setCell ⟨w.heap.size + 1, 0, none⟩ u0).setCell ⟨w.heap.size + 1, 1, none⟩ u1).setCell ⟨w.heap.size + 1, 2, none⟩ u2).setCell ⟨w.heap.size + 1, 3, none⟩ u3).setCell ⟨w.heap.size + 1, 4, none⟩ u4).setCell ⟨w.heap.size + 1, 5, none⟩ u5).setCell ⟨w.heap.size + 1, 6, none⟩ u6) w.heap.size v A := fun u0 u1 u2 u3 u4 u5 u6 v hv =>
      own_weaken (owns_same hv fun k hk => by
        have := (owns_block hv k hk).1
        exact heap_set7 _ (by omega) _ _ _ _ _ _ _) hz1
    go_wp2
    exact bodyPost_ret (v := opV ⟨2, t, (1, 1, ⟨#[]⟩), 0, []⟩ (.slice pA A.length cA')) (by simp [results, Tryd.results79, go_sem, q0, q1, q2, q3, q4, q5, q6]) rfl ⟨_, rfl, same _ _ _ _ _ _ _ _ OF.out, BS _ _ _ _ _ _ _⟩

set_option maxHeartbeats 1000000 in
set_option maxRecDepth 100000 in
theorem embOp_num (z : Int) (s : Value) (A : List A2) (t : ByteArray) (w : World) (hR : RN w s A) (hl : A.length ≤ 2097152) :
    Calls Tryd.prog 79 #[.agg #[s, .string t, .iface 95 (.int .i64 z)]] w fun r w' => ∃ v', r = .returned (opV ⟨2, t, (2, z, ⟨#[]⟩), 0, []⟩ v') ∧ OwnA w' w.heap.size v' A ∧ Below w.heap.size w w' := by
  have HC : Hid (∀ W, Below w.heap.size w W → Calls Tryd.prog 73 #[.agg #[s]] W fun r w' => ∃ v', r = .returned v' ∧ OwnA w' W.heap.size v' A ∧ Below W.heap.size W w') := fun W hW => attributes_any s A W (hR.row.below hW) hR.nz hl
  obtain ⟨p, l, cc, rfl⟩ : ∃ p l c, s = .slice p l c := by obtain ⟨p, c, h, _⟩ := hR.row.val; exact ⟨_, _, _, h⟩
  clear hR hl
  obtain ⟨W1, hW1⟩ : ∃ W, W = (w.alloc (.cells #[.slice p l cc, .string t, .iface 95 (.int .i64 z)] 90)).alloc (.cells #[.int .i64 0, .string ⟨#[]⟩, .int .i64 0, .int .i64 0, .string ⟨#[]⟩, .int .i64 0, .slice none 0 0] 37) := ⟨_, rfl⟩
  have b0 : Below w.heap.size w W1 := by rw [hW1]; exact ((Below.refl _ _).alloc (Nat.le_refl _) _).alloc (by simp) _
  have e0 : W1.cell? ⟨w.heap.size, 0, none⟩ = some (.slice p l cc) := by rw [hW1]; simp
  have e1 : W1.cell? ⟨w.heap.size, 1, none⟩ = some (.string t) := by rw [hW1]; simp
  have e2 : W1.cell? ⟨w.heap.size, 2, none⟩ = some (.iface 95 (.int .i64 z)) := by rw [hW1]; simp
  have hB : BoxO W1 (w.heap.size + 1) opZ nilS ∧ FrO W1 (w.heap.size + 1) := by
    have q1 := BoxO.new (w.alloc (.cells #[.slice p l cc, .string t, .iface 95 (.int .i64 z)] 90)) opZ nilS
    have q2 := FrO.new (w.alloc (.cells #[.slice p l cc, .string t, .iface 95 (.int .i64 z)] 90)) opZ nilS
    rw [World.size_alloc] at q1 q2
    rw [hW1]
    exact ⟨q1, q2⟩
  go_enter Tryd.func79, Tryd.ntmps79
  go_upto_region 1 with fail
  rw [← hW1]
  clear hW1
  have HB : Hid (BoxO W1.drew (w.heap.size + 1) opZ nilS ∧ FrO W1.drew (w.heap.size + 1)) := ⟨hB.1.drew, hB.2.drew⟩
  have b1 : Below w.heap.size w W1.drew := b0.drew
  have hz1 : w.heap.size ≤ W1.drew.heap.size := b1.size
  have hz2 : w.heap.size + 1 < W1.drew.heap.size := lt_of_cell hB.1.d0
  have cA := HC.out W1.drew b1
  have n1 : w.heap.size ≠ w.heap.size + 1 := by omega
  have hs1 : w.heap.size ≤ w.heap.size + 1 := by omega
  have HU : Hid (∀ W : World, (∀ i, W.cell? ⟨w.heap.size, i, none⟩ = W1.drew.cell? ⟨w.heap.size, i, none⟩) → W.cell? ⟨w.heap.size, 0, none⟩ = some (.slice p l cc) ∧ W.cell? ⟨w.heap.size, 1, none⟩ = some (.string t) ∧ W.cell? ⟨w.heap.size, 2, none⟩ = some (.iface 95 (.int .i64 z))) := fun W h => ⟨(h 0).trans e0, (h 1).trans e1, (h 2).trans e2⟩
  have M0 := HU.out W1.drew (fun _ => rfl)
  have HW : Hid (∀ W, Below W1.drew.heap.size W1.drew W → ∀ i, W.cell? ⟨w.heap.size, i, none⟩ = W1.drew.cell? ⟨w.heap.size, i, none⟩) := fun W h i => World.cell?_of_block (a := ⟨w.heap.size, i, none⟩) (h.block w.heap.size (by omega))
  have HS : Hid (∀ W, Below W1.drew.heap.size W1.drew W → (∀ u0 u1 u2 u3 u4 u5 u6 : Value, ((((((((W.setCell ⟨w.heap.size + 1, 0, none⟩ u0).setCell ⟨w.heap.size + 1, 1, none⟩ u1).setCell ⟨w.heap.size + 1, 2, none⟩ u2).setCell ⟨w.heap.size + 1, 3, none⟩ u3).setCell ⟨w.heap.size + 1, 4, none⟩ u4).setCell ⟨w.heap.size + 1, 5, none⟩ u5).setCell ⟨w.heap.size + 1, 6, none⟩ u6).cell? ⟨w.heap.size, 0, none⟩ = some (.slice p l cc) ∧ (((((((W.setCell ⟨w.heap.size + 1, 0, none⟩ u0).setCell ⟨w.heap.size + 1, 1, none⟩ u1).setCell ⟨w.heap.size + 1, 2, none⟩ u2).setCell ⟨w.heap.size + 1, 3, none⟩ u3).setCell ⟨w.heap.size + 1, 4, none⟩ u4).setCell ⟨w.heap.size + 1, 5, none⟩ u5).setCell ⟨w.heap.size + 1, 6, none⟩ u6).cell? ⟨w.heap.size, 1, none⟩ = some (.string t) ∧ (((((((W.setCell ⟨w.heap.size + 1, 0, none⟩ u0).setCell ⟨w.heap.size + 1, 1, none⟩ u1).setCell ⟨w.heap.size + 1, 2, none⟩ u2).setCell ⟨w.heap.size + 1, 3, none⟩ u3).setCell ⟨w.heap.size + 1, 4, none⟩ u4).setCell ⟨w.heap.size + 1, 5, none⟩ u5).setCell ⟨w.heap.size + 1, 6, none⟩ u6).cell? ⟨w.heap.size, 2, none⟩ = some (.iface 95 (.int .i64 z))) ∧ Below w.heap.size w (((((((W.setCell ⟨w.heap.size + 1, 0, none⟩ u0).setCell ⟨w.heap.size + 1, 1, none⟩ u1).setCell ⟨w.heap.size + 1, 2, none⟩ u2).setCell ⟨w.heap.size + 1, 3, none⟩ u3).setCell ⟨w.heap.size + 1, 4, none⟩ u4).setCell ⟨w.heap.size + 1, 5, none⟩ u5).setCell ⟨w.heap.size + 1, 6, none⟩ u6))) := fun W h u0 u1 u2 u3 u4 u5 u6 => ⟨HU.out _ (fun i => (cell_set7 (B := w.heap.size + 1) (j := i) W n1 u0 u1 u2 u3 u4 u5 u6).trans (HW.out W h i)), below_set7 (B := w.heap.size + 1) (b1.trans (h.mono hz1)) hs1 u0 u1 u2 u3 u4 u5 u6⟩
  clear hB e0 e1 e2 b0
  go_region_held3 (fun w' => (w'.cell? ⟨w.heap.size, 0, none⟩ = some (.slice p l cc) ∧ w'.cell? ⟨w.heap.size, 1, none⟩ = some (.string t) ∧ w'.cell? ⟨w.heap.size, 2, none⟩ = some (.iface 95 (.int .i64 z))) ∧ Below w.heap.size w w')
    (first | exact ⟨by with_reducible first | assumption | exact M0 | exact MS _ _ _ _ _ _ _, by with_reducible first | assumption | exact b1 | exact BS _ _ _ _ _ _ _⟩)
    (first
      | (go_at_call 83; have hx := OA; clear hx; refine (plain_d z wA).mono ?_; rintro r wP ⟨rfl, hP⟩; have HP' := HA'.trans (hP.mono HA'.size); have bP := b1.trans (HP'.mono hz1); have mP := HU.out wP (HW.out wP HP'); have OF : Hid (OwnA wP W1.drew.heap.size (.slice pA A.length cA') A) := owns_below OA.out hP; obtain ⟨q0, q1, q2, q3, q4, q5, q6⟩ := HB.out.1.below HP'; obtain ⟨h0, h1, h2, h3, h4, h5, h6⟩ := HB.out.2.below HB.out.1 HP'; simp only [z0] at q0 q1 q2 q3 q4 q5 q6; have MS := fun u0 u1 u2 u3 u4 u5 u6 => (HS.out wP HP' u0 u1 u2 u3 u4 u5 u6).1; have BS := fun u0 u1 u2 u3 u4 u5 u6 => (HS.out wP HP' u0 u1 u2 u3 u4 u5 u6).2)
      | (go_at_call 73; refine cA2.mono ?_; rintro r wA ⟨vA, rfl, oA, hA⟩; obtain ⟨pA, cA', rfl⟩ := own_slice oA; have HA' := HP'.trans (hA.mono HP'.size); have bA := b1.trans (HA'.mono hz1); have mA := HU.out wA (HW.out wA HA'); have OA : Hid (OwnA wA W1.drew.heap.size (.slice pA A.length cA') A) := own_weaken oA HP'.size; clear oA; have OF := OA; obtain ⟨q0, q1, q2, q3, q4, q5, q6⟩ := HB.out.1.below HA'; obtain ⟨h0, h1, h2, h3, h4, h5, h6⟩ := HB.out.2.below HB.out.1 HA'; simp only [z0] at q0 q1 q2 q3 q4 q5 q6; have MS := fun u0 u1 u2 u3 u4 u5 u6 => (HS.out wA HA' u0 u1 u2 u3 u4 u5 u6).1; have BS := fun u0 u1 u2 u3 u4 u5 u6 => (HS.out wA HA' u0 u1 u2 u3 u4 u5 u6).2)
      | (go_at_call 73; refine cA.mono ?_; rintro r wA ⟨vA, rfl, oA, hA⟩; obtain ⟨pA, cA', rfl⟩ := own_slice oA; have HA' := hA; have bA := b1.trans (HA'.mono hz1); have mA := HU.out wA (HW.out wA HA'); have OA : Hid (OwnA wA W1.drew.heap.size (.slice pA A.length cA') A) := oA; clear oA)
      | (go_at_call 83; refine (plain_d z W1.drew).mono ?_; rintro r wP ⟨rfl, hP⟩; have HP' := hP; have bP := b1.trans (HP'.mono hz1); have mP := HU.out wP (HW.out wP HP'); have cA2 := HC.out wP bP))
  · have same : ∀ (u0 u1 u2 u3 u4 u5 u6 : Value) (v : Value) (hv : OwnA wA W1.drew.heap.size v A), OwnA (((((((wA.setCell ⟨w.heap.size + 1, 0, none⟩ u0).setCell ⟨w.heap.size + 1, 1, none⟩ u1).setCell ⟨w.heap.size + 1, 2, none⟩ u2).setCell ⟨w.heap.size + 1, 3, none⟩ u3).setCell ⟨w.heap.size + 1, 4, none⟩ u4).setCell ⟨w.heap.size + 1, 5, none⟩ u5).setCell ⟨w.heap.size + 1, 6, none⟩ u6) w.heap.size v A := fun u0 u1 u2 u3 u4 u5 u6 v hv =>
      own_weaken (owns_same hv fun k hk => by
        have := (owns_block hv k hk).1
        exact heap_set7 _ (by omega) _ _ _ _ _ _ _) hz1
    go_wp2
    exact bodyPost_ret (v := opV ⟨2, t, (2, z, ⟨#[]⟩), 0, []⟩ (.slice pA A.length cA')) (by simp [results, Tryd.results79, go_sem, q0, q1, q2, q3, q4, q5, q6]) rfl ⟨_, rfl, same _ _ _ _ _ _ _ _ OF.out, BS _ _ _ _ _ _ _⟩

set_option maxHeartbeats 1000000 in
set_option maxRecDepth 100000 in
theorem embOp_text (y : ByteArray) (s : Value) (A : List A2) (t : ByteArray) (w : World) (hR : RN w s A) (hl : A.length ≤ 2097152) :
    Calls Tryd.prog 79 #[.agg #[s, .string t, .iface 96 (.string y)]] w fun r w' => ∃ v', r = .returned (opV ⟨2, t, (3, 0, y), 0, []⟩ v') ∧ OwnA w' w.heap.size v' A ∧ Below w.heap.size w w' := by
  have HC : Hid (∀ W, Below w.heap.size w W → Calls Tryd.prog 73 #[.agg #[s]] W fun r w' => ∃ v', r = .returned v' ∧ OwnA w' W.heap.size v' A ∧ Below W.heap.size W w') := fun W hW => attributes_any s A W (hR.row.below hW) hR.nz hl
  obtain ⟨p, l, cc, rfl⟩ : ∃ p l c, s = .slice p l c := by obtain ⟨p, c, h, _⟩ := hR.row.val; exact ⟨_, _, _, h⟩
  clear hR hl
  obtain ⟨W1, hW1⟩ : ∃ W, W = (w.alloc (.cells #[.slice p l cc, .string t, .iface 96 (.string y)] 90)).alloc (.cells #[.int .i64 0, .string ⟨#[]⟩, .int .i64 0, .int .i64 0, .string ⟨#[]⟩, .int .i64 0, .slice none 0 0] 37) := ⟨_, rfl⟩
  have b0 : Below w.heap.size w W1 := by rw [hW1]; exact ((Below.refl _ _).alloc (Nat.le_refl _) _).alloc (by simp) _
  have e0 : W1.cell? ⟨w.heap.size, 0, none⟩ = some (.slice p l cc) := by rw [hW1]; simp
  have e1 : W1.cell? ⟨w.heap.size, 1, none⟩ = some (.string t) := by rw [hW1]; simp
  have e2 : W1.cell? ⟨w.heap.size, 2, none⟩ = some (.iface 96 (.string y)) := by rw [hW1]; simp
  have hB : BoxO W1 (w.heap.size + 1) opZ nilS ∧ FrO W1 (w.heap.size + 1) := by
    have q1 := BoxO.new (w.alloc (.cells #[.slice p l cc, .string t, .iface 96 (.string y)] 90)) opZ nilS
    have q2 := FrO.new (w.alloc (.cells #[.slice p l cc, .string t, .iface 96 (.string y)] 90)) opZ nilS
    rw [World.size_alloc] at q1 q2
    rw [hW1]
    exact ⟨q1, q2⟩
  go_enter Tryd.func79, Tryd.ntmps79
  go_upto_region 1 with fail
  rw [← hW1]
  clear hW1
  have HB : Hid (BoxO W1.drew (w.heap.size + 1) opZ nilS ∧ FrO W1.drew (w.heap.size + 1)) := ⟨hB.1.drew, hB.2.drew⟩
  have b1 : Below w.heap.size w W1.drew := b0.drew
  have hz1 : w.heap.size ≤ W1.drew.heap.size := b1.size
  have hz2 : w.heap.size + 1 < W1.drew.heap.size := lt_of_cell hB.1.d0
  have cA := HC.out W1.drew b1
  have n1 : w.heap.size ≠ w.heap.size + 1 := by omega
  have hs1 : w.heap.size ≤ w.heap.size + 1 := by omega
  have HU : Hid (∀ W : World, (∀ i, W.cell? ⟨w.heap.size, i, none⟩ = W1.drew.cell? ⟨w.heap.size, i, none⟩) → W.cell? ⟨w.heap.size, 0, none⟩ = some (.slice p l cc) ∧ W.cell? ⟨w.heap.size, 1, none⟩ = some (.string t) ∧ W.cell? ⟨w.heap.size, 2, none⟩ = some (.iface 96 (.string y))) := fun W h => ⟨(h 0).trans e0, (h 1).trans e1, (h 2).trans e2⟩
  have M0 := HU.out W1.drew (fun _ => rfl)
  have HW : Hid (∀ W, Below W1.drew.heap.size W1.drew W → ∀ i, W.cell? ⟨w.heap.size, i, none⟩ = W1.drew.cell? ⟨w.heap.size, i, none⟩) := fun W h i => World.cell?_of_block (a := ⟨w.heap.size, i, none⟩) (h.block w.heap.size (by omega))
  have HS : Hid (∀ W, Below W1.drew.heap.size W1.drew W → (∀ u0 u1 u2 u3 u4 u5 u6 : Value, ((((((((W.setCell ⟨w.heap.size + 1, 0, none⟩ u0).setCell ⟨w.heap.size + 1, 1, none⟩ u1).setCell ⟨w.heap.size + 1, 2, none⟩ u2).setCell ⟨w.heap.size + 1, 3, none⟩ u3).setCell ⟨w.heap.size + 1, 4, none⟩ u4).setCell ⟨w.heap.size + 1, 5, none⟩ u5).setCell ⟨w.heap.size + 1, 6, none⟩ u6).cell? ⟨w.heap.size, 0, none⟩ = some (.slice p l cc) ∧ (((((((W.setCell ⟨w.heap.size + 1, 0, none⟩ u0).setCell ⟨w.heap.size + 1, 1, none⟩ u1).setCell ⟨w.heap.size + 1, 2, none⟩ u2).setCell ⟨w.heap.size + 1, 3, none⟩ u3).setCell ⟨w.heap.size + 1, 4, none⟩ u4).setCell ⟨w.heap.size + 1, 5, none⟩ u5).setCell ⟨w.heap.size + 1, 6, none⟩ u6).cell? ⟨w.heap.size, 1, none⟩ = some (.string t) ∧ (((((((W.setCell ⟨w.heap.size + 1, 0, none⟩ u0).setCell ⟨w.heap.size + 1, 1, none⟩ u1).setCell ⟨w.heap.size + 1, 2, none⟩ u2).setCell ⟨w.heap.size + 1, 3, none⟩ u3).setCell ⟨w.heap.size + 1, 4, none⟩ u4).setCell ⟨w.heap.size + 1, 5, none⟩ u5).setCell ⟨w.heap.size + 1, 6, none⟩ u6).cell? ⟨w.heap.size, 2, none⟩ = some (.iface 96 (.string y))) ∧ Below w.heap.size w (((((((W.setCell ⟨w.heap.size + 1, 0, none⟩ u0).setCell ⟨w.heap.size + 1, 1, none⟩ u1).setCell ⟨w.heap.size + 1, 2, none⟩ u2).setCell ⟨w.heap.size + 1, 3, none⟩ u3).setCell ⟨w.heap.size + 1, 4, none⟩ u4).setCell ⟨w.heap.size + 1, 5, none⟩ u5).setCell ⟨w.heap.size + 1, 6, none⟩ u6))) := fun W h u0 u1 u2 u3 u4 u5 u6 => ⟨HU.out _ (fun i => (cell_set7 (B := w.heap.size + 1) (j := i) W n1 u0 u1 u2 u3 u4 u5 u6).trans (HW.out W h i)), below_set7 (B := w.heap.size + 1) (b1.trans (h.mono hz1)) hs1 u0 u1 u2 u3 u4 u5 u6⟩
  clear hB e0 e1 e2 b0
  go_region_held3 (fun w' => (w'.cell? ⟨w.heap.size, 0, none⟩ = some (.slice p l cc) ∧ w'.cell? ⟨w.heap.size, 1, none⟩ = some (.string t) ∧ w'.cell? ⟨w.heap.size, 2, none⟩ = some (.iface 96 (.string y))) ∧ Below w.heap.size w w')
    (first | exact ⟨by with_reducible first | assumption | exact M0 | exact MS _ _ _ _ _ _ _, by with_reducible first | assumption | exact b1 | exact BS _ _ _ _ _ _ _⟩)
    (first
      | (go_at_call 85; have hx := OA; clear hx; refine (plain_t y wA).mono ?_; rintro r wP ⟨rfl, hP⟩; have HP' := HA'.trans (hP.mono HA'.size); have bP := b1.trans (HP'.mono hz1); have mP := HU.out wP (HW.out wP HP'); have OF : Hid (OwnA wP W1.drew.heap.size (.slice pA A.length cA') A) := owns_below OA.out hP; obtain ⟨q0, q1, q2, q3, q4, q5, q6⟩ := HB.out.1.below HP'; obtain ⟨h0, h1, h2, h3, h4, h5, h6⟩ := HB.out.2.below HB.out.1 HP'; simp only [z0] at q0 q1 q2 q3 q4 q5 q6; have MS := fun u0 u1 u2 u3 u4 u5 u6 => (HS.out wP HP' u0 u1 u2 u3 u4 u5 u6).1; have BS := fun u0 u1 u2 u3 u4 u5 u6 => (HS.out wP HP' u0 u1 u2 u3 u4 u5 u6).2)
      | (go_at_call 73; refine cA2.mono ?_; rintro r wA ⟨vA, rfl, oA, hA⟩; obtain ⟨pA, cA', rfl⟩ := own_slice oA; have HA' := HP'.trans (hA.mono HP'.size); have bA := b1.trans (HA'.mono hz1); have mA := HU.out wA (HW.out wA HA'); have OA : Hid (OwnA wA W1.drew.heap.size (.slice pA A.length cA') A) := own_weaken oA HP'.size; clear oA; have OF := OA; obtain ⟨q0, q1, q2, q3, q4, q5, q6⟩ := HB.out.1.below HA'; obtain ⟨h0, h1, h2, h3, h4, h5, h6⟩ := HB.out.2.below HB.out.1 HA'; simp only [z0] at q0 q1 q2 q3 q4 q5 q6; have MS := fun u0 u1 u2 u3 u4 u5 u6 => (HS.out wA HA' u0 u1 u2 u3 u4 u5 u6).1; have BS := fun u0 u1 u2 u3 u4 u5 u6 => (HS.out wA HA' u0 u1 u2 u3 u4 u5 u6).2)
      | (go_at_call 73; refine cA.mono ?_; rintro r wA ⟨vA, rfl, oA, hA⟩; obtain ⟨pA, cA', rfl⟩ := own_slice oA; have HA' := hA; have bA := b1.trans (HA'.mono hz1); have mA := HU.out wA (HW.out wA HA'); have OA : Hid (OwnA wA W1.drew.heap.size (.slice pA A.length cA') A) := oA; clear oA)
      | (go_at_call 85; refine (plain_t y W1.drew).mono ?_; rintro r wP ⟨rfl, hP⟩; have HP' := hP; have bP := b1.trans (HP'.mono hz1); have mP := HU.out wP (HW.out wP HP'); have cA2 := HC.out wP bP))
  · have same : ∀ (u0 u1 u2 u3 u4 u5 u6 : Value) (v : Value) (hv : OwnA wA W1.drew.heap.size v A), OwnA (((((((wA.setCell ⟨w.heap.size + 1, 0, none⟩ u0).setCell ⟨w.heap.size + 1, 1, none⟩ u1).setCell ⟨w.heap.size + 1, 2, none⟩ u2).setCell ⟨w.heap.size + 1, 3, none⟩ u3).setCell ⟨w.heap.size + 1, 4, none⟩ u4).setCell ⟨w.heap.size + 1, 5, none⟩ u5).setCell ⟨w.heap.size + 1, 6, none⟩ u6) w.heap.size v A := fun u0 u1 u2 u3 u4 u5 u6 v hv =>
      own_weaken (owns_same hv fun k hk => by
        have := (owns_block hv k hk).1
        exact heap_set7 _ (by omega) _ _ _ _ _ _ _) hz1
    go_wp2
    exact bodyPost_ret (v := opV ⟨2, t, (3, 0, y), 0, []⟩ (.slice pA A.length cA')) (by simp [results, Tryd.results79, go_sem, q0, q1, q2, q3, q4, q5, q6]) rfl ⟨_, rfl, same _ _ _ _ _ _ _ _ OF.out, BS _ _ _ _ _ _ _⟩
end Go.Proofs.YtkgflmbhkbeakabDoor

/- What the methods Op of pieces answer. -/
namespace Go.Proofs.YtkgflmbhkbeakabDoor
open Go Go.RowKit Go.Lib
set_option linter.unusedVariables false

set_option maxHeartbeats 1000000 in
set_option maxRecDepth 100000 in
theorem retOp (s : Value) (A : List A2) (n : Int) (w : World) (hR : RN w s A) (hl : A.length ≤ 2097152) :
    Calls Tryd.prog 77 #[.agg #[s, .int .i64 n]] w fun r w' => ∃ v', r = .returned (opV ⟨3, ⟨#[]⟩, z0, n, []⟩ v') ∧ OwnA w' w.heap.size v' A ∧ Below w.heap.size w w' := by
  have HC : Hid (∀ W, Below w.heap.size w W → Calls Tryd.prog 73 #[.agg #[s]] W fun r w' => ∃ v', r = .returned v' ∧ OwnA w' W.heap.size v' A ∧ Below W.heap.size W w') := fun W hW => attributes_any s A W (hR.row.below hW) hR.nz hl
  obtain ⟨p, l, cc, rfl⟩ : ∃ p l c, s = .slice p l c := by obtain ⟨p, c, h, _⟩ := hR.row.val; exact ⟨_, _, _, h⟩
  clear hR hl
  obtain ⟨W1, hW1⟩ : ∃ W, W = (w.alloc (.cells #[.slice p l cc, .int .i64 n] 77)).alloc (.cells #[.int .i64 0, .string ⟨#[]⟩, .int .i64 0, .int .i64 0, .string ⟨#[]⟩, .int .i64 0, .slice none 0 0] 37) := ⟨_, rfl⟩
  have b0 : Below w.heap.size w W1 := by rw [hW1]; exact ((Below.refl _ _).alloc (Nat.le_refl _) _).alloc (by simp) _
  have e0 : W1.cell? ⟨w.heap.size, 0, none⟩ = some (.slice p l cc) := by rw [hW1]; simp
  have e1 : W1.cell? ⟨w.heap.size, 1, none⟩ = some (.int .i64 n) := by rw [hW1]; simp
  have hB : BoxO W1 (w.heap.size + 1) opZ nilS ∧ FrO W1 (w.heap.size + 1) := by
    have q1 := BoxO.new (w.alloc (.cells #[.slice p l cc, .int .i64 n] 77)) opZ nilS
    have q2 := FrO.new (w.alloc (.cells #[.slice p l cc, .int .i64 n] 77)) opZ nilS
    rw [World.size_alloc] at q1 q2
    rw [hW1]
    exact ⟨q1, q2⟩
  go_enter Tryd.func77, Tryd.ntmps77
  go_upto_region 1 with fail
  rw [← hW1]
  clear hW1
  have HB : Hid (BoxO W1.drew (w.heap.size + 1) opZ nilS ∧ FrO W1.drew (w.heap.size + 1)) := ⟨hB.1.drew, hB.2.drew⟩
  have b1 : Below w.heap.size w W1.drew := b0.drew
  have hz1 : w.heap.size ≤ W1.drew.heap.size := b1.size
  have hz2 : w.heap.size + 1 < W1.drew.heap.size := lt_of_cell hB.1.d0
  have cA := HC.out W1.drew b1
  have n1 : w.heap.size ≠ w.heap.size + 1 := by omega
  have hs1 : w.heap.size ≤ w.heap.size + 1 := by omega
  have HU : Hid (∀ W : World, (∀ i, W.cell? ⟨w.heap.size, i, none⟩ = W1.drew.cell? ⟨w.heap.size, i, none⟩) → W.cell? ⟨w.heap.size, 0, none⟩ = some (.slice p l cc) ∧ W.cell? ⟨w.heap.size, 1, none⟩ = some (.int .i64 n)) := fun W h => ⟨(h 0).trans e0, (h 1).trans e1⟩
  have M0 := HU.out W1.drew (fun _ => rfl)
  have HW : Hid (∀ W, Below W1.drew.heap.size W1.drew W → ∀ i, W.cell? ⟨w.heap.size, i, none⟩ = W1.drew.cell? ⟨w.heap.size, i, none⟩) := fun W h i => World.cell?_of_block (a := ⟨w.heap.size, i, none⟩) (h.block w.heap.size (by omega))
  have HS : Hid (∀ W, Below W1.drew.heap.size W1.drew W → (∀ u0 u1 u2 u3 u4 u5 u6 : Value, ((((((((W.setCell ⟨w.heap.size + 1, 0, none⟩ u0).setCell ⟨w.heap.size + 1, 1, none⟩ u1).setCell ⟨w.heap.size + 1, 2, none⟩ u2).setCell ⟨w.heap.size + 1, 3, none⟩ u3).setCell ⟨w.heap.size + 1, 4, none⟩ u4).setCell ⟨w.heap.size + 1, 5, none⟩ u5).setCell ⟨w.heap.size + 1, 6, none⟩ u6).cell? ⟨w.heap.size, 0, none⟩ = some (.slice p l cc) ∧ (((((((W.setCell ⟨w.heap.size + 1, 0, none⟩ u0).setCell ⟨w.heap.size + 1, 1, none⟩ u1).setCell ⟨w.heap.size + 1, 2, none⟩ u2).setCell ⟨w.heap.size + 1, 3, none⟩ u3).setCell ⟨w.heap.size + 1, 4, none⟩ u4).setCell ⟨w.heap.size + 1, 5, none⟩ u5).setCell ⟨w.heap.size + 1, 6, none⟩ u6).cell? ⟨w.heap.size, 1, none⟩ = some (.int .i64 n)) ∧ Below w.heap.size w (((((((W.setCell ⟨w.heap.size + 1, 0, none⟩ u0).setCell ⟨w.heap.size + 1, 1, none⟩ u1).setCell ⟨w.heap.size + 1, 2, none⟩ u2).setCell ⟨w.heap.size + 1, 3, none⟩ u3).setCell ⟨w.heap.size + 1, 4, none⟩ u4).setCell ⟨w.heap.size + 1, 5, none⟩ u5).setCell ⟨w.heap.size + 1, 6, none⟩ u6))) := fun W h u0 u1 u2 u3 u4 u5 u6 => ⟨HU.out _ (fun i => (cell_set7 (B := w.heap.size + 1) (j := i) W n1 u0 u1 u2 u3 u4 u5 u6).trans (HW.out W h i)), below_set7 (B := w.heap.size + 1) (b1.trans (h.mono hz1)) hs1 u0 u1 u2 u3 u4 u5 u6⟩
  clear hB e0 e1 b0
  go_region_held3 (fun w' => (w'.cell? ⟨w.heap.size, 0, none⟩ = some (.slice p l cc) ∧ w'.cell? ⟨w.heap.size, 1, none⟩ = some (.int .i64 n)) ∧ Below w.heap.size w w')
    (first | exact ⟨by with_reducible first | assumption | exact M0 | exact MS _ _ _ _ _ _ _, by with_reducible first | assumption | exact b1 | exact BS _ _ _ _ _ _ _⟩)
    (first
      | (go_at_call 73; refine cA.mono ?_; rintro r wA ⟨vA, rfl, oA, hA⟩; obtain ⟨pA, cA', rfl⟩ := own_slice oA; have HA' := hA; have bA := b1.trans (HA'.mono hz1); have mA := HU.out wA (HW.out wA HA'); have OA : Hid (OwnA wA W1.drew.heap.size (.slice pA A.length cA') A) := oA; clear oA; obtain ⟨q0, q1, q2, q3, q4, q5, q6⟩ := HB.out.1.below HA'; obtain ⟨h0, h1, h2, h3, h4, h5, h6⟩ := HB.out.2.below HB.out.1 HA'; simp only [z0] at q0 q1 q2 q3 q4 q5 q6; have MS := fun u0 u1 u2 u3 u4 u5 u6 => (HS.out wA HA' u0 u1 u2 u3 u4 u5 u6).1; have BS := fun u0 u1 u2 u3 u4 u5 u6 => (HS.out wA HA' u0 u1 u2 u3 u4 u5 u6).2))
  · have same : ∀ (u0 u1 u2 u3 u4 u5 u6 : Value) (v : Value) (hv : OwnA wA W1.drew.heap.size v A), OwnA (((((((wA.setCell ⟨w.heap.size + 1, 0, none⟩ u0).setCell ⟨w.heap.size + 1, 1, none⟩ u1).setCell ⟨w.heap.size + 1, 2, none⟩ u2).setCell ⟨w.heap.size + 1, 3, none⟩ u3).setCell ⟨w.heap.size + 1, 4, none⟩ u4).setCell ⟨w.heap.size + 1, 5, none⟩ u5).setCell ⟨w.heap.size + 1, 6, none⟩ u6) w.heap.size v A := fun u0 u1 u2 u3 u4 u5 u6 v hv =>
      own_weaken (owns_same hv fun k hk => by
        have := (owns_block hv k hk).1
        exact heap_set7 _ (by omega) _ _ _ _ _ _ _) hz1
    go_wp2
    exact bodyPost_ret (v := opV ⟨3, ⟨#[]⟩, z0, n, []⟩ (.slice pA A.length cA')) (by simp [results, Tryd.results77, go_sem, z0, q0, q1, q2, q3, q4, q5, q6]) rfl ⟨_, rfl, same _ _ _ _ _ _ _ _ OA.out, BS _ _ _ _ _ _ _⟩

set_option maxHeartbeats 1000000 in
theorem delOp (n : Int) (w : World) :
    Calls Tryd.prog 72 #[.agg #[.int .i64 n]] w fun r w' => r = .returned (opV ⟨4, ⟨#[]⟩, z0, n, []⟩ (.slice none 0 0)) ∧ Below w.heap.size w w' := by
  go_enter Tryd.func72, Tryd.ntmps72
  go_wp2
  exact bodyPost_ret (v := opV ⟨4, ⟨#[]⟩, z0, n, []⟩ (.slice none 0 0)) (by simp [results, Tryd.results72, go_sem, z0]) rfl ⟨rfl, by go_grown⟩
theorem embOp_any (s : Value) (A : List A2) (t : ByteArray) (v : P3) (w : World) (hv : chkP v = 0) (hR : RN w s A) (hl : A.length ≤ 2097152) :
    Calls Tryd.prog 79 #[.agg #[s, .string t, valP v]] w fun r w' => ∃ v', r = .returned (opV ⟨2, t, v, 0, []⟩ v') ∧ OwnA w' w.heap.size v' A ∧ Below w.heap.size w w' := by
  obtain ⟨x, z, u⟩ := v
  rcases good_cases hv with ⟨rfl, rfl, rfl⟩ | ⟨rfl, rfl, rfl⟩ | ⟨rfl, rfl, rfl⟩ | ⟨rfl, rfl⟩ | ⟨rfl, rfl, _⟩
  · exact embOp_null s A t w hR hl
  · exact embOp_flag0 s A t w hR hl
  · exact embOp_flag1 s A t w hR hl
  · exact embOp_num z s A t w hR hl
  · exact embOp_text u s A t w hR hl
end Go.Proofs.YtkgflmbhkbeakabDoor

/- ops.Bearers: the pieces that bear attributes, with their numbers. -/
namespace Go.Proofs.YtkgflmbhkbeakabDoor
open Go Go.RowKit Go.Lib
set_option linter.unusedVariables false

/-- The operations whose pieces bear attributes, with their numbers. -/
def bearI : Nat → List Op5 → List (Nat × Op5)
  | _, [] => []
  | i, o :: r => if o.k = 4 then bearI (i + 1) r else (i, o) :: bearI (i + 1) r
theorem bearI_append : ∀ (a b : List Op5) (i : Nat), bearI i (a ++ b) = bearI i a ++ bearI (i + a.length) b
  | [], b, i => by simp [bearI]
  | o :: r, b, i => by
    have := bearI_append r b (i + 1)
    rw [List.cons_append, bearI, bearI, this, List.length_cons, show i + (r.length + 1) = i + 1 + r.length by omega]
    split <;> rfl
theorem bearI_snoc {E : List Op5} {k : Nat} {e : Op5} (h : E[k]? = some e) : bearI 0 (E.take (k + 1)) = bearI 0 (E.take k) ++ (if e.k = 4 then [] else [(k, e)]) := by
  have hl : k < E.length := (List.getElem?_eq_some_iff.1 h).1
  rw [List.take_add_one, h, Option.toList_some, bearI_append, List.length_take, Nat.min_eq_left (by omega), Nat.zero_add]
  rfl
theorem bearI_len : ∀ (E : List Op5) (i : Nat), (bearI i E).length ≤ E.length
  | [], i => Nat.le_refl _
  | o :: r, i => by
    have := bearI_len r (i + 1)
    rw [bearI]
    split
    · simp only [List.length_cons]; omega
    · simp only [List.length_cons]; omega
theorem bearI_at {E : List Op5} {k : Nat} {e : Op5} (h : E[k]? = some e) (hk : e.k ≠ 4) : (bearI 0 E)[(bearI 0 (E.take k)).length]? = some (k, e) := by
  have h1 := bearI_snoc h
  rw [if_neg hk] at h1
  have h2 : bearI 0 E = bearI 0 (E.take (k + 1)) ++ bearI (0 + (E.take (k + 1)).length) (E.drop (k + 1)) := by
    rw [← bearI_append, List.take_append_drop]
  rw [h2, h1, List.append_assoc, List.getElem?_append_right (Nat.le_refl _), Nat.sub_self]
  rfl

/-- All blocks of one type of elements are as they were. -/
def KeepT (e : TypeId) (w w' : World) : Prop := ∀ (k : Nat) (cur : Array Value), w.heap[k]? = some (.cells cur e (0, 0)) → w'.heap[k]? = w.heap[k]?
theorem keepT_grown {e e' : TypeId} {w w' : World} {B sz n : Nat} {v : Value} {xs : List Value} (h : w.ownsRow B e' sz v n xs) (g : w.grownBy w' v.ownBlock) (hne : e' ≠ e) : KeepT e w w' := fun k cur hk => by
  refine g.block k (Array.getElem?_eq_some_iff.1 hk).1 fun q => ?_
  rcases h.2 with ⟨rfl, _⟩ | ⟨b, cap, cur', rfl, _, h3, _⟩
  · cases q
  · simp only [Value.ownBlock, Option.some.injEq] at q
    subst q
    rw [h3] at hk
    simp only [Option.some.injEq, Obj.cells.injEq] at hk
    exact absurd hk.2.1 hne
theorem keepT_own {e : TypeId} {w w' : World} {B sz n : Nat} {v : Value} {xs : List Value} (h : w.ownsRow B e sz v n xs) (hk : KeepT e w w') : w'.ownsRow B e sz v n xs := owns_same h fun k hb => by
  obtain ⟨_, cur, hc⟩ := owns_block h k hb
  exact hk k cur hc
abbrev OwnB (w : World) (B : Nat) (v : Value) (P : List Value) : Prop := w.ownsRow B 54 1 v P.length P
abbrev OwnZ (w : World) (B : Nat) (v : Value) (P : List Value) : Prop := w.ownsRow B 3 1 v P.length P
theorem infoBe : ∃ i z, Tryd.prog.info? 54 = some i ∧ i.zero = some z ∧ i.size = 1 ∧ i.bytes = 16 ∧ z.cells.size = 1 := by
  obtain ⟨i, hi, h⟩ := Option.map_eq_some_iff.1 (show (Tryd.prog.info? 54).map (fun i => (i.zero, i.size, i.bytes)) = some (some .nilIface, 1, 16) by kernel_rfl)
  simp only [Prod.mk.injEq] at h
  exact ⟨i, _, hi, h.1, h.2.1, h.2.2, rfl⟩
theorem infoZi : ∃ i z, Tryd.prog.info? 3 = some i ∧ i.zero = some z ∧ i.size = 1 ∧ i.bytes = 8 ∧ z.cells.size = 1 := by
  obtain ⟨i, hi, h⟩ := Option.map_eq_some_iff.1 (show (Tryd.prog.info? 3).map (fun i => (i.zero, i.size, i.bytes)) = some (some (.int .i64 0), 1, 8) by kernel_rfl)
  simp only [Prod.mk.injEq] at h
  exact ⟨i, _, hi, h.1, h.2.1, h.2.2, rfl⟩
theorem wpList_append_be {w : World} {ops : Array Oper} {rest : List Oper} {o : Oper} {a : Act} {Q : Exit → Act → World → Prop} (hgd : o.guard = none) (s x : Operand)
    (ho : o.op = .call { callee := .builtin .append, args := #[s, x], argTypes := #[43, 43] })
    (base : Nat) (v : Value) (P : List Value) (hs : a.eval s = v) (hown : OwnB w base v P)
    (b c : Nat) (u : Value) (hx : a.eval x = .slice (some ⟨b, 0, none⟩) 1 c) (hu : w.cell? ⟨b, 0, none⟩ = some u) (h1 : u.oneCell' = true)
    (h63 : P.length ≤ 1048677) (hbase : base ≤ w.heap.size)
    (h : ∀ v' w', OwnB w' base v' (P ++ [u]) → w.grownBy w' v.ownBlock → wpList Tryd.prog ops Q rest (a.put o.dst v') w') : wpList Tryd.prog ops Q (o :: rest) a w := by
  obtain ⟨i, z, hi, hz, hz1, hz2, hz3⟩ := infoBe
  exact wpList_append_own _ hgd s x _ ho base 54 i z 1 16 Tryd.underlying43 hi hz hz1 hz2 hz3 (by decide) v P.length P hs hown ⟨b, 0, none⟩ 1 c [u] hx rfl (by intro j y hj; cases j with | zero => (simp at hj; subst hj; exact hu) | succ j => simp at hj) (fun y hy => by rw [List.mem_singleton.1 hy]; exact h1) (by unfold maxLen; omega) (by omega) hbase (fun v' w' h1 h2 _ => h v' w' (by show w'.ownsRow _ _ _ _ _ _; rw [List.length_append]; exact h1) h2)
theorem wpList_append_zi {w : World} {ops : Array Oper} {rest : List Oper} {o : Oper} {a : Act} {Q : Exit → Act → World → Prop} (hgd : o.guard = none) (s x : Operand)
    (ho : o.op = .call { callee := .builtin .append, args := #[s, x], argTypes := #[44, 44] })
    (base : Nat) (v : Value) (P : List Value) (hs : a.eval s = v) (hown : OwnZ w base v P)
    (b c : Nat) (u : Value) (hx : a.eval x = .slice (some ⟨b, 0, none⟩) 1 c) (hu : w.cell? ⟨b, 0, none⟩ = some u) (h1 : u.oneCell' = true)
    (h63 : P.length ≤ 1048677) (hbase : base ≤ w.heap.size)
    (h : ∀ v' w', OwnZ w' base v' (P ++ [u]) → w.grownBy w' v.ownBlock → wpList Tryd.prog ops Q rest (a.put o.dst v') w') : wpList Tryd.prog ops Q (o :: rest) a w := by
  obtain ⟨i, z, hi, hz, hz1, hz2, hz3⟩ := infoZi
  exact wpList_append_own _ hgd s x _ ho base 3 i z 1 8 Tryd.underlying44 hi hz hz1 hz2 hz3 (by decide) v P.length P hs hown ⟨b, 0, none⟩ 1 c [u] hx rfl (by intro j y hj; cases j with | zero => (simp at hj; subst hj; exact hu) | succ j => simp at hj) (fun y hy => by rw [List.mem_singleton.1 hy]; exact h1) (by unfold maxLen; omega) (by omega) hbase (fun v' w' h1 h2 _ => h v' w' (by show w'.ownsRow _ _ _ _ _ _; rw [List.length_append]; exact h1) h2)
/-- What the assertion to a bearer answers. -/
theorem as_b_if {o : Op5} (s : Value) (hk : o.k = 1 ∨ o.k = 2 ∨ o.k = 3) (W : World) : (Instr.typeAssert (pieceQ o s) 50 54 true).run Tryd.prog W = .ok (.tuple #[pieceQ o s, .bool true]) W := by
  rcases hk with h | h | h
  · rw [pieceQ_1 h]; exact as_i_b _ W
  · rw [pieceQ_2 h]; exact as_e_b _ W
  · rw [pieceQ_3 h]; exact as_r_b _ W
theorem as_b_no {o : Op5} (s : Value) (hk : o.k = 4) (W : World) : (Instr.typeAssert (pieceQ o s) 50 54 true).run Tryd.prog W = .ok (.tuple #[.nilIface, .bool false]) W := by
  rw [pieceQ_4 hk]; exact as_d_b _ W

set_option maxHeartbeats 2000000 in
set_option maxRecDepth 100000 in
theorem bearers_any {I : List Nat} {a : Nat → Addr} (v : Value) (E : List Op5) (w : World) (hI : ∀ i ∈ IxO, i ∈ I) (hS : Std I a w) (hv : ReO w v E) (hF : FitL E) (hl : E.length ≤ 1048576) :
    Calls Tryd.prog 13 #[v] w fun r w' => ∃ v1 v2, r = .returned (.tuple #[v1, v2, errOf a (badP E).2]) ∧ ((badP E).2 = 0 → ∃ P, OwnB w' w.heap.size v1 P ∧ PieD w' w.heap.size P ((bearI 0 E).map (·.2)) ∧ OwnZ w' w.heap.size v2 ((bearI 0 E).map fun x => .int .i64 x.1)) ∧ ((badP E).2 ≠ 0 → v1 = .slice none 0 0 ∧ v2 = .slice none 0 0) ∧ Below w.heap.size w w' := by
  have c1 := of_any v E w hI hS hv hF hl
  obtain ⟨D, ⟨p, cap, rfl, _, _, _⟩, hre⟩ := hv
  rw [forall2_len hre] at c1 ⊢
  clear hS hI hF hre
  obtain ⟨i1, hi1⟩ : ∃ i : Int, ((badP E).1 : Int) = i := ⟨_, rfl⟩
  rw [hi1] at c1
  cases hb : (badP E).2 with
  | succ e =>
    rw [hb, errOf_succ] at c1
    rw [errOf_succ]
    clear hi1 hb
    go_enter Tryd.func13, Tryd.ntmps13
    go_wp2_with fail
    refine c1.mono ?_; rintro r w2 ⟨v', rfl, _, hz, hb2⟩
    obtain rfl := hz (by omega)
    clear c1 hz
    go_wp2
    go_ret3
    exact ⟨.slice none 0 0, .slice none 0 0, rfl, fun h => (by cases h), fun _ => ⟨rfl, rfl⟩, hb2⟩
  | zero =>
    rw [hb, errOf_zero] at c1
    rw [errOf_zero]
    have HGd : Hid (∀ o ∈ E, opE o = 0) := bad_zero.1 hb
    clear hi1 hb
    go_enter Tryd.func13, Tryd.ntmps13
    go_wp2_with fail
    refine c1.mono ?_; rintro r w2 ⟨v', rfl, hok, _, hb2⟩
    obtain ⟨P, hP1, hP2⟩ := hok (by simp)
    obtain ⟨p', cap', rfl⟩ := own_slice hP1
    obtain ⟨n, hn⟩ : ∃ n, P.length = n := ⟨_, rfl⟩
    have hPE := forall2_len hP2
    have HN : Hid (E.length = n) := by show _ = _; omega
    rw [hn]
    have hln : n ≤ 1048576 := by omega
    have HV : Hid (∀ k, k < n → ∃ ga e s, p' = some ⟨ga, 0, none⟩ ∧ E[k]? = some e ∧ w2.cell? ⟨ga, k, none⟩ = some (pieceQ e s) ∧ OwnA w2 w.heap.size s e.A) := fun k hk => by
      obtain ⟨g, c, x, hv', hB, hx, hc⟩ := own_cell hP1 k (by omega)
      obtain ⟨e, s, he, rfl, ho⟩ := oneI hP2 hx
      simp only [Value.slice.injEq] at hv'
      exact ⟨g, e, s, hv'.1, he, hc, ho⟩
    have hz2 : Hid (w.heap.size ≤ w2.heap.size) := hb2.size
    have HB2 : Hid (Below w.heap.size w w2) := hb2
    clear c1 hok hP1 hP2 hn hPE hl hb2
    go_wp2_with fail
    go_loopw [8, 9, 25] (fun bs ns i wr => ∃ (k : Nat) (PB : List Value), k ≤ n ∧ i = .int .i64 k ∧ OwnB wr w2.heap.size bs PB ∧ PieD wr w.heap.size PB ((bearI 0 (E.take k)).map (·.2)) ∧ OwnZ wr w2.heap.size ns ((bearI 0 (E.take k)).map fun x => .int .i64 x.1) ∧ Below w2.heap.size w2 wr) (fun _ _ i _ => n - (RowKit.intOf i).toNat)
    case atStart => exact ⟨0, [], Nat.zero_le _, rfl, ⟨rfl, Or.inl ⟨rfl, rfl⟩⟩, .nil, ⟨rfl, Or.inl ⟨rfl, rfl⟩⟩, Below.refl _ _⟩
    case round =>
      obtain ⟨k, PB, hk, rfl, hob, hpd, hoz, hbw⟩ := hrel
      by_cases hlt : k < n
      · have hltI : (k : Int) < n := by omega
        obtain ⟨ga, e, s, rfl, he, hc, ho⟩ := HV.out k hlt
        have c0 := (hbw.cell (lt_of_cell hc)).trans hc
        have hge := HGd.out e (List.mem_of_getElem? he)
        have hsn := bearI_snoc he
        have hbl : (bearI 0 (E.take k)).length ≤ k := Nat.le_trans (bearI_len _ _) (by rw [List.length_take]; omega)
        have hPl := forall2_len hpd
        rw [List.length_map] at hPl
        by_cases h4 : e.k = 4
        · have as1 := as_b_no s h4
          rw [if_pos h4, List.append_nil] at hsn
          obtain ⟨u, x, hux⟩ := pieceQ_if e s
          rw [hux] at c0 as1
          have HX : Hid (OwnB wr w2.heap.size u8 PB ∧ PieD wr w.heap.size PB ((bearI 0 (E.take (k + 1))).map (·.2)) ∧ OwnZ wr w2.heap.size u9 ((bearI 0 (E.take (k + 1))).map fun x => .int .i64 x.1)) := by
            rw [hsn]; exact ⟨hob, hpd, hoz⟩
          clear hsn hob hpd hoz he hc ho hge hux hPl hbl h4
          go_wp2
          go_roundw
          case rel => exact ⟨k + 1, PB, by omega, by go_num, HX.out.1, HX.out.2.1, HX.out.2.2, hbw⟩
          case measure => simp [RowKit.intOf]; omega
        · have hkk : e.k = 1 ∨ e.k = 2 ∨ e.k = 3 := by rcases kinds_of hge with h | h | h | h <;> omega
          have as1 := as_b_if s hkk
          rw [if_neg h4] at hsn
          obtain ⟨u, x, hux⟩ := pieceQ_if e s
          have HU : Hid (pieceQ e s = .iface u x) := hux
          rw [hux] at c0 as1
          have ba : Below wr.heap.size wr (wr.alloc (.cells #[.iface u x] 54)) := (Below.refl _ _).alloc (Nat.le_refl _) _
          have b1 := hbw.trans (ba.mono hbw.size)
          have HO1 : Hid (OwnB (wr.alloc (.cells #[.iface u x] 54)) w2.heap.size u8 PB ∧ OwnZ (wr.alloc (.cells #[.iface u x] 54)) w2.heap.size u9 ((bearI 0 (E.take k)).map fun x => .int .i64 x.1) ∧ PieD (wr.alloc (.cells #[.iface u x] 54)) w.heap.size (PB ++ [.iface u x]) ((bearI 0 (E.take (k + 1))).map (·.2))) := by
            refine ⟨owns_below hob ba, owns_below hoz ba, ?_⟩
            rw [hsn, List.map_append]
            exact forall2_append (hpd.below ba) (.cons ⟨s, HU.out.symm, owns_below ho (hbw.trans (ba.mono hbw.size))⟩ .nil)
          have hu1 : (wr.alloc (.cells #[.iface u x] 54)).cell? ⟨wr.heap.size, 0, none⟩ = some (.iface u x) := by simp
          have hgb : Hid (∀ j, u8.ownBlock = some j → w2.heap.size ≤ j) := fun j hj => (owns_block hob j hj).1
          have hgz : Hid (∀ j, u9.ownBlock = some j → w2.heap.size ≤ j) := fun j hj => (owns_block hoz j hj).1
          have hPl2 : PB.length ≤ 1048677 := by omega
          have hZl : ((bearI 0 (E.take k)).map fun x => Value.int .i64 x.1).length ≤ 1048677 := by rw [List.length_map]; omega
          have HS : Hid (bearI 0 (E.take (k + 1)) = bearI 0 (E.take k) ++ [(k, e)]) := hsn
          clear hsn hob hpd hoz he hc ho hge hux hPl hbl h4 hkk ba hbw
          go_wp2_with (first
            | (at_builtin; refine wpList_append_be rfl (.tmp 36) (.tmp 38) rfl w2.heap.size u8 PB rfl HO1.out.1 wr.heap.size 1 (.iface u x) rfl hu1 rfl hPl2 b1.size ?_; intro v6 w6 own6 gr6; have b6 := b1.grown gr6 b1.size (fun j hj => hgb.out j hj); have HO6 : Hid (OwnB w6 w2.heap.size v6 (PB ++ [.iface u x]) ∧ OwnZ w6 w2.heap.size u9 ((bearI 0 (E.take k)).map fun x => .int .i64 x.1) ∧ PieD w6 w.heap.size (PB ++ [.iface u x]) ((bearI 0 (E.take (k + 1))).map (·.2))) := ⟨own6, keepT_own HO1.out.2.1 (keepT_grown HO1.out.1 gr6 (by decide)), HO1.out.2.2.keep (keepT_grown HO1.out.1 gr6 (by decide))⟩; have bA6 : Below w6.heap.size w6 (w6.alloc (.cells #[.int .i64 k] 3)) := (Below.refl _ _).alloc (Nat.le_refl _) _; have b7 := b6.trans (bA6.mono b6.size); have HO7 : Hid (OwnB (w6.alloc (.cells #[.int .i64 k] 3)) w2.heap.size v6 (PB ++ [.iface u x]) ∧ OwnZ (w6.alloc (.cells #[.int .i64 k] 3)) w2.heap.size u9 ((bearI 0 (E.take k)).map fun x => .int .i64 x.1) ∧ PieD (w6.alloc (.cells #[.int .i64 k] 3)) w.heap.size (PB ++ [.iface u x]) ((bearI 0 (E.take (k + 1))).map (·.2))) := ⟨owns_below HO6.out.1 bA6, owns_below HO6.out.2.1 bA6, HO6.out.2.2.below bA6⟩; have hu7 : (w6.alloc (.cells #[.int .i64 k] 3)).cell? ⟨w6.heap.size, 0, none⟩ = some (.int .i64 k) := (by simp); clear own6 gr6 HO6 HO1 bA6 hu1 b6 b1)
            | (at_builtin; refine wpList_append_zi rfl (.tmp 40) (.tmp 42) rfl w2.heap.size u9 _ rfl HO7.out.2.1 w6.heap.size 1 (.int .i64 k) rfl hu7 rfl hZl b7.size ?_; intro v8 w8 own8 gr8; have b8 := b7.grown gr8 b7.size (fun j hj => hgz.out j hj); have HO8 : Hid (OwnB w8 w2.heap.size v6 (PB ++ [.iface u x]) ∧ OwnZ w8 w2.heap.size v8 ((bearI 0 (E.take (k + 1))).map fun x => .int .i64 x.1) ∧ PieD w8 w.heap.size (PB ++ [.iface u x]) ((bearI 0 (E.take (k + 1))).map (·.2))) := ⟨keepT_own HO7.out.1 (keepT_grown HO7.out.2.1 gr8 (by decide)), (by rw [HS.out, List.map_append]; exact own8), HO7.out.2.2.keep (keepT_grown HO7.out.2.1 gr8 (by decide))⟩; clear own8 gr8 HO7 hu7 b7))
          go_roundw
          case rel => exact ⟨k + 1, _, by omega, by go_num, HO8.out.1, HO8.out.2.2, HO8.out.2.1, b8⟩
          case measure => simp [RowKit.intOf]; omega
      · have hltI : ¬ (k : Int) < n := by omega
        have hE : E.take k = E := List.take_of_length_le (by rw [HN.out]; omega)
        rw [hE] at hpd hoz
        have HX : Hid (OwnB wr w.heap.size u8 PB ∧ PieD wr w.heap.size PB ((bearI 0 E).map (·.2)) ∧ OwnZ wr w.heap.size u9 ((bearI 0 E).map fun x => .int .i64 x.1)) := ⟨own_weaken hob hz2.out, hpd, own_weaken hoz hz2.out⟩
        have b9 := HB2.out.trans (hbw.mono hz2.out)
        clear hob hpd hoz hE hbw
        go_wp2
        go_ret3
        exact ⟨u8, u9, rfl, ⟨PB, HX.out.1, HX.out.2.1, HX.out.2.2⟩, b9⟩
end Go.Proofs.YtkgflmbhkbeakabDoor

/- Of all lists of operations vellumlaw05.OpsPieces answers true. -/
namespace Go.Proofs.YtkgflmbhkbeakabDoor
open Go Go.RowKit Go.Lib
set_option linter.unusedVariables false

theorem opQ_1 {e : Op5} (hg : opE e = 0) (hk : e.k = 1) (s : Value) (w : World) (hR : RN w s e.A) (hl : e.A.length ≤ 2097152) :
    Calls Tryd.prog 75 #[.agg #[s, .string e.t, .int .i64 (scs e.t.data.toList).length]] w fun r w' => ∃ v', r = .returned (opV e v') ∧ OwnA w' w.heap.size v' e.A ∧ Below w.heap.size w w' := by
  refine (insOp s e.A e.t _ w hR hl).mono fun r w' ⟨v', h1, h2, h3⟩ => ⟨v', ?_, h2, h3⟩
  rw [h1]
  rcases op_good hg with ⟨hi, _⟩ | ⟨_, _, h⟩ | ⟨_, _, h⟩
  · have hc := hi.count
    rcases hi.kind with ⟨_, hv⟩ | ⟨h2, _⟩
    · obtain ⟨k, t, v, c, A⟩ := e
      simp only at hk hv hc
      subst hk hv hc
      rfl
    · omega
  · omega
  · omega
theorem opQ_2 {e : Op5} (hg : opE e = 0) (hk : e.k = 2) (s : Value) (w : World) (hR : RN w s e.A) (hl : e.A.length ≤ 2097152) :
    Calls Tryd.prog 79 #[.agg #[s, .string e.t, valP e.v]] w fun r w' => ∃ v', r = .returned (opV e v') ∧ OwnA w' w.heap.size v' e.A ∧ Below w.heap.size w w' := by
  rcases op_good hg with ⟨hi, _⟩ | ⟨_, _, h⟩ | ⟨_, _, h⟩
  · refine (embOp_any s e.A e.t e.v w hi.val hR hl).mono fun r w' ⟨v', h1, h2, h3⟩ => ⟨v', ?_, h2, h3⟩
    rw [h1]
    have hc := hi.count
    obtain ⟨k, t, v, c, A⟩ := e
    simp only at hk hc
    subst hk hc
    rfl
  · omega
  · omega
theorem cnt_flds {e : Op5} (h : Cnt e) : e.t = ⟨#[]⟩ ∧ e.v = z0 := by
  refine ⟨?_, h.val⟩
  have := h.text
  have h0 : e.t.toList = [] := List.isEmpty_iff.1 this
  rw [toList_data] at h0
  exact ByteArray.ext (Array.ext' h0)
theorem opQ_3 {e : Op5} (hg : opE e = 0) (hk : e.k = 3) (s : Value) (w : World) (hR : RN w s e.A) (hl : e.A.length ≤ 2097152) :
    Calls Tryd.prog 77 #[.agg #[s, .int .i64 e.c]] w fun r w' => ∃ v', r = .returned (opV e v') ∧ OwnA w' w.heap.size v' e.A ∧ Below w.heap.size w w' := by
  refine (retOp s e.A e.c w hR hl).mono fun r w' ⟨v', h1, h2, h3⟩ => ⟨v', ?_, h2, h3⟩
  rw [h1]
  rcases op_good hg with ⟨_, h⟩ | ⟨hc, _, _⟩ | ⟨_, _, h⟩
  · omega
  · obtain ⟨ht, hv⟩ := cnt_flds hc
    obtain ⟨k, t, v, c, A⟩ := e
    simp only at hk ht hv
    subst hk ht hv
    rfl
  · omega
theorem opQ_4 {e : Op5} (hg : opE e = 0) (hk : e.k = 4) (w : World) :
    Calls Tryd.prog 72 #[.agg #[.int .i64 e.c]] w fun r w' => ∃ v', r = .returned (opV e v') ∧ OwnA w' w.heap.size v' e.A ∧ Below w.heap.size w w' := by
  refine (delOp e.c w).mono fun r w' ⟨h1, h3⟩ => ⟨.slice none 0 0, ?_, ?_, h3⟩
  · rw [h1]
    rcases op_good hg with ⟨_, h⟩ | ⟨_, _, h⟩ | ⟨hc, _, _⟩
    · omega
    · omega
    · obtain ⟨ht, hv⟩ := cnt_flds hc
      obtain ⟨k, t, v, c, A⟩ := e
      simp only at hk ht hv
      subst hk ht hv
      rfl
  · rw [drop_A hg hk]; exact ⟨rfl, Or.inl ⟨rfl, rfl⟩⟩

end Go.Proofs.YtkgflmbhkbeakabDoor

/- Of all lists of operations vellumlaw05.OpsMemory answers true. -/
namespace Go.Proofs.YtkgflmbhkbeakabDoor
open Go Go.RowKit Go.Lib
set_option linter.unusedVariables false

theorem cell_atx {w : World} {g : Nat} {cur : Array Value} {e : TypeId} (h : w.heap[g]? = some (.cells cur e (0, 0))) (j : Nat) (hj : j < cur.size) : ∃ u, w.cell? ⟨g, j, none⟩ = some u :=
  ⟨cur[j], by simp [World.cell?, h, hj]⟩
theorem out_set4x {lo hi : Nat} {w W : World} (h : Out lo hi w W) {g : Nat} (h1 : lo ≤ g) (h2 : g < hi) (a b c d : Nat) (u0 u1 u2 u3 : Value) :
    Out lo hi w ((((W.setCell ⟨g, a, none⟩ u0).setCell ⟨g, b, none⟩ u1).setCell ⟨g, c, none⟩ u2).setCell ⟨g, d, none⟩ u3) :=
  (((h.setCell g a u0 h1 h2).setCell g b u1 h1 h2).setCell g c u2 h1 h2).setCell g d u3 h1 h2
theorem set4_otherx (W : World) {g k : Nat} (hk : k ≠ g) (a b c d i : Nat) (u0 u1 u2 u3 : Value) :
    ((((W.setCell ⟨g, a, none⟩ u0).setCell ⟨g, b, none⟩ u1).setCell ⟨g, c, none⟩ u2).setCell ⟨g, d, none⟩ u3).cell? ⟨k, i, none⟩ = W.cell? ⟨k, i, none⟩ := by
  refine World.cell?_of_block (a := ⟨k, i, none⟩) ?_
  have h : ∀ (W : World) (j : Nat) (v : Value), (W.setCell ⟨g, j, none⟩ v).heap[k]? = W.heap[k]? := fun W j v => Below.heap_setCell _ _ _ _ hk
  rw [h, h, h, h]
theorem out_set7x {lo hi : Nat} {w W : World} (h : Out lo hi w W) {g : Nat} (h1 : lo ≤ g) (h2 : g < hi) (o : Nat) (u0 u1 u2 u3 u4 u5 u6 : Value) :
    Out lo hi w (((((((W.setCell ⟨g, o, none⟩ u0).setCell ⟨g, o + 1, none⟩ u1).setCell ⟨g, o + 2, none⟩ u2).setCell ⟨g, o + 3, none⟩ u3).setCell ⟨g, o + 4, none⟩ u4).setCell ⟨g, o + 5, none⟩ u5).setCell ⟨g, o + 6, none⟩ u6) :=
  ((((((h.setCell g _ u0 h1 h2).setCell g _ u1 h1 h2).setCell g _ u2 h1 h2).setCell g _ u3 h1 h2).setCell g _ u4 h1 h2).setCell g _ u5 h1 h2).setCell g _ u6 h1 h2
theorem set7_farx (W : World) {g o i : Nat} (hi : o + 7 ≤ i) (u0 u1 u2 u3 u4 u5 u6 : Value) :
    (((((((W.setCell ⟨g, o, none⟩ u0).setCell ⟨g, o + 1, none⟩ u1).setCell ⟨g, o + 2, none⟩ u2).setCell ⟨g, o + 3, none⟩ u3).setCell ⟨g, o + 4, none⟩ u4).setCell ⟨g, o + 5, none⟩ u5).setCell ⟨g, o + 6, none⟩ u6).cell? ⟨g, i, none⟩ = W.cell? ⟨g, i, none⟩ := by
  have h : ∀ (W : World) (j : Nat) (v : Value), j < i → (W.setCell ⟨g, j, none⟩ v).cell? ⟨g, i, none⟩ = W.cell? ⟨g, i, none⟩ := fun W j v hj => World.cell?_setCell_other _ _ _ _ (fun e => by cases e; omega)
  rw [h _ _ _ (by omega), h _ _ _ (by omega), h _ _ _ (by omega), h _ _ _ (by omega), h _ _ _ (by omega), h _ _ _ (by omega), h _ _ _ (by omega)]
theorem OpAt.farx (W : World) {g o j : Nat} {d : OV} (h : OpAt W g j d) (hi : o + 7 ≤ j) (u0 u1 u2 u3 u4 u5 u6 : Value) :
    OpAt (((((((W.setCell ⟨g, o, none⟩ u0).setCell ⟨g, o + 1, none⟩ u1).setCell ⟨g, o + 2, none⟩ u2).setCell ⟨g, o + 3, none⟩ u3).setCell ⟨g, o + 4, none⟩ u4).setCell ⟨g, o + 5, none⟩ u5).setCell ⟨g, o + 6, none⟩ u6) g j d :=
  ⟨(set7_farx W (by omega) ..).trans h.c0, (set7_farx W (by omega) ..).trans h.c1, (set7_farx W (by omega) ..).trans h.c2, (set7_farx W (by omega) ..).trans h.c3, (set7_farx W (by omega) ..).trans h.c4, (set7_farx W (by omega) ..).trans h.c5, (set7_farx W (by omega) ..).trans h.c6⟩
theorem Out.wider {lo hi hi' : Nat} {w w' : World} (h : Out lo hi w w') (hh : hi ≤ hi') : Out lo hi' w w' :=
  ⟨h.os, h.tape, h.output, h.size, fun k hk ho => h.block k hk (by omega), fun k cur e fz hc hk => by
    by_cases h1 : k < hi
    · exact h.shape k cur e fz hc h1
    · exact ⟨cur, (h.block k (Array.getElem?_eq_some_iff.1 hc).1 (Or.inr (by omega))).trans hc, rfl⟩⟩
theorem Out.cell {lo hi : Nat} {w w' : World} (h : Out lo hi w w') {g j : Nat} {u : Value} (hc : w.cell? ⟨g, j, none⟩ = some u) (hg : g < lo ∨ hi ≤ g) : w'.cell? ⟨g, j, none⟩ = some u :=
  (World.cell?_of_block (a := ⟨g, j, none⟩) (h.block g (lt_of_cell hc) hg)).trans hc
theorem set4_block (W : World) {g : Nat} {cur : Array Value} {e : TypeId} {f : Nat × Nat} (h : W.heap[g]? = some (.cells cur e f)) (a b c d : Nat) (u0 u1 u2 u3 : Value) :
    ∃ cur' : Array Value, ((((W.setCell ⟨g, a, none⟩ u0).setCell ⟨g, b, none⟩ u1).setCell ⟨g, c, none⟩ u2).setCell ⟨g, d, none⟩ u3).heap[g]? = some (.cells cur' e f) ∧ cur'.size = cur.size := by
  have h1 := heap_set_at _ _ a u0 _ _ _ h
  have h2 := heap_set_at _ _ b u1 _ _ _ h1
  have h3 := heap_set_at _ _ c u2 _ _ _ h2
  have h4 := heap_set_at _ _ d u3 _ _ _ h3
  exact ⟨_, h4, by simp⟩
/-- What a row of one's own is in memory: a block of so many cells. -/
theorem own_block {w : World} {B : Nat} {e : TypeId} {sz n : Nat} {v : Value} {xs : List Value} (h : w.ownsRow B e sz v n xs) (h0 : 0 < n) : ∃ g c cur, v = .slice (some ⟨g, 0, none⟩) n c ∧ B ≤ g ∧ g < w.heap.size ∧ n ≤ c ∧ w.heap[g]? = some (.cells cur e (0, 0)) ∧ n * sz ≤ cur.size := by
  rcases h.2 with ⟨_, h8⟩ | ⟨g', cap', cur, h7, h8, h9, h10, h11, h12, h13⟩
  · omega
  · exact ⟨g', cap', cur, h7, h8, (Array.getElem?_eq_some_iff.1 h9).1, h10, h9, by rw [h12]; exact Nat.mul_le_mul_right _ h10⟩

theorem bearI_mem : ∀ {E : List Op5} {j c i : Nat} {e : Op5}, (bearI j E)[c]? = some (i, e) → j ≤ i ∧ E[i - j]? = some e ∧ e.k ≠ 4
  | [], j, c, i, e, h => by simp [bearI] at h
  | o :: r, j, c, i, e, h => by
    rw [bearI] at h
    split at h
    · rename_i hk
      obtain ⟨h1, h2, h3⟩ := bearI_mem h
      refine ⟨by omega, ?_, h3⟩
      rw [show i - j = (i - (j + 1)) + 1 by omega]
      simpa using h2
    · rename_i hk
      cases c with
      | zero =>
        simp only [List.getElem?_cons_zero, Option.some.injEq, Prod.mk.injEq] at h
        obtain ⟨rfl, rfl⟩ := h
        exact ⟨Nat.le_refl _, by simp, hk⟩
      | succ c =>
        obtain ⟨h1, h2, h3⟩ := bearI_mem (by simpa using h)
        refine ⟨by omega, ?_, h3⟩
        rw [show i - j = (i - (j + 1)) + 1 by omega]
        simpa using h2
theorem bearI_mem0 {E : List Op5} {c i : Nat} {e : Op5} (h : (bearI 0 E)[c]? = some (i, e)) : E[i]? = some e ∧ e.k ≠ 4 := by
  obtain ⟨_, h1, h2⟩ := bearI_mem h
  exact ⟨by simpa using h1, h2⟩

set_option maxHeartbeats 8000000 in
set_option maxRecDepth 100000 in
theorem opsMemory_any {I : List Nat} {ad : Nat → Addr} (va : Value) (A : List Op5) (w : World) (hI : ∀ i ∈ IxO, i ∈ I) (hS : Std I ad w) (hN : Sent ad w) (ra : ReO w va A) (fA : FitL A) (lA : A.length ≤ 1048576) :
    Calls Tryd.prog 5 #[va] w fun r w' => r = .returned (.bool true) ∧ Below w.heap.size w w' := by
  have cF := fixed5_any w hI hS
  have cD : Hid (∀ W, Below w.heap.size w W → Calls Tryd.prog 8 #[va] W fun r w' => ∃ v', r = .returned v' ∧ CoO w' W.heap.size v' A ∧ Below W.heap.size W w') := fun W hW => copied5_any va A W (ra.below hW) lA (fun e he => (fA e he).n)
  have cO : Hid (∀ v W, Below w.heap.size w W → ReO W v A → Calls Tryd.prog 12 #[v] W fun r w' => ∃ v', r = .returned (.tuple #[v', .int .i64 (badP A).1, errOf ad (badP A).2]) ∧ ((badP A).2 = 0 → ∃ P, OwnI w' W.heap.size v' P ∧ PieD w' W.heap.size P A) ∧ ((badP A).2 ≠ 0 → v' = .slice none 0 0) ∧ Below W.heap.size W w') := fun v W hW hv => of_any v A W hI (hS.below hW) hv fA lA
  have cE : Hid (∀ v W, Below w.heap.size w W → ReO W v A → Calls Tryd.prog 13 #[v] W fun r w' => ∃ v1 v2, r = .returned (.tuple #[v1, v2, errOf ad (badP A).2]) ∧ ((badP A).2 = 0 → ∃ P, OwnB w' W.heap.size v1 P ∧ PieD w' W.heap.size P ((bearI 0 A).map (·.2)) ∧ OwnZ w' W.heap.size v2 ((bearI 0 A).map fun x => .int .i64 x.1)) ∧ ((badP A).2 ≠ 0 → v1 = .slice none 0 0 ∧ v2 = .slice none 0 0) ∧ Below W.heap.size W w') := fun v W hW hv => bearers_any v A W hI (hS.below hW) hv fA lA
  have cN : Hid (∀ W, Below w.heap.size w W → Calls Tryd.prog 9 #[errOf ad (badP A).2] W fun r w' => r = .returned (.int .i64 (badP A).2) ∧ Below W.heap.size W w') := fun W hW => num_of (hN.below hW) _ (badP_le A)
  have cQ : Hid (∀ v W, Below w.heap.size w W → ReO W v A → Calls Tryd.prog 14 #[v, va] W fun r w' => r = .returned (.bool true) ∧ Below W.heap.size W w') := fun v W hW hv => by
    have := sameQ_any v va A A W hv (ra.below hW) (Nat.le_trans lA (by decide)) (Nat.le_trans lA (by decide)) (fun e he => (fA e he).n) (fun e he => (fA e he).n)
    rw [decide_eq_true rfl] at this
    exact this
  have HR : Hid (ReO w va A ∧ FitL A) := ⟨ra, fA⟩
  obtain ⟨n, hn⟩ : ∃ n, A.length = n := ⟨_, rfl⟩
  obtain ⟨pa, ca, rfl, hca⟩ : ∃ p c, va = .slice p n c ∧ n ≤ c := by
    obtain ⟨D, ⟨p, c, h1, h2, _⟩, hre⟩ := ra
    have := forall2_len hre
    exact ⟨p, c, by rw [h1, this, hn], by omega⟩
  have hl : n ≤ 1048576 := by omega
  have HN : Hid (A.length = n) := hn
  have HG : Hid ((badP A).2 = 0 → ∀ o ∈ A, opE o = 0) := fun h => bad_zero.1 h
  obtain ⟨bi, hbi⟩ : ∃ x : Int, (((badP A).1 : Nat) : Int) = x := ⟨_, rfl⟩
  obtain ⟨be, hbe⟩ : ∃ x, (badP A).2 = x := ⟨_, rfl⟩
  rw [hbi, hbe] at cO
  rw [hbe] at cE cN HG
  clear hS hN hI ra fA lA hn hbi hbe
  cases be with
  | succ x =>
    simp only [errOf_succ] at cO cE cN
    obtain ⟨z, hz⟩ : ∃ z : Int, ((x + 1 : Nat) : Int) = z := ⟨_, rfl⟩
    rw [hz] at cN
    clear hz
    go_enter Tryd.func5, Tryd.ntmps5
    go_wp2_with fail
    refine cF.mono ?_; rintro r w1 ⟨rfl, h1⟩
    clear cF
    go_wp2_with fail
    refine (cD.out _ h1).mono ?_; rintro r w2 ⟨v3, rfl, hco, g2⟩
    have h2 := h1.trans (g2.mono h1.size)
    have R2 := hco.re
    clear g2 h1 hco
    go_wp2_with fail
    refine (cO.out _ _ h2 R2).mono ?_; rintro r w3 ⟨v4, rfl, _, hv4, g3⟩
    have h3 := h2.trans (g3.mono h2.size)
    have R3 := R2.below g3
    obtain rfl := hv4 (by omega)
    clear g3 h2 hv4 R2
    go_wp2_with fail
    refine (cO.out _ _ h3 R3).mono ?_; rintro r w4 ⟨v7, rfl, _, hv7, g4⟩
    have h4 := h3.trans (g4.mono h3.size)
    have R4 := R3.below g4
    obtain rfl := hv7 (by omega)
    clear g4 h3 hv7 R3
    go_wp2_with fail
    refine (cE.out _ _ h4 R4).mono ?_; rintro r w5 ⟨v8, v9, rfl, _, hv8, g5⟩
    have h5 := h4.trans (g5.mono h4.size)
    have R5 := R4.below g5
    obtain ⟨rfl, rfl⟩ := hv8 (by omega)
    clear g5 h4 hv8 R4
    go_wp2_with fail
    refine (cN.out _ h5).mono ?_; rintro r w6 ⟨rfl, g6⟩
    have h6 := h5.trans (g6.mono h5.size)
    have R6 := R5.below g6
    clear g6 h5 R5
    go_wp2_with fail
    refine (cN.out _ h6).mono ?_; rintro r w7 ⟨rfl, g7⟩
    have h7 := h6.trans (g7.mono h6.size)
    have R7 := R6.below g7
    clear g7 h6 R6
    go_wp2_with fail
    refine (cN.out _ h7).mono ?_; rintro r w8 ⟨rfl, g8⟩
    have h8 := h7.trans (g8.mono h7.size)
    have R8 := R7.below g8
    clear g8 h7 R7
    go_wp2_with fail
    refine (cN.out _ h8).mono ?_; rintro r w9 ⟨rfl, g9⟩
    have h9 := h8.trans (g9.mono h8.size)
    have R9 := R8.below g9
    clear g9 h8 R8
    go_wp2_with fail
    refine (cQ.out _ _ h9 R9).mono ?_; rintro r wA ⟨rfl, gA⟩
    have hA := h9.trans (gA.mono h9.size)
    clear gA h9 R9
    go_wp2
    go_ret
    exact ⟨rfl, hA⟩
  | zero =>
    simp only [errOf_zero] at cO cE cN
    go_enter Tryd.func5, Tryd.ntmps5
    go_wp2_with fail
    refine cF.mono ?_; rintro r w1 ⟨rfl, h1⟩
    clear cF
    have hw1 : Hid (Below w.heap.size w w1) := h1
    go_wp2_with fail
    refine (cD.out _ h1).mono ?_; rintro r w2 ⟨v3, rfl, hco, g2⟩
    have h2 := h1.trans (g2.mono h1.size)
    have R2 := hco.re
    obtain ⟨D, hD1, hD2⟩ := hco
    have hDl : D.length = n := (forall2_len hD2).trans HN.out
    obtain ⟨p3, c3, rfl⟩ := own_slice hD1
    have X2 : Hid (OwnO w2 w1.heap.size (.slice p3 D.length c3) D ∧ OwD w2 w1.heap.size D A ∧ D.length = n ∧ w1.heap.size ≤ w2.heap.size) := ⟨hD1, hD2, hDl, g2.size⟩
    rw [hDl] at R2 ⊢
    clear g2 h1 hD1 hD2 hDl
    go_wp2_with fail
    refine (cO.out _ _ h2 R2).mono ?_; rintro r w3 ⟨v4, rfl, hok, _, g3⟩
    have h3 := h2.trans (g3.mono h2.size)
    have R3 := R2.below g3
    obtain ⟨Pa, hP1, hP2⟩ := hok (by simp)
    obtain ⟨p4, c4, rfl⟩ := own_slice hP1
    have hPl : Pa.length = n := (forall2_len hP2).trans HN.out
    have X3 : Hid (OwnI w3 w2.heap.size (.slice p4 Pa.length c4) Pa ∧ PieD w3 w2.heap.size Pa A ∧ Pa.length = n ∧ Below w2.heap.size w2 w3) := ⟨hP1, hP2, hPl, g3⟩
    rw [hPl]
    clear g3 h2 R2 hok hP1 hP2 hPl
    go_wp2_with fail
    refine (cO.out _ _ h3 R3).mono ?_; rintro r w4 ⟨v7, rfl, hok, _, g4⟩
    have h4 := h3.trans (g4.mono h3.size)
    have R4 := R3.below g4
    obtain ⟨Pb, hP1, hP2⟩ := hok (by simp)
    obtain ⟨p7, c7, rfl⟩ := own_slice hP1
    have hPl : Pb.length = n := (forall2_len hP2).trans HN.out
    have X4 : Hid (OwnI w4 w3.heap.size (.slice p7 Pb.length c7) Pb ∧ PieD w4 w3.heap.size Pb A ∧ Pb.length = n ∧ Below w3.heap.size w3 w4) := ⟨hP1, hP2, hPl, g4⟩
    rw [hPl]
    clear g4 h3 R3 hok hP1 hP2 hPl
    go_wp2_with fail
    refine (cE.out _ _ h4 R4).mono ?_; rintro r w5 ⟨v8, v9, rfl, hok, _, g5⟩
    have h5 := h4.trans (g5.mono h4.size)
    have R5 := R4.below g5
    obtain ⟨PB, hB1, hB2, hB3⟩ := hok (by simp)
    obtain ⟨p8, c8, rfl⟩ := own_slice hB1
    obtain ⟨p9, c9, rfl⟩ := own_slice hB3
    obtain ⟨nb, hnb⟩ : ∃ x, PB.length = x := ⟨_, rfl⟩
    have hBl : (bearI 0 A).length = nb := by have := forall2_len hB2; rw [List.length_map] at this; omega
    have hBm : ((bearI 0 A).map fun x => Value.int .i64 x.1).length = nb := by rw [List.length_map]; exact hBl
    have hnn : nb ≤ 1048576 := by have := bearI_len A 0; have := HN.out; omega
    have X5 : Hid (OwnB w5 w4.heap.size (.slice p8 PB.length c8) PB ∧ PieD w5 w4.heap.size PB ((bearI 0 A).map (·.2)) ∧ OwnZ w5 w4.heap.size (.slice p9 ((bearI 0 A).map fun x => Value.int .i64 x.1).length c9) ((bearI 0 A).map fun x => .int .i64 x.1) ∧ PB.length = nb ∧ (bearI 0 A).length = nb ∧ Below w4.heap.size w4 w5) := ⟨hB1, hB2, hB3, hnb, hBl, g5⟩
    rw [hnb, hBm]
    clear g5 h4 R4 hok hB1 hB2 hB3 hnb hBl hBm
    go_wp2_with fail
    refine (cN.out _ h5).mono ?_; rintro r w6 ⟨rfl, g6⟩
    have h6 := h5.trans (g6.mono h5.size)
    have R6 := R5.below g6
    clear R5
    go_wp2_with fail
    refine (cN.out _ h6).mono ?_; rintro r w7 ⟨rfl, g7⟩
    have h7 := h6.trans (g7.mono h6.size)
    have R7 := R6.below g7
    have j7 := g6.trans (g7.mono g6.size)
    clear g7 h6 R6 g6
    go_wp2_with fail
    refine (cN.out _ h7).mono ?_; rintro r w8 ⟨rfl, g8⟩
    have h8 := h7.trans (g8.mono h7.size)
    have R8 := R7.below g8
    have j8 := j7.trans (g8.mono j7.size)
    clear g8 h7 R7 j7
    go_wp2_with fail
    refine (cN.out _ h8).mono ?_; rintro r w9 ⟨rfl, g9⟩
    have h9 := h8.trans (g9.mono h8.size)
    have R9 := R8.below g9
    have j9 := j8.trans (g9.mono j8.size)
    clear g9 h8 R8 j8
    go_wp2_with fail
    refine (cQ.out _ _ h9 R9).mono ?_; rintro r wA ⟨rfl, gA⟩
    have hA := h9.trans (gA.mono h9.size)
    have jA : Hid (Below w5.heap.size w5 wA) := j9.trans (gA.mono j9.size)
    have HA5 : Hid (Below w.heap.size w w5 ∧ Below w.heap.size w wA) := ⟨h5, hA⟩
    have hm1 : Hid (w1.heap.size ≤ w2.heap.size ∧ w2.heap.size ≤ w3.heap.size ∧ w3.heap.size ≤ w4.heap.size ∧ w4.heap.size ≤ w5.heap.size ∧ w5.heap.size ≤ wA.heap.size) := ⟨X2.out.2.2.2, X3.out.2.2.2.size, X4.out.2.2.2.size, X5.out.2.2.2.2.2.size, jA.out.size⟩
    have b2A : Hid (Below w2.heap.size w2 wA) := (X3.out.2.2.2.trans ((X4.out.2.2.2.trans ((X5.out.2.2.2.2.2.trans (jA.out.mono X5.out.2.2.2.2.2.size)).mono X4.out.2.2.2.size)).mono X3.out.2.2.2.size))
    have b3A : Hid (Below w3.heap.size w3 wA) := (X4.out.2.2.2.trans ((X5.out.2.2.2.2.2.trans (jA.out.mono X5.out.2.2.2.2.2.size)).mono X4.out.2.2.2.size))
    have b4A : Hid (Below w4.heap.size w4 wA) := (X5.out.2.2.2.2.2.trans (jA.out.mono X5.out.2.2.2.2.2.size))
    clear gA h9 R9 j9 h5 hA cO cE cN cQ cD
    have hc3 : n ≤ c3 := by
      have := own_rowO X2.out.1
      obtain ⟨p, c, hv, hle, _⟩ := this
      simp only [Value.slice.injEq] at hv
      rw [X2.out.2.2.1] at hle
      omega
    have HB : Hid (0 < n → ∃ g, p3 = some ⟨g, 0, none⟩ ∧ w1.heap.size ≤ g ∧ g < w2.heap.size ∧ (∃ cur, wA.heap[g]? = some (.cells cur 37 (0, 0)) ∧ n * 7 ≤ cur.size) ∧ ∀ j d, D[j]? = some d → OpAt wA g (0 + j * 7) d) := fun h0 => by
      obtain ⟨g, c, cur, hv, hg1, hg2, _, hg3, hg4⟩ := own_block X2.out.1 (by rw [X2.out.2.2.1]; exact h0)
      simp only [Value.slice.injEq] at hv
      obtain ⟨rfl, -, rfl⟩ := hv
      refine ⟨g, rfl, hg1, hg2, ⟨cur, (b2A.out.block g hg2).trans hg3, by rw [X2.out.2.2.1] at hg4; exact hg4⟩, fun j d hd => (own_opAt X2.out.1 j d hd).below b2A.out⟩
    go_wp2_with fail
    go_loopw [13, 14, 67] (fun _ _ i wr => ∃ (k : Nat), k ≤ n ∧ i = .int .i64 k ∧ Hid (Out w1.heap.size w2.heap.size wA wr) ∧ Hid (∀ j d, k ≤ j → D[j]? = some d → ∃ g, p3 = some ⟨g, 0, none⟩ ∧ OpAt wr g (0 + j * 7) d)) (fun _ _ i _ => n - (RowKit.intOf i).toNat)
    case atStart => exact ⟨0, Nat.zero_le _, rfl, Out.refl _ _ _, fun j d _ hd => by
      obtain ⟨g, hg, _, _, _, h4⟩ := HB.out (by have := (List.getElem?_eq_some_iff.1 hd).1; have := X2.out.2.2.1; omega)
      exact ⟨g, hg, h4 j d hd⟩⟩
    case round =>
      obtain ⟨k, hk, rfl, ho, H⟩ := hrel
      by_cases hlt : k < n
      · have hltI : (k : Int) < n := by omega
        obtain ⟨d, hd⟩ : ∃ d, D[k]? = some d := ⟨_, List.getElem?_eq_getElem (by rw [X2.out.2.2.1]; exact hlt)⟩
        obtain ⟨e, he, hr⟩ := forall2_get X2.out.2.1 k d hd
        obtain ⟨g, rfl, hg1, hg2, hgB, hgO⟩ := HB.out (by omega)
        obtain ⟨c0, c1, c2, c33, c4', c5, c6⟩ := (by
          obtain ⟨g', hg', hat⟩ := H.out k d (Nat.le_refl _) hd
          obtain rfl : g = g' := by simpa using hg'
          exact hat : OpAt wr g (0 + k * 7) d)
        obtain ⟨m, hm⟩ : ∃ m, e.A.length = m := ⟨_, rfl⟩
        have hml : m ≤ 1048576 := by rw [← hm]; exact (HR.out.2 e (List.mem_of_getElem? he)).n
        rw [Nat.zero_add] at c0 c1 c2 c33 c4' c5 c6
        have HD : Hid (OpAt wA g (0 + k * 7) d ∧ D[k]? = some d) := ⟨hgO k d hd, hd⟩
        have hos : OwnA w2 w1.heap.size (slV d.2.2.2.2) e.A := hr.2.2.2.2
        clear hd he hr hgO c0 c1 c2 c33 c4' c5
        obtain ⟨dk, dt, ⟨dx, dn, du⟩, dc, dp, dl, dcap⟩ := d
        simp only [slV] at c6 hos
        obtain rfl : dl = m := by
          obtain ⟨pp, qq, hv⟩ := own_slice hos
          simp only [Value.slice.injEq] at hv
          omega
        have HA : Hid (0 < dl → ∃ ga, dp = some ⟨ga, 0, none⟩ ∧ w1.heap.size ≤ ga ∧ ga < w2.heap.size ∧ ga ≠ g ∧ ∀ W, Out w1.heap.size w2.heap.size wA W → ∀ i, i < dl * 4 → (∃ u, W.cell? ⟨ga, i, none⟩ = some u) ∧ W.frozen? ⟨ga, i, none⟩ = false) := fun h0 => by
          obtain ⟨ga, c, cur, hv, hq1, hq2, _, hq3, hq4⟩ := own_block hos (by rw [hm]; exact h0)
          simp only [Value.slice.injEq] at hv
          obtain ⟨rfl, -, rfl⟩ := hv
          rw [hm] at hq4
          have hq5 := (b2A.out.block ga hq2).trans hq3
          refine ⟨ga, rfl, hq1, hq2, fun hg => ?_, fun W hW i hi => ?_⟩
          · subst hg
            obtain ⟨cur', hb, _⟩ := hgB
            rw [hb] at hq5
            simp only [Option.some.injEq, Obj.cells.injEq] at hq5
            exact absurd hq5.2.1 (by decide)
          · obtain ⟨cur', hb, hs⟩ := hW.shape ga cur _ _ hq5 hq2
            exact ⟨cell_atx hb i (by rw [hs]; omega), frozen_of_row W ga i cur' _ hb⟩
        have HG1 : Hid (w1.heap.size ≤ g ∧ g < w2.heap.size ∧ ∃ cur, wA.heap[g]? = some (.cells cur 37 (0, 0)) ∧ n * 7 ≤ cur.size) := ⟨hg1, hg2, hgB⟩
        clear hm hos hg1 hg2 hgB
        go_wp2_with fail
        go_loopw [14, 76] (fun _ i wr => ∃ (l : Nat), l ≤ dl ∧ i = .int .i64 l ∧ Hid (Out w1.heap.size w2.heap.size wA wr) ∧ Hid (∀ j d, k ≤ j → D[j]? = some d → ∃ g', some (⟨g, 0, none⟩ : Addr) = some ⟨g', 0, none⟩ ∧ OpAt wr g' (0 + j * 7) d) ∧ wr.cell? ⟨g, k * 7 + 6, none⟩ = some (.slice dp dl dcap)) (fun _ i _ => dl - (RowKit.intOf i).toNat)
        case atStart => exact ⟨0, Nat.zero_le _, rfl, ho, H, c6⟩
        case round =>
          clear ho H c6
          obtain ⟨l, hlm, rfl, ho, H, c6⟩ := hrel
          by_cases hlt2 : l < dl
          · have hltI2 : (l : Int) < dl := by omega
            obtain ⟨ga, rfl, hg1, hg2, hg3, hgc⟩ := HA.out (by omega)
            obtain ⟨⟨u0, e0⟩, f0⟩ := hgc _ ho.out (l * 4) (by omega)
            obtain ⟨⟨u1, e1⟩, f1⟩ := hgc _ ho.out (l * 4 + 1) (by omega)
            obtain ⟨⟨u2, e2⟩, f2⟩ := hgc _ ho.out (l * 4 + 2) (by omega)
            obtain ⟨⟨u3', e3⟩, f3⟩ := hgc _ ho.out (l * 4 + 3) (by omega)
            have hg4 : ¬ ga = g := hg3
            have hg5 : ¬ g = ga := fun h => hg3 h.symm
            have HG : Hid (w1.heap.size ≤ ga ∧ ga < w2.heap.size ∧ g ≠ ga) := ⟨hg1, hg2, hg5⟩
            clear hgc hg1 hg2 hg3
            go_wp2_with fail
            go_roundw
            case rel =>
              refine ⟨l + 1, by omega, by go_num, out_set4x ho.out HG.out.1 HG.out.2.1 _ _ _ _ _ _ _ _, fun j d hj hd => ?_, (set4_otherx _ HG.out.2.2 _ _ _ _ _ _ _ _ _).trans c6⟩
              obtain ⟨g', hg', hat⟩ := H.out j d hj hd
              refine ⟨g', hg', hat.same fun i => ?_⟩
              obtain rfl : g = g' := by simpa using hg'
              exact set4_otherx _ HG.out.2.2 _ _ _ _ _ _ _ _ _
            case measure => simp [RowKit.intOf]; omega
          · have hltI2 : ¬ (l : Int) < dl := by omega
            have fr : ∀ i, i < n * 7 → (∃ u, wr.cell? ⟨g, i, none⟩ = some u) ∧ wr.frozen? ⟨g, i, none⟩ = false := fun i hi' => by
              obtain ⟨cur, h1, h2⟩ := HG1.out.2.2
              obtain ⟨cur', h3, h4⟩ := ho.out.shape g cur _ _ h1 HG1.out.2.1
              exact ⟨cell_atx h3 i (by omega), frozen_of_row wr g i cur' _ h3⟩
            obtain ⟨⟨u0, e0⟩, f0⟩ := fr (k * 7) (by omega)
            obtain ⟨⟨u1, e1⟩, f1⟩ := fr (k * 7 + 1) (by omega)
            obtain ⟨⟨u2, e2⟩, f2⟩ := fr (k * 7 + 2) (by omega)
            obtain ⟨⟨u3', e3⟩, f3⟩ := fr (k * 7 + 3) (by omega)
            obtain ⟨⟨u4', e4⟩, f4⟩ := fr (k * 7 + 4) (by omega)
            obtain ⟨⟨u5', e5⟩, f5⟩ := fr (k * 7 + 5) (by omega)
            obtain ⟨-, f6⟩ := fr (k * 7 + 6) (by omega)
            clear fr
            go_wp2_with fail
            go_roundw
            case rel =>
              refine ⟨k + 1, by omega, by go_num, ?_, fun j d hj hd => ?_⟩
              · exact out_set7x ho.out HG1.out.1 HG1.out.2.1 _ _ _ _ _ _ _ _
              · obtain ⟨g', hg', hat⟩ := H.out j d (by omega) hd
                refine ⟨g', hg', ?_⟩
                obtain rfl : g = g' := by simpa using hg'
                exact OpAt.farx _ hat (by omega) _ _ _ _ _ _ _
            case measure => simp [RowKit.intOf]; omega
      · have hltI : ¬ (k : Int) < n := by omega
        clear HB H
        have hA0 : Hid (∀ j x, Pa[j]? = some x → ∃ g, p4 = some ⟨g, 0, none⟩ ∧ w2.heap.size ≤ g ∧ g < w3.heap.size ∧ wA.cell? ⟨g, j, none⟩ = some x ∧ ∀ W, Out w1.heap.size w3.heap.size wA W → W.frozen? ⟨g, j, none⟩ = false) := fun j x hx => by
          have hj := (List.getElem?_eq_some_iff.1 hx).1
          obtain ⟨g, c, y, hv, hq1, hy, hc⟩ := own_cell X3.out.1 j (by omega)
          obtain rfl : x = y := Option.some.inj (hx.symm.trans hy)
          obtain ⟨g', c', cur, hv', _, hq2, _, hq3, _⟩ := own_block X3.out.1 (by omega)
          obtain rfl : g = g' := by rw [hv] at hv'; simp only [Value.slice.injEq, Option.some.injEq, Addr.mk.injEq, and_true, true_and] at hv'; exact hv'.1
          simp only [Value.slice.injEq] at hv
          refine ⟨g, hv.1, hq1, hq2, (b3A.out.cell hq2).trans hc, fun W hW => ?_⟩
          obtain ⟨cur', hb, _⟩ := hW.shape g cur _ _ ((b3A.out.block g hq2).trans hq3) hq2
          exact frozen_of_row W g j cur' _ hb
        have hB0 : Hid (∀ j x, Pb[j]? = some x → ∃ g, p7 = some ⟨g, 0, none⟩ ∧ w3.heap.size ≤ g ∧ g < w4.heap.size ∧ ∀ W, Out w1.heap.size w3.heap.size wA W → W.cell? ⟨g, j, none⟩ = some x) := fun j x hx => by
          have hj := (List.getElem?_eq_some_iff.1 hx).1
          obtain ⟨g, c, y, hv, hq1, hy, hc⟩ := own_cell X4.out.1 j (by omega)
          obtain rfl : x = y := Option.some.inj (hx.symm.trans hy)
          simp only [Value.slice.injEq] at hv
          exact ⟨g, hv.1, hq1, lt_of_cell hc, fun W hW => hW.cell ((b4A.out.cell (lt_of_cell hc)).trans hc) (Or.inr hq1)⟩
        have hc4 : n ≤ c4 ∧ n ≤ c7 ∧ nb ≤ c8 ∧ nb ≤ c9 := by
          have q1 := X3.out.1.2
          have q2 := X4.out.1.2
          have q3 := X5.out.1.2
          have q4 := X5.out.2.2.1.2
          have l1 := X3.out.2.2.1
          have l2 := X4.out.2.2.1
          have l3 := X5.out.2.2.2.1
          have l4 : ((bearI 0 A).map fun x => Value.int .i64 x.1).length = nb := by rw [List.length_map]; exact X5.out.2.2.2.2.1
          refine ⟨?_, ?_, ?_, ?_⟩
          · rcases q1 with ⟨_, h⟩ | ⟨_, _, _, h, _, _, h2, _⟩
            · omega
            · simp only [Value.slice.injEq] at h; omega
          · rcases q2 with ⟨_, h⟩ | ⟨_, _, _, h, _, _, h2, _⟩
            · omega
            · simp only [Value.slice.injEq] at h; omega
          · rcases q3 with ⟨_, h⟩ | ⟨_, _, _, h, _, _, h2, _⟩
            · omega
            · simp only [Value.slice.injEq] at h; omega
          · rcases q4 with ⟨_, h⟩ | ⟨_, _, _, h, _, _, h2, _⟩
            · omega
            · simp only [Value.slice.injEq] at h; omega
        obtain ⟨hc4, hc7, hc8, hc9⟩ := hc4
        have ho2 : Hid (Out w1.heap.size w3.heap.size wA wr) := ho.out.wider hm1.out.2.1
        have H2 : Hid (∀ j x, 0 ≤ j → Pa[j]? = some x → ∃ g, p4 = some ⟨g, 0, none⟩ ∧ wr.cell? ⟨g, j, none⟩ = some x) := fun j x _ hx => by
          obtain ⟨g, hg, hq1, hq2, hc, _⟩ := hA0.out j x hx
          exact ⟨g, hg, ho.out.cell hc (Or.inr hq1)⟩
        clear ho
        go_wp2_with fail
        go_loopw [15, 95] (fun _ i wr => ∃ (k : Nat), k ≤ n ∧ i = .int .i64 k ∧ Hid (Out w1.heap.size w3.heap.size wA wr) ∧ Hid (∀ j x, k ≤ j → Pa[j]? = some x → ∃ g, p4 = some ⟨g, 0, none⟩ ∧ wr.cell? ⟨g, j, none⟩ = some x)) (fun _ i _ => n - (RowKit.intOf i).toNat)
        case atStart => exact ⟨0, Nat.zero_le _, rfl, ho2, H2⟩
        case round =>
          clear ho2 H2
          obtain ⟨k, hk, rfl, ho, H⟩ := hrel
          by_cases hlt : k < n
          · have hltI : (k : Int) < n := by omega
            obtain ⟨x, hx⟩ : ∃ x, Pa[k]? = some x := ⟨_, List.getElem?_eq_getElem (by rw [X3.out.2.2.1]; exact hlt)⟩
            obtain ⟨y, hy⟩ : ∃ x, Pb[k]? = some x := ⟨_, List.getElem?_eq_getElem (by rw [X4.out.2.2.1]; exact hlt)⟩
            obtain ⟨e, s, _, hxe, _⟩ := oneI X3.out.2.1 hx
            obtain ⟨e', s', _, hye, _⟩ := oneI X4.out.2.1 hy
            obtain ⟨u1, x1, hu1⟩ := pieceQ_if e s
            obtain ⟨u2, x2, hu2⟩ := pieceQ_if e' s'
            obtain ⟨g, rfl, hq1, hq2, _, hf⟩ := hA0.out k x hx
            obtain ⟨g', rfl, hq3, _, hcb⟩ := hB0.out k y hy
            have f0 := hf _ ho.out
            have cb := hcb _ ho.out
            obtain ⟨c0, HH⟩ : wr.cell? ⟨g, k, none⟩ = some x ∧ True := ⟨by
              obtain ⟨g9, hg9, hc⟩ := H.out k x (Nat.le_refl _) hx
              obtain rfl : g = g9 := by simpa using hg9
              exact hc, trivial⟩
            rw [hxe, hu1] at c0
            rw [hye, hu2] at cb
            have HG : Hid (w2.heap.size ≤ g ∧ g < w3.heap.size) := ⟨hq1, hq2⟩
            clear hx hy hxe hye hu1 hu2 hf hcb hq1 hq2 hq3 HH
            go_wp2_with fail
            go_roundw
            case rel =>
              refine ⟨k + 1, by omega, by go_num, ho.out.setCell g k _ (Nat.le_trans hm1.out.1 HG.out.1) HG.out.2, fun j x hj hx => ?_⟩
              obtain ⟨g9, hg9, hc⟩ := H.out j x (by omega) hx
              refine ⟨g9, hg9, ?_⟩
              rw [World.cell?_setCell_other _ _ _ _ (fun e => by cases e; omega)]
              exact hc
            case measure => simp [RowKit.intOf]; omega
          · have hltI : ¬ (k : Int) < n := by omega
            clear H hA0
            obtain ⟨wB, rfl⟩ : ∃ W, W = wr := ⟨_, rfl⟩
            have HBB : Hid (Below w.heap.size w wB) := (HA5.out.2.trans ((ho.out.below (by have := hm1.out; omega)).mono hw1.out.size))
            have hAo : Hid (∀ {B : Nat} {v : Value} {L : List A2}, w3.heap.size ≤ B → OwnA wA B v L → OwnA wB B v L) := fun hB h => ho.out.own hB h
            have HV : Hid (∀ i, i < n → ∃ d e b off ga s, pa = some ⟨b, off, none⟩ ∧ OpAt wB b (off + i * 7) d ∧ A[i]? = some e ∧ ovV d = opV e (slV d.2.2.2.2) ∧ d.1 = e.k ∧ RN wB (slV d.2.2.2.2) e.A ∧ p7 = some ⟨ga, 0, none⟩ ∧ wB.cell? ⟨ga, i, none⟩ = some (pieceQ e s) ∧ RN wB s e.A ∧ opE e = 0 ∧ Fit e) := fun i hi => by
              obtain ⟨DD, ⟨p, c, hv, _, _, hat⟩, hre⟩ := HR.out.1.below HBB.out
              have hDl : DD.length = n := (forall2_len hre).trans HN.out
              simp only [Value.slice.injEq] at hv
              obtain ⟨d, hd⟩ : ∃ d, DD[i]? = some d := ⟨_, List.getElem?_eq_getElem (by omega)⟩
              obtain ⟨e, he, hr⟩ := forall2_get hre i d hd
              obtain ⟨b, off, hb, hod⟩ := hat i d hd
              obtain ⟨x, hx⟩ : ∃ x, Pb[i]? = some x := ⟨_, List.getElem?_eq_getElem (by rw [X4.out.2.2.1]; exact hi)⟩
              obtain ⟨e', s, he', rfl, hos⟩ := oneI X4.out.2.1 hx
              obtain rfl : e = e' := Option.some.inj (he.symm.trans he')
              obtain ⟨ga, hga, _, _, hcb⟩ := hB0.out i _ hx
              have hm := List.mem_of_getElem? he
              exact ⟨d, e, b, off, ga, s, hv.1.trans hb, hod, he, opV_of hr, hr.1, hr.2.2.2.2, hga, hcb _ ho.out, own_RN (hAo.out (Nat.le_refl _) (owns_below hos b4A.out)), HG.out (by trivial) e hm, HR.out.2 e hm⟩
            have HW : Hid (∀ c, c < nb → ∃ i e gb gz s, i < n ∧ A[i]? = some e ∧ (e.k = 1 ∨ e.k = 2 ∨ e.k = 3) ∧ p8 = some ⟨gb, 0, none⟩ ∧ p9 = some ⟨gz, 0, none⟩ ∧ wB.cell? ⟨gb, c, none⟩ = some (pieceQ e s) ∧ wB.cell? ⟨gz, c, none⟩ = some (.int .i64 (i : Nat)) ∧ RN wB s e.A) := fun c hc => by
              obtain ⟨gb, c', x, hv', hB, hx, hcx⟩ := own_cell X5.out.1 c (by have := X5.out.2.2.2.1; omega)
              obtain ⟨e, s, he, rfl, hos⟩ := oneI X5.out.2.1 hx
              obtain ⟨gz, c'', y, hv'', hZ, hy, hcz⟩ := own_cell X5.out.2.2.1 c (by rw [List.length_map]; have := X5.out.2.2.2.2.1; omega)
              rw [List.getElem?_map] at he hy
              obtain ⟨⟨i, e0⟩, h0⟩ : ∃ q, (bearI 0 A)[c]? = some q := ⟨_, List.getElem?_eq_getElem (by have := X5.out.2.2.2.2.1; omega)⟩
              rw [h0] at he hy
              obtain rfl : e0 = e := by simpa using he
              obtain rfl : Value.int .i64 (i : Nat) = y := by simpa using hy
              obtain ⟨h1, h2⟩ := bearI_mem0 h0
              simp only [Value.slice.injEq] at hv' hv''
              have hge := HG.out (by trivial) e0 (List.mem_of_getElem? h1)
              refine ⟨i, e0, gb, gz, s, ?_, h1, ?_, hv'.1, hv''.1, ho.out.cell ((jA.out.cell (lt_of_cell hcx)).trans hcx) (Or.inr (Nat.le_trans hm1.out.2.2.1 hB)), ho.out.cell ((jA.out.cell (lt_of_cell hcz)).trans hcz) (Or.inr (Nat.le_trans hm1.out.2.2.1 hZ)), own_RN (hAo.out hm1.out.2.2.1 (owns_below hos jA.out))⟩
              · have := (List.getElem?_eq_some_iff.1 h1).1; have := HN.out; omega
              · rcases kinds_of hge with h | h | h | h
                · exact Or.inl h
                · exact Or.inr (Or.inl h)
                · exact Or.inr (Or.inr h)
                · exact absurd h h2
            clear ho hB0 hAo X2 X3 X4 X5 HA5 b2A b3A b4A jA hm1 hw1
            go_wp2_with fail
            go_loopw [17, 18, 19, 118] (fun _ _ _ i wr => ∃ (k : Nat), k ≤ nb ∧ i = .int .i64 k ∧ Below wB.heap.size wB wr) (fun _ _ _ i _ => nb - (RowKit.intOf i).toNat)
            case atStart => exact ⟨0, Nat.zero_le _, rfl, Below.refl _ _⟩
            case round =>
              obtain ⟨k, hk, rfl, hbw⟩ := hrel
              by_cases hlt : k < nb
              · have hltI : (k : Int) < nb := by omega
                obtain ⟨i, e, gb, gz, s, hi, he, hkk, rfl, rfl, hcb, hcz, hrn⟩ := HW.out k hlt
                have cb := (hbw.cell (lt_of_cell hcb)).trans hcb
                have hAl : e.A.length ≤ 1048576 := (HR.out.2 e (List.mem_of_getElem? he)).n
                obtain ⟨ps, ls, cs, rfl⟩ : ∃ p l c, s = .slice p l c := by obtain ⟨p, c, h, _⟩ := hrn.row.val; exact ⟨_, _, _, h⟩
                have cAt := attributes_any (.slice ps ls cs) e.A wr (hrn.below hbw).row (hrn.below hbw).nz (by omega)
                obtain ⟨m, hm⟩ : ∃ m, e.A.length = m := ⟨_, rfl⟩
                have HM : Hid (e.A.length = m) := hm
                rw [hm] at hAl
                clear hcb hcz hi he hm
                rcases hkk with h | h | h
                · rw [pieceQ_1 h] at cb
                  obtain ⟨nn, hnn⟩ : ∃ x : Int, ((scs e.t.data.toList).length : Int) = x := ⟨_, rfl⟩
                  rw [hnn] at cb
                  clear hnn
                  clear h
                  go_wp2_with fail
                  refine cAt.mono ?_; rintro r wG ⟨vA, rfl, oA, bG⟩
                  obtain ⟨pA, cA, rfl⟩ := own_slice oA
                  have bW := hbw.trans (bG.mono hbw.size)
                  have HQ : Hid (0 < m → ∃ gl cur, pA = some ⟨gl, 0, none⟩ ∧ wB.heap.size ≤ gl ∧ wG.heap[gl]? = some (.cells cur 48 (0, 0)) ∧ m * 4 ≤ cur.size) := fun h0 => by
                    obtain ⟨gl, c, cur, hv, hq1, _, _, hq3, hq4⟩ := own_block oA (by have := HM.out; omega)
                    simp only [Value.slice.injEq] at hv
                    exact ⟨gl, cur, hv.1, Nat.le_trans hbw.size hq1, hq3, by have := HM.out; rw [this] at hq4; exact hq4⟩
                  rw [HM.out]
                  clear oA cAt cb hbw bG
                  go_wp2_with fail
                  go_loopw [19, 128] (fun _ i wr => ∃ (l : Nat), l ≤ m ∧ i = .int .i64 l ∧ Below wB.heap.size wB wr ∧ Hid (0 < m → ∃ gl cur, pA = some ⟨gl, 0, none⟩ ∧ wB.heap.size ≤ gl ∧ wr.heap[gl]? = some (.cells cur 48 (0, 0)) ∧ m * 4 ≤ cur.size)) (fun _ i _ => m - (RowKit.intOf i).toNat)
                  case atStart => exact ⟨0, Nat.zero_le _, rfl, bW, HQ⟩
                  case round =>
                    clear bW HQ
                    obtain ⟨l, hlm, rfl, hbw, HQ⟩ := hrel
                    by_cases hlt2 : l < m
                    · have hltI2 : (l : Int) < m := by omega
                      obtain ⟨gl, cur, rfl, hg1, hg2, hg3⟩ := HQ.out (by omega)
                      obtain ⟨u0, e0⟩ := cell_atx hg2 (l * 4) (by omega)
                      obtain ⟨u1, e1⟩ := cell_atx hg2 (l * 4 + 1) (by omega)
                      obtain ⟨u2, e2⟩ := cell_atx hg2 (l * 4 + 2) (by omega)
                      obtain ⟨u3', e3⟩ := cell_atx hg2 (l * 4 + 3) (by omega)
                      have f0 := frozen_of_row wr gl (l * 4) cur _ hg2
                      have f1 := frozen_of_row wr gl (l * 4 + 1) cur _ hg2
                      have f2 := frozen_of_row wr gl (l * 4 + 2) cur _ hg2
                      have f3 := frozen_of_row wr gl (l * 4 + 3) cur _ hg2
                      have HG : Hid (wB.heap.size ≤ gl ∧ wr.heap[gl]? = some (.cells cur 48 (0, 0)) ∧ m * 4 ≤ cur.size) := ⟨hg1, hg2, hg3⟩
                      clear HQ hg1 hg2 hg3
                      go_wp2_with fail
                      go_roundw
                      case rel =>
                        refine ⟨l + 1, by omega, by go_num, ((((hbw.setCell HG.out.1 _).setCell HG.out.1 _).setCell HG.out.1 _).setCell HG.out.1 _), fun _ => ?_⟩
                        obtain ⟨cur', hb, hs⟩ := set4_block wr HG.out.2.1 _ _ _ _ _ _ _ _
                        exact ⟨gl, cur', rfl, HG.out.1, hb, by rw [hs]; exact HG.out.2.2⟩
                      case measure => simp [RowKit.intOf]; omega
                    · have hltI2 : ¬ (l : Int) < m := by omega
                      clear HQ
                      go_wp2_with fail
                      go_roundw
                      case rel => exact ⟨k + 1, by omega, by go_num, hbw⟩
                      case measure => simp [RowKit.intOf]; omega
                · rw [pieceQ_2 h] at cb
                  obtain ⟨nn, hnn⟩ : ∃ x, valP e.v = x := ⟨_, rfl⟩
                  rw [hnn] at cb
                  clear hnn
                  clear h
                  go_wp2_with fail
                  refine cAt.mono ?_; rintro r wG ⟨vA, rfl, oA, bG⟩
                  obtain ⟨pA, cA, rfl⟩ := own_slice oA
                  have bW := hbw.trans (bG.mono hbw.size)
                  have HQ : Hid (0 < m → ∃ gl cur, pA = some ⟨gl, 0, none⟩ ∧ wB.heap.size ≤ gl ∧ wG.heap[gl]? = some (.cells cur 48 (0, 0)) ∧ m * 4 ≤ cur.size) := fun h0 => by
                    obtain ⟨gl, c, cur, hv, hq1, _, _, hq3, hq4⟩ := own_block oA (by have := HM.out; omega)
                    simp only [Value.slice.injEq] at hv
                    exact ⟨gl, cur, hv.1, Nat.le_trans hbw.size hq1, hq3, by have := HM.out; rw [this] at hq4; exact hq4⟩
                  rw [HM.out]
                  clear oA cAt cb hbw bG
                  go_wp2_with fail
                  go_loopw [19, 128] (fun _ i wr => ∃ (l : Nat), l ≤ m ∧ i = .int .i64 l ∧ Below wB.heap.size wB wr ∧ Hid (0 < m → ∃ gl cur, pA = some ⟨gl, 0, none⟩ ∧ wB.heap.size ≤ gl ∧ wr.heap[gl]? = some (.cells cur 48 (0, 0)) ∧ m * 4 ≤ cur.size)) (fun _ i _ => m - (RowKit.intOf i).toNat)
                  case atStart => exact ⟨0, Nat.zero_le _, rfl, bW, HQ⟩
                  case round =>
                    clear bW HQ
                    obtain ⟨l, hlm, rfl, hbw, HQ⟩ := hrel
                    by_cases hlt2 : l < m
                    · have hltI2 : (l : Int) < m := by omega
                      obtain ⟨gl, cur, rfl, hg1, hg2, hg3⟩ := HQ.out (by omega)
                      obtain ⟨u0, e0⟩ := cell_atx hg2 (l * 4) (by omega)
                      obtain ⟨u1, e1⟩ := cell_atx hg2 (l * 4 + 1) (by omega)
                      obtain ⟨u2, e2⟩ := cell_atx hg2 (l * 4 + 2) (by omega)
                      obtain ⟨u3', e3⟩ := cell_atx hg2 (l * 4 + 3) (by omega)
                      have f0 := frozen_of_row wr gl (l * 4) cur _ hg2
                      have f1 := frozen_of_row wr gl (l * 4 + 1) cur _ hg2
                      have f2 := frozen_of_row wr gl (l * 4 + 2) cur _ hg2
                      have f3 := frozen_of_row wr gl (l * 4 + 3) cur _ hg2
                      have HG : Hid (wB.heap.size ≤ gl ∧ wr.heap[gl]? = some (.cells cur 48 (0, 0)) ∧ m * 4 ≤ cur.size) := ⟨hg1, hg2, hg3⟩
                      clear HQ hg1 hg2 hg3
                      go_wp2_with fail
                      go_roundw
                      case rel =>
                        refine ⟨l + 1, by omega, by go_num, ((((hbw.setCell HG.out.1 _).setCell HG.out.1 _).setCell HG.out.1 _).setCell HG.out.1 _), fun _ => ?_⟩
                        obtain ⟨cur', hb, hs⟩ := set4_block wr HG.out.2.1 _ _ _ _ _ _ _ _
                        exact ⟨gl, cur', rfl, HG.out.1, hb, by rw [hs]; exact HG.out.2.2⟩
                      case measure => simp [RowKit.intOf]; omega
                    · have hltI2 : ¬ (l : Int) < m := by omega
                      clear HQ
                      go_wp2_with fail
                      go_roundw
                      case rel => exact ⟨k + 1, by omega, by go_num, hbw⟩
                      case measure => simp [RowKit.intOf]; omega
                · rw [pieceQ_3 h] at cb
                  clear h
                  go_wp2_with fail
                  refine cAt.mono ?_; rintro r wG ⟨vA, rfl, oA, bG⟩
                  obtain ⟨pA, cA, rfl⟩ := own_slice oA
                  have bW := hbw.trans (bG.mono hbw.size)
                  have HQ : Hid (0 < m → ∃ gl cur, pA = some ⟨gl, 0, none⟩ ∧ wB.heap.size ≤ gl ∧ wG.heap[gl]? = some (.cells cur 48 (0, 0)) ∧ m * 4 ≤ cur.size) := fun h0 => by
                    obtain ⟨gl, c, cur, hv, hq1, _, _, hq3, hq4⟩ := own_block oA (by have := HM.out; omega)
                    simp only [Value.slice.injEq] at hv
                    exact ⟨gl, cur, hv.1, Nat.le_trans hbw.size hq1, hq3, by have := HM.out; rw [this] at hq4; exact hq4⟩
                  rw [HM.out]
                  clear oA cAt cb hbw bG
                  go_wp2_with fail
                  go_loopw [19, 128] (fun _ i wr => ∃ (l : Nat), l ≤ m ∧ i = .int .i64 l ∧ Below wB.heap.size wB wr ∧ Hid (0 < m → ∃ gl cur, pA = some ⟨gl, 0, none⟩ ∧ wB.heap.size ≤ gl ∧ wr.heap[gl]? = some (.cells cur 48 (0, 0)) ∧ m * 4 ≤ cur.size)) (fun _ i _ => m - (RowKit.intOf i).toNat)
                  case atStart => exact ⟨0, Nat.zero_le _, rfl, bW, HQ⟩
                  case round =>
                    clear bW HQ
                    obtain ⟨l, hlm, rfl, hbw, HQ⟩ := hrel
                    by_cases hlt2 : l < m
                    · have hltI2 : (l : Int) < m := by omega
                      obtain ⟨gl, cur, rfl, hg1, hg2, hg3⟩ := HQ.out (by omega)
                      obtain ⟨u0, e0⟩ := cell_atx hg2 (l * 4) (by omega)
                      obtain ⟨u1, e1⟩ := cell_atx hg2 (l * 4 + 1) (by omega)
                      obtain ⟨u2, e2⟩ := cell_atx hg2 (l * 4 + 2) (by omega)
                      obtain ⟨u3', e3⟩ := cell_atx hg2 (l * 4 + 3) (by omega)
                      have f0 := frozen_of_row wr gl (l * 4) cur _ hg2
                      have f1 := frozen_of_row wr gl (l * 4 + 1) cur _ hg2
                      have f2 := frozen_of_row wr gl (l * 4 + 2) cur _ hg2
                      have f3 := frozen_of_row wr gl (l * 4 + 3) cur _ hg2
                      have HG : Hid (wB.heap.size ≤ gl ∧ wr.heap[gl]? = some (.cells cur 48 (0, 0)) ∧ m * 4 ≤ cur.size) := ⟨hg1, hg2, hg3⟩
                      clear HQ hg1 hg2 hg3
                      go_wp2_with fail
                      go_roundw
                      case rel =>
                        refine ⟨l + 1, by omega, by go_num, ((((hbw.setCell HG.out.1 _).setCell HG.out.1 _).setCell HG.out.1 _).setCell HG.out.1 _), fun _ => ?_⟩
                        obtain ⟨cur', hb, hs⟩ := set4_block wr HG.out.2.1 _ _ _ _ _ _ _ _
                        exact ⟨gl, cur', rfl, HG.out.1, hb, by rw [hs]; exact HG.out.2.2⟩
                      case measure => simp [RowKit.intOf]; omega
                    · have hltI2 : ¬ (l : Int) < m := by omega
                      clear HQ
                      go_wp2_with fail
                      go_roundw
                      case rel => exact ⟨k + 1, by omega, by go_num, hbw⟩
                      case measure => simp [RowKit.intOf]; omega
              · have hltI : ¬ (k : Int) < nb := by omega
                have hb9 := hbw
                go_wp2_with fail
                clear hbw
                go_loopw [20, 151] (fun _ i wr => ∃ (k : Nat), k ≤ n ∧ i = .int .i64 k ∧ Below wB.heap.size wB wr) (fun _ i _ => n - (RowKit.intOf i).toNat)
                case atStart => exact ⟨0, Nat.zero_le _, rfl, hb9⟩
                case round =>
                  clear hb9
                  obtain ⟨k, hk, rfl, hbw⟩ := hrel
                  by_cases hlt : k < n
                  · have hltI : (k : Int) < n := by omega
                    obtain ⟨d, e, b, off, ga, s, rfl, hin, he, hov, hdk, hrs, rfl, hcb, hrp, hge, hfe⟩ := HV.out k hlt
                    have cb := (hbw.cell (lt_of_cell hcb)).trans hcb
                    clear hcb
                    have cS : Hid (∀ W v, Below wB.heap.size wB W → RN W v e.A → Calls Tryd.prog 15 #[opV e v, ovV d] W fun r w' => r = .returned (.bool true) ∧ Below W.heap.size W w') := fun W v hW hv => by
                      have := sameP_any e e v (slV d.2.2.2.2) W hv.row (hrs.below hW).row (by have := hfe.n; omega) (by have := hfe.n; omega)
                      rw [decide_eq_true rfl, ← hov] at this
                      exact this
                    have hAl : e.A.length ≤ 2097152 := by have := hfe.n; omega
                    obtain ⟨c0, c1, c2, c33, c44, c5, c6⟩ := hin.below hbw
                    obtain ⟨ps, ls, cs, rfl⟩ : ∃ p l c, s = .slice p l c := by obtain ⟨p, c, h, _⟩ := hrp.row.val; exact ⟨_, _, _, h⟩
                    have HE : Hid (RN wB (.slice ps ls cs) e.A) := hrp
                    have hkk := kinds_of hge
                    clear hin he hrs hrp hov hdk
                    obtain ⟨f, t, ⟨x, z, u⟩, cc1, p, j, cc⟩ := d
                    simp only [slV] at c0 c1 c2 c33 c44 c5 c6
                    simp only [ovV, ovC, slV] at cS
                    rcases hkk with h | h | h | h
                    · have hop : ∀ (W : World) (s1 : Value), RN W s1 e.A → Calls Tryd.prog 75 #[.agg #[s1, .string e.t, .int .i64 (scs e.t.data.toList).length]] W fun r w' => ∃ v', r = .returned (opV e v') ∧ OwnA w' W.heap.size v' e.A ∧ Below W.heap.size W w' := fun W s1 hs => opQ_1 hge h s1 W hs hAl
                      rw [pieceQ_1 h] at cb
                      obtain ⟨sn, hsn⟩ : ∃ x : Int, ((scs e.t.data.toList).length : Int) = x := ⟨_, rfl⟩
                      rw [hsn] at hop cb
                      clear hsn
                      have HU : Hid (∀ w', Below wr.drew.heap.size wr.drew w' → ((w'.cell? ⟨b, off + k * 7, none⟩ = some (.int .i64 f) ∧ w'.cell? ⟨b, off + k * 7 + 1, none⟩ = some (.string t) ∧ w'.cell? ⟨b, off + k * 7 + 2, none⟩ = some (.int .i64 x) ∧ w'.cell? ⟨b, off + k * 7 + 3, none⟩ = some (.int .i64 z) ∧ w'.cell? ⟨b, off + k * 7 + 4, none⟩ = some (.string u) ∧ w'.cell? ⟨b, off + k * 7 + 5, none⟩ = some (.int .i64 cc1) ∧ w'.cell? ⟨b, off + k * 7 + 6, none⟩ = some (.slice p j cc)) ∧ w'.cell? ⟨ga, k, none⟩ = some (.iface 74 (.agg #[.slice ps ls cs, .string e.t, .int .i64 sn])))) := fun w' hb => ⟨⟨(hb.cell (lt_of_cell (w := wr.drew) c0)).trans c0, (hb.cell (lt_of_cell (w := wr.drew) c1)).trans c1, (hb.cell (lt_of_cell (w := wr.drew) c2)).trans c2, (hb.cell (lt_of_cell (w := wr.drew) c33)).trans c33, (hb.cell (lt_of_cell (w := wr.drew) c44)).trans c44, (hb.cell (lt_of_cell (w := wr.drew) c5)).trans c5, (hb.cell (lt_of_cell (w := wr.drew) c6)).trans c6⟩, (hb.cell (lt_of_cell (w := wr.drew) cb)).trans cb⟩
                      have hz1 : wB.heap.size ≤ wr.drew.heap.size := hbw.size
                      have cOp := fun W (hW : Below wB.heap.size wB W) => hop W (.slice ps ls cs) (HE.out.below hW)
                      have cOp : Hid _ := cOp
                      clear h hop
                      go_wp2_with fail
                      go_region_held3 (fun w' => ((w'.cell? ⟨b, off + k * 7, none⟩ = some (.int .i64 f) ∧ w'.cell? ⟨b, off + k * 7 + 1, none⟩ = some (.string t) ∧ w'.cell? ⟨b, off + k * 7 + 2, none⟩ = some (.int .i64 x) ∧ w'.cell? ⟨b, off + k * 7 + 3, none⟩ = some (.int .i64 z) ∧ w'.cell? ⟨b, off + k * 7 + 4, none⟩ = some (.string u) ∧ w'.cell? ⟨b, off + k * 7 + 5, none⟩ = some (.int .i64 cc1) ∧ w'.cell? ⟨b, off + k * 7 + 6, none⟩ = some (.slice p j cc)) ∧ w'.cell? ⟨ga, k, none⟩ = some (.iface 74 (.agg #[.slice ps ls cs, .string e.t, .int .i64 sn]))) ∧ Below wB.heap.size wB w')
                        (exact ⟨by first | (with_reducible assumption) | (simp [*]; done), by first | (with_reducible assumption) | exact hbw.drew⟩)
                        (first
                          | (go_at_call 15; refine cSa.out.mono ?_; rintro r wF ⟨rfl, bF'⟩; have bF : Below wr.drew.heap.size wr.drew wF := bE.trans (bF'.mono bE.size); have jF : Below wB.heap.size wB wF := (hbw.drew).trans (bF.mono hz1); have mmF := HU.out _ bF)
                          | (go_at_call 75; refine (cOp.out _ ?_).mono ?_; (· first | assumption | exact hbw.drew | (apply And.right; assumption)); rintro r wE ⟨vA, rfl, oA, bE⟩; obtain ⟨pA, cA, rfl⟩ := own_slice oA; have jE : Below wB.heap.size wB wE := (hbw.drew).trans (bE.mono hz1); have mmE := HU.out _ bE; have cSa : Hid (Calls Tryd.prog 15 #[opV e (.slice pA e.A.length cA), .agg #[.int .i64 f, .string t, .int .i64 x, .int .i64 z, .string u, .int .i64 cc1, .slice p j cc]] wE fun r w' => r = .returned (.bool true) ∧ Below wE.heap.size wE w') := cS.out wE (.slice pA e.A.length cA) jE (own_RN oA); clear oA))
                      clear cOp cSa mmE mmF bE bF jE c0 c1 c2 c33 c44 c5 c6 cb
                      go_wp2_with fail
                      go_roundw
                      case rel => exact ⟨k + 1, by omega, by go_num, jF⟩
                      case measure => simp [RowKit.intOf]; omega
                    · have hop : ∀ (W : World) (s1 : Value), RN W s1 e.A → Calls Tryd.prog 79 #[.agg #[s1, .string e.t, valP e.v]] W fun r w' => ∃ v', r = .returned (opV e v') ∧ OwnA w' W.heap.size v' e.A ∧ Below W.heap.size W w' := fun W s1 hs => opQ_2 hge h s1 W hs hAl
                      rw [pieceQ_2 h] at cb
                      obtain ⟨V9, hV9⟩ : ∃ x, valP e.v = x := ⟨_, rfl⟩
                      rw [hV9] at hop cb
                      clear hV9
                      have HU : Hid (∀ w', Below wr.drew.heap.size wr.drew w' → ((w'.cell? ⟨b, off + k * 7, none⟩ = some (.int .i64 f) ∧ w'.cell? ⟨b, off + k * 7 + 1, none⟩ = some (.string t) ∧ w'.cell? ⟨b, off + k * 7 + 2, none⟩ = some (.int .i64 x) ∧ w'.cell? ⟨b, off + k * 7 + 3, none⟩ = some (.int .i64 z) ∧ w'.cell? ⟨b, off + k * 7 + 4, none⟩ = some (.string u) ∧ w'.cell? ⟨b, off + k * 7 + 5, none⟩ = some (.int .i64 cc1) ∧ w'.cell? ⟨b, off + k * 7 + 6, none⟩ = some (.slice p j cc)) ∧ w'.cell? ⟨ga, k, none⟩ = some (.iface 90 (.agg #[.slice ps ls cs, .string e.t, V9])))) := fun w' hb => ⟨⟨(hb.cell (lt_of_cell (w := wr.drew) c0)).trans c0, (hb.cell (lt_of_cell (w := wr.drew) c1)).trans c1, (hb.cell (lt_of_cell (w := wr.drew) c2)).trans c2, (hb.cell (lt_of_cell (w := wr.drew) c33)).trans c33, (hb.cell (lt_of_cell (w := wr.drew) c44)).trans c44, (hb.cell (lt_of_cell (w := wr.drew) c5)).trans c5, (hb.cell (lt_of_cell (w := wr.drew) c6)).trans c6⟩, (hb.cell (lt_of_cell (w := wr.drew) cb)).trans cb⟩
                      have hz1 : wB.heap.size ≤ wr.drew.heap.size := hbw.size
                      have cOp := fun W (hW : Below wB.heap.size wB W) => hop W (.slice ps ls cs) (HE.out.below hW)
                      have cOp : Hid _ := cOp
                      clear h hop
                      go_wp2_with fail
                      go_region_held3 (fun w' => ((w'.cell? ⟨b, off + k * 7, none⟩ = some (.int .i64 f) ∧ w'.cell? ⟨b, off + k * 7 + 1, none⟩ = some (.string t) ∧ w'.cell? ⟨b, off + k * 7 + 2, none⟩ = some (.int .i64 x) ∧ w'.cell? ⟨b, off + k * 7 + 3, none⟩ = some (.int .i64 z) ∧ w'.cell? ⟨b, off + k * 7 + 4, none⟩ = some (.string u) ∧ w'.cell? ⟨b, off + k * 7 + 5, none⟩ = some (.int .i64 cc1) ∧ w'.cell? ⟨b, off + k * 7 + 6, none⟩ = some (.slice p j cc)) ∧ w'.cell? ⟨ga, k, none⟩ = some (.iface 90 (.agg #[.slice ps ls cs, .string e.t, V9]))) ∧ Below wB.heap.size wB w')
                        (exact ⟨by first | (with_reducible assumption) | (simp [*]; done), by first | (with_reducible assumption) | exact hbw.drew⟩)
                        (first
                          | (go_at_call 15; refine cSa.out.mono ?_; rintro r wF ⟨rfl, bF'⟩; have bF : Below wr.drew.heap.size wr.drew wF := bE.trans (bF'.mono bE.size); have jF : Below wB.heap.size wB wF := (hbw.drew).trans (bF.mono hz1); have mmF := HU.out _ bF)
                          | (go_at_call 79; refine (cOp.out _ ?_).mono ?_; (· first | assumption | exact hbw.drew | (apply And.right; assumption)); rintro r wE ⟨vA, rfl, oA, bE⟩; obtain ⟨pA, cA, rfl⟩ := own_slice oA; have jE : Below wB.heap.size wB wE := (hbw.drew).trans (bE.mono hz1); have mmE := HU.out _ bE; have cSa : Hid (Calls Tryd.prog 15 #[opV e (.slice pA e.A.length cA), .agg #[.int .i64 f, .string t, .int .i64 x, .int .i64 z, .string u, .int .i64 cc1, .slice p j cc]] wE fun r w' => r = .returned (.bool true) ∧ Below wE.heap.size wE w') := cS.out wE (.slice pA e.A.length cA) jE (own_RN oA); clear oA))
                      clear cOp cSa mmE mmF bE bF jE c0 c1 c2 c33 c44 c5 c6 cb
                      go_wp2_with fail
                      go_roundw
                      case rel => exact ⟨k + 1, by omega, by go_num, jF⟩
                      case measure => simp [RowKit.intOf]; omega
                    · have hop : ∀ (W : World) (s1 : Value), RN W s1 e.A → Calls Tryd.prog 77 #[.agg #[s1, .int .i64 e.c]] W fun r w' => ∃ v', r = .returned (opV e v') ∧ OwnA w' W.heap.size v' e.A ∧ Below W.heap.size W w' := fun W s1 hs => opQ_3 hge h s1 W hs hAl
                      rw [pieceQ_3 h] at cb
                      have HU : Hid (∀ w', Below wr.drew.heap.size wr.drew w' → ((w'.cell? ⟨b, off + k * 7, none⟩ = some (.int .i64 f) ∧ w'.cell? ⟨b, off + k * 7 + 1, none⟩ = some (.string t) ∧ w'.cell? ⟨b, off + k * 7 + 2, none⟩ = some (.int .i64 x) ∧ w'.cell? ⟨b, off + k * 7 + 3, none⟩ = some (.int .i64 z) ∧ w'.cell? ⟨b, off + k * 7 + 4, none⟩ = some (.string u) ∧ w'.cell? ⟨b, off + k * 7 + 5, none⟩ = some (.int .i64 cc1) ∧ w'.cell? ⟨b, off + k * 7 + 6, none⟩ = some (.slice p j cc)) ∧ w'.cell? ⟨ga, k, none⟩ = some (.iface 77 (.agg #[.slice ps ls cs, .int .i64 e.c])))) := fun w' hb => ⟨⟨(hb.cell (lt_of_cell (w := wr.drew) c0)).trans c0, (hb.cell (lt_of_cell (w := wr.drew) c1)).trans c1, (hb.cell (lt_of_cell (w := wr.drew) c2)).trans c2, (hb.cell (lt_of_cell (w := wr.drew) c33)).trans c33, (hb.cell (lt_of_cell (w := wr.drew) c44)).trans c44, (hb.cell (lt_of_cell (w := wr.drew) c5)).trans c5, (hb.cell (lt_of_cell (w := wr.drew) c6)).trans c6⟩, (hb.cell (lt_of_cell (w := wr.drew) cb)).trans cb⟩
                      have hz1 : wB.heap.size ≤ wr.drew.heap.size := hbw.size
                      have cOp := fun W (hW : Below wB.heap.size wB W) => hop W (.slice ps ls cs) (HE.out.below hW)
                      have cOp : Hid _ := cOp
                      clear h hop
                      go_wp2_with fail
                      go_region_held3 (fun w' => ((w'.cell? ⟨b, off + k * 7, none⟩ = some (.int .i64 f) ∧ w'.cell? ⟨b, off + k * 7 + 1, none⟩ = some (.string t) ∧ w'.cell? ⟨b, off + k * 7 + 2, none⟩ = some (.int .i64 x) ∧ w'.cell? ⟨b, off + k * 7 + 3, none⟩ = some (.int .i64 z) ∧ w'.cell? ⟨b, off + k * 7 + 4, none⟩ = some (.string u) ∧ w'.cell? ⟨b, off + k * 7 + 5, none⟩ = some (.int .i64 cc1) ∧ w'.cell? ⟨b, off + k * 7 + 6, none⟩ = some (.slice p j cc)) ∧ w'.cell? ⟨ga, k, none⟩ = some (.iface 77 (.agg #[.slice ps ls cs, .int .i64 e.c]))) ∧ Below wB.heap.size wB w')
                        (exact ⟨by first | (with_reducible assumption) | (simp [*]; done), by first | (with_reducible assumption) | exact hbw.drew⟩)
                        (first
                          | (go_at_call 15; refine cSa.out.mono ?_; rintro r wF ⟨rfl, bF'⟩; have bF : Below wr.drew.heap.size wr.drew wF := bE.trans (bF'.mono bE.size); have jF : Below wB.heap.size wB wF := (hbw.drew).trans (bF.mono hz1); have mmF := HU.out _ bF)
                          | (go_at_call 77; refine (cOp.out _ ?_).mono ?_; (· first | assumption | exact hbw.drew | (apply And.right; assumption)); rintro r wE ⟨vA, rfl, oA, bE⟩; obtain ⟨pA, cA, rfl⟩ := own_slice oA; have jE : Below wB.heap.size wB wE := (hbw.drew).trans (bE.mono hz1); have mmE := HU.out _ bE; have cSa : Hid (Calls Tryd.prog 15 #[opV e (.slice pA e.A.length cA), .agg #[.int .i64 f, .string t, .int .i64 x, .int .i64 z, .string u, .int .i64 cc1, .slice p j cc]] wE fun r w' => r = .returned (.bool true) ∧ Below wE.heap.size wE w') := cS.out wE (.slice pA e.A.length cA) jE (own_RN oA); clear oA))
                      clear cOp cSa mmE mmF bE bF jE c0 c1 c2 c33 c44 c5 c6 cb
                      go_wp2_with fail
                      go_roundw
                      case rel => exact ⟨k + 1, by omega, by go_num, jF⟩
                      case measure => simp [RowKit.intOf]; omega
                    · have hop : ∀ (W : World) (s1 : Value), RN W s1 e.A → Calls Tryd.prog 72 #[.agg #[.int .i64 e.c]] W fun r w' => ∃ v', r = .returned (opV e v') ∧ OwnA w' W.heap.size v' e.A ∧ Below W.heap.size W w' := fun W s1 hs => opQ_4 hge h W
                      rw [pieceQ_4 h] at cb
                      have HU : Hid (∀ w', Below wr.drew.heap.size wr.drew w' → ((w'.cell? ⟨b, off + k * 7, none⟩ = some (.int .i64 f) ∧ w'.cell? ⟨b, off + k * 7 + 1, none⟩ = some (.string t) ∧ w'.cell? ⟨b, off + k * 7 + 2, none⟩ = some (.int .i64 x) ∧ w'.cell? ⟨b, off + k * 7 + 3, none⟩ = some (.int .i64 z) ∧ w'.cell? ⟨b, off + k * 7 + 4, none⟩ = some (.string u) ∧ w'.cell? ⟨b, off + k * 7 + 5, none⟩ = some (.int .i64 cc1) ∧ w'.cell? ⟨b, off + k * 7 + 6, none⟩ = some (.slice p j cc)) ∧ w'.cell? ⟨ga, k, none⟩ = some (.iface 52 (.agg #[.int .i64 e.c])))) := fun w' hb => ⟨⟨(hb.cell (lt_of_cell (w := wr.drew) c0)).trans c0, (hb.cell (lt_of_cell (w := wr.drew) c1)).trans c1, (hb.cell (lt_of_cell (w := wr.drew) c2)).trans c2, (hb.cell (lt_of_cell (w := wr.drew) c33)).trans c33, (hb.cell (lt_of_cell (w := wr.drew) c44)).trans c44, (hb.cell (lt_of_cell (w := wr.drew) c5)).trans c5, (hb.cell (lt_of_cell (w := wr.drew) c6)).trans c6⟩, (hb.cell (lt_of_cell (w := wr.drew) cb)).trans cb⟩
                      have hz1 : wB.heap.size ≤ wr.drew.heap.size := hbw.size
                      have cOp := fun W (hW : Below wB.heap.size wB W) => hop W (.slice ps ls cs) (HE.out.below hW)
                      have cOp : Hid _ := cOp
                      clear h hop
                      go_wp2_with fail
                      go_region_held3 (fun w' => ((w'.cell? ⟨b, off + k * 7, none⟩ = some (.int .i64 f) ∧ w'.cell? ⟨b, off + k * 7 + 1, none⟩ = some (.string t) ∧ w'.cell? ⟨b, off + k * 7 + 2, none⟩ = some (.int .i64 x) ∧ w'.cell? ⟨b, off + k * 7 + 3, none⟩ = some (.int .i64 z) ∧ w'.cell? ⟨b, off + k * 7 + 4, none⟩ = some (.string u) ∧ w'.cell? ⟨b, off + k * 7 + 5, none⟩ = some (.int .i64 cc1) ∧ w'.cell? ⟨b, off + k * 7 + 6, none⟩ = some (.slice p j cc)) ∧ w'.cell? ⟨ga, k, none⟩ = some (.iface 52 (.agg #[.int .i64 e.c]))) ∧ Below wB.heap.size wB w')
                        (exact ⟨by first | (with_reducible assumption) | (simp [*]; done), by first | (with_reducible assumption) | exact hbw.drew⟩)
                        (first
                          | (go_at_call 15; refine cSa.out.mono ?_; rintro r wF ⟨rfl, bF'⟩; have bF : Below wr.drew.heap.size wr.drew wF := bE.trans (bF'.mono bE.size); have jF : Below wB.heap.size wB wF := (hbw.drew).trans (bF.mono hz1); have mmF := HU.out _ bF)
                          | (go_at_call 72; refine (cOp.out _ ?_).mono ?_; (· first | assumption | exact hbw.drew | (apply And.right; assumption)); rintro r wE ⟨vA, rfl, oA, bE⟩; obtain ⟨pA, cA, rfl⟩ := own_slice oA; have jE : Below wB.heap.size wB wE := (hbw.drew).trans (bE.mono hz1); have mmE := HU.out _ bE; have cSa : Hid (Calls Tryd.prog 15 #[opV e (.slice pA e.A.length cA), .agg #[.int .i64 f, .string t, .int .i64 x, .int .i64 z, .string u, .int .i64 cc1, .slice p j cc]] wE fun r w' => r = .returned (.bool true) ∧ Below wE.heap.size wE w') := cS.out wE (.slice pA e.A.length cA) jE (own_RN oA); clear oA))
                      clear cOp cSa mmE mmF bE bF jE c0 c1 c2 c33 c44 c5 c6 cb
                      go_wp2_with fail
                      go_roundw
                      case rel => exact ⟨k + 1, by omega, by go_num, jF⟩
                      case measure => simp [RowKit.intOf]; omega
                  · have hltI : ¬ (k : Int) < n := by omega
                    go_wp2_with fail
                    have hb8 := hbw
                    clear hbw
                    go_loopw [21, 22, 168] (fun _ _ i wr => ∃ (k : Nat), k ≤ nb ∧ i = .int .i64 k ∧ Below wB.heap.size wB wr) (fun _ _ i _ => nb - (RowKit.intOf i).toNat)
                    case atStart => exact ⟨0, Nat.zero_le _, rfl, hb8⟩
                    case round =>
                      clear hb8
                      obtain ⟨k, hk, rfl, hbw⟩ := hrel
                      by_cases hlt : k < nb
                      · have hltI : (k : Int) < nb := by omega
                        obtain ⟨i, e, gb, gz, s, hi, he0, hk3, rfl, rfl, hcb, hcz, hrp⟩ := HW.out k hlt
                        have cb := (hbw.cell (lt_of_cell hcb)).trans hcb
                        have cz := (hbw.cell (lt_of_cell hcz)).trans hcz
                        obtain ⟨d, e', b, off, ga, s', rfl, hin, he, hov, hdk, hrs, -, -, -, hge, hfe⟩ := HV.out i hi
                        obtain rfl : e = e' := Option.some.inj (he0.symm.trans he)
                        have hn1 : decide ((i : Int) < 0) = false := decide_eq_false (by omega)
                        have hn2 : decide ((n : Int) ≤ (i : Int)) = false := decide_eq_false (by omega)
                        have hn3 : (0 : Int) ≤ (i : Int) := by omega
                        have hn4 : (i : Int) < (n : Int) := by omega
                        have hn5 : ¬ n ≤ i := by omega
                        have hn6 : decide (n ≤ i) = false := decide_eq_false (by omega)
                        clear hcb hcz he0
                        have cS : Hid (∀ W v, Below wB.heap.size wB W → RN W v e.A → Calls Tryd.prog 15 #[opV e v, ovV d] W fun r w' => r = .returned (.bool true) ∧ Below W.heap.size W w') := fun W v hW hv => by
                          have := sameP_any e e v (slV d.2.2.2.2) W hv.row (hrs.below hW).row (by have := hfe.n; omega) (by have := hfe.n; omega)
                          rw [decide_eq_true rfl, ← hov] at this
                          exact this
                        have hAl : e.A.length ≤ 2097152 := by have := hfe.n; omega
                        obtain ⟨c0, c1, c2, c33, c44, c5, c6⟩ := hin.below hbw
                        obtain ⟨ps, ls, cs, rfl⟩ : ∃ p l c, s = .slice p l c := by obtain ⟨p, c, h, _⟩ := hrp.row.val; exact ⟨_, _, _, h⟩
                        have HE : Hid (RN wB (.slice ps ls cs) e.A) := hrp
                        clear hin he hrs hrp hov hdk
                        obtain ⟨f, t, ⟨x, z, u⟩, cc1, p, j, cc⟩ := d
                        simp only [slV] at c0 c1 c2 c33 c44 c5 c6
                        simp only [ovV, ovC, slV] at cS
                        rcases hk3 with h | h | h
                        · have hop : ∀ (W : World) (s1 : Value), RN W s1 e.A → Calls Tryd.prog 75 #[.agg #[s1, .string e.t, .int .i64 (scs e.t.data.toList).length]] W fun r w' => ∃ v', r = .returned (opV e v') ∧ OwnA w' W.heap.size v' e.A ∧ Below W.heap.size W w' := fun W s1 hs => opQ_1 hge h s1 W hs hAl
                          rw [pieceQ_1 h] at cb
                          obtain ⟨sn, hsn⟩ : ∃ x : Int, ((scs e.t.data.toList).length : Int) = x := ⟨_, rfl⟩
                          rw [hsn] at hop cb
                          clear hsn
                          have HU : Hid (∀ w', Below wr.drew.heap.size wr.drew w' → ((w'.cell? ⟨b, off + i * 7, none⟩ = some (.int .i64 f) ∧ w'.cell? ⟨b, off + i * 7 + 1, none⟩ = some (.string t) ∧ w'.cell? ⟨b, off + i * 7 + 2, none⟩ = some (.int .i64 x) ∧ w'.cell? ⟨b, off + i * 7 + 3, none⟩ = some (.int .i64 z) ∧ w'.cell? ⟨b, off + i * 7 + 4, none⟩ = some (.string u) ∧ w'.cell? ⟨b, off + i * 7 + 5, none⟩ = some (.int .i64 cc1) ∧ w'.cell? ⟨b, off + i * 7 + 6, none⟩ = some (.slice p j cc)) ∧ w'.cell? ⟨gb, k, none⟩ = some (.iface 74 (.agg #[.slice ps ls cs, .string e.t, .int .i64 sn])))) := fun w' hb => ⟨⟨(hb.cell (lt_of_cell (w := wr.drew) c0)).trans c0, (hb.cell (lt_of_cell (w := wr.drew) c1)).trans c1, (hb.cell (lt_of_cell (w := wr.drew) c2)).trans c2, (hb.cell (lt_of_cell (w := wr.drew) c33)).trans c33, (hb.cell (lt_of_cell (w := wr.drew) c44)).trans c44, (hb.cell (lt_of_cell (w := wr.drew) c5)).trans c5, (hb.cell (lt_of_cell (w := wr.drew) c6)).trans c6⟩, (hb.cell (lt_of_cell (w := wr.drew) cb)).trans cb⟩
                          have hz1 : wB.heap.size ≤ wr.drew.heap.size := hbw.size
                          have cOp := fun W (hW : Below wB.heap.size wB W) => hop W (.slice ps ls cs) (HE.out.below hW)
                          have cOp : Hid _ := cOp
                          clear h hop
                          go_wp2_with fail
                          go_region_held3 (fun w' => ((w'.cell? ⟨b, off + i * 7, none⟩ = some (.int .i64 f) ∧ w'.cell? ⟨b, off + i * 7 + 1, none⟩ = some (.string t) ∧ w'.cell? ⟨b, off + i * 7 + 2, none⟩ = some (.int .i64 x) ∧ w'.cell? ⟨b, off + i * 7 + 3, none⟩ = some (.int .i64 z) ∧ w'.cell? ⟨b, off + i * 7 + 4, none⟩ = some (.string u) ∧ w'.cell? ⟨b, off + i * 7 + 5, none⟩ = some (.int .i64 cc1) ∧ w'.cell? ⟨b, off + i * 7 + 6, none⟩ = some (.slice p j cc)) ∧ w'.cell? ⟨gb, k, none⟩ = some (.iface 74 (.agg #[.slice ps ls cs, .string e.t, .int .i64 sn]))) ∧ Below wB.heap.size wB w')
                            (exact ⟨by first | (with_reducible assumption) | (simp [*]; done), by first | (with_reducible assumption) | exact hbw.drew⟩)
                            (first
                              | (go_at_call 15; refine cSa.out.mono ?_; rintro r wF ⟨rfl, bF'⟩; have bF : Below wr.drew.heap.size wr.drew wF := bE.trans (bF'.mono bE.size); have jF : Below wB.heap.size wB wF := (hbw.drew).trans (bF.mono hz1); have mmF := HU.out _ bF)
                              | (go_at_call 75; refine (cOp.out _ ?_).mono ?_; (· first | assumption | exact hbw.drew | (apply And.right; assumption)); rintro r wE ⟨vA, rfl, oA, bE⟩; obtain ⟨pA, cA, rfl⟩ := own_slice oA; have jE : Below wB.heap.size wB wE := (hbw.drew).trans (bE.mono hz1); have mmE := HU.out _ bE; have cSa : Hid (Calls Tryd.prog 15 #[opV e (.slice pA e.A.length cA), .agg #[.int .i64 f, .string t, .int .i64 x, .int .i64 z, .string u, .int .i64 cc1, .slice p j cc]] wE fun r w' => r = .returned (.bool true) ∧ Below wE.heap.size wE w') := cS.out wE (.slice pA e.A.length cA) jE (own_RN oA); clear oA))
                          clear cOp cSa mmE mmF bE bF jE c0 c1 c2 c33 c44 c5 c6 cb
                          go_wp2_with fail
                          go_roundw
                          case rel => exact ⟨k + 1, by omega, by go_num, jF⟩
                          case measure => simp [RowKit.intOf]; omega
                        · have hop : ∀ (W : World) (s1 : Value), RN W s1 e.A → Calls Tryd.prog 79 #[.agg #[s1, .string e.t, valP e.v]] W fun r w' => ∃ v', r = .returned (opV e v') ∧ OwnA w' W.heap.size v' e.A ∧ Below W.heap.size W w' := fun W s1 hs => opQ_2 hge h s1 W hs hAl
                          rw [pieceQ_2 h] at cb
                          obtain ⟨V9, hV9⟩ : ∃ x, valP e.v = x := ⟨_, rfl⟩
                          rw [hV9] at hop cb
                          clear hV9
                          have HU : Hid (∀ w', Below wr.drew.heap.size wr.drew w' → ((w'.cell? ⟨b, off + i * 7, none⟩ = some (.int .i64 f) ∧ w'.cell? ⟨b, off + i * 7 + 1, none⟩ = some (.string t) ∧ w'.cell? ⟨b, off + i * 7 + 2, none⟩ = some (.int .i64 x) ∧ w'.cell? ⟨b, off + i * 7 + 3, none⟩ = some (.int .i64 z) ∧ w'.cell? ⟨b, off + i * 7 + 4, none⟩ = some (.string u) ∧ w'.cell? ⟨b, off + i * 7 + 5, none⟩ = some (.int .i64 cc1) ∧ w'.cell? ⟨b, off + i * 7 + 6, none⟩ = some (.slice p j cc)) ∧ w'.cell? ⟨gb, k, none⟩ = some (.iface 90 (.agg #[.slice ps ls cs, .string e.t, V9])))) := fun w' hb => ⟨⟨(hb.cell (lt_of_cell (w := wr.drew) c0)).trans c0, (hb.cell (lt_of_cell (w := wr.drew) c1)).trans c1, (hb.cell (lt_of_cell (w := wr.drew) c2)).trans c2, (hb.cell (lt_of_cell (w := wr.drew) c33)).trans c33, (hb.cell (lt_of_cell (w := wr.drew) c44)).trans c44, (hb.cell (lt_of_cell (w := wr.drew) c5)).trans c5, (hb.cell (lt_of_cell (w := wr.drew) c6)).trans c6⟩, (hb.cell (lt_of_cell (w := wr.drew) cb)).trans cb⟩
                          have hz1 : wB.heap.size ≤ wr.drew.heap.size := hbw.size
                          have cOp := fun W (hW : Below wB.heap.size wB W) => hop W (.slice ps ls cs) (HE.out.below hW)
                          have cOp : Hid _ := cOp
                          clear h hop
                          go_wp2_with fail
                          go_region_held3 (fun w' => ((w'.cell? ⟨b, off + i * 7, none⟩ = some (.int .i64 f) ∧ w'.cell? ⟨b, off + i * 7 + 1, none⟩ = some (.string t) ∧ w'.cell? ⟨b, off + i * 7 + 2, none⟩ = some (.int .i64 x) ∧ w'.cell? ⟨b, off + i * 7 + 3, none⟩ = some (.int .i64 z) ∧ w'.cell? ⟨b, off + i * 7 + 4, none⟩ = some (.string u) ∧ w'.cell? ⟨b, off + i * 7 + 5, none⟩ = some (.int .i64 cc1) ∧ w'.cell? ⟨b, off + i * 7 + 6, none⟩ = some (.slice p j cc)) ∧ w'.cell? ⟨gb, k, none⟩ = some (.iface 90 (.agg #[.slice ps ls cs, .string e.t, V9]))) ∧ Below wB.heap.size wB w')
                            (exact ⟨by first | (with_reducible assumption) | (simp [*]; done), by first | (with_reducible assumption) | exact hbw.drew⟩)
                            (first
                              | (go_at_call 15; refine cSa.out.mono ?_; rintro r wF ⟨rfl, bF'⟩; have bF : Below wr.drew.heap.size wr.drew wF := bE.trans (bF'.mono bE.size); have jF : Below wB.heap.size wB wF := (hbw.drew).trans (bF.mono hz1); have mmF := HU.out _ bF)
                              | (go_at_call 79; refine (cOp.out _ ?_).mono ?_; (· first | assumption | exact hbw.drew | (apply And.right; assumption)); rintro r wE ⟨vA, rfl, oA, bE⟩; obtain ⟨pA, cA, rfl⟩ := own_slice oA; have jE : Below wB.heap.size wB wE := (hbw.drew).trans (bE.mono hz1); have mmE := HU.out _ bE; have cSa : Hid (Calls Tryd.prog 15 #[opV e (.slice pA e.A.length cA), .agg #[.int .i64 f, .string t, .int .i64 x, .int .i64 z, .string u, .int .i64 cc1, .slice p j cc]] wE fun r w' => r = .returned (.bool true) ∧ Below wE.heap.size wE w') := cS.out wE (.slice pA e.A.length cA) jE (own_RN oA); clear oA))
                          clear cOp cSa mmE mmF bE bF jE c0 c1 c2 c33 c44 c5 c6 cb
                          go_wp2_with fail
                          go_roundw
                          case rel => exact ⟨k + 1, by omega, by go_num, jF⟩
                          case measure => simp [RowKit.intOf]; omega
                        · have hop : ∀ (W : World) (s1 : Value), RN W s1 e.A → Calls Tryd.prog 77 #[.agg #[s1, .int .i64 e.c]] W fun r w' => ∃ v', r = .returned (opV e v') ∧ OwnA w' W.heap.size v' e.A ∧ Below W.heap.size W w' := fun W s1 hs => opQ_3 hge h s1 W hs hAl
                          rw [pieceQ_3 h] at cb
                          have HU : Hid (∀ w', Below wr.drew.heap.size wr.drew w' → ((w'.cell? ⟨b, off + i * 7, none⟩ = some (.int .i64 f) ∧ w'.cell? ⟨b, off + i * 7 + 1, none⟩ = some (.string t) ∧ w'.cell? ⟨b, off + i * 7 + 2, none⟩ = some (.int .i64 x) ∧ w'.cell? ⟨b, off + i * 7 + 3, none⟩ = some (.int .i64 z) ∧ w'.cell? ⟨b, off + i * 7 + 4, none⟩ = some (.string u) ∧ w'.cell? ⟨b, off + i * 7 + 5, none⟩ = some (.int .i64 cc1) ∧ w'.cell? ⟨b, off + i * 7 + 6, none⟩ = some (.slice p j cc)) ∧ w'.cell? ⟨gb, k, none⟩ = some (.iface 77 (.agg #[.slice ps ls cs, .int .i64 e.c])))) := fun w' hb => ⟨⟨(hb.cell (lt_of_cell (w := wr.drew) c0)).trans c0, (hb.cell (lt_of_cell (w := wr.drew) c1)).trans c1, (hb.cell (lt_of_cell (w := wr.drew) c2)).trans c2, (hb.cell (lt_of_cell (w := wr.drew) c33)).trans c33, (hb.cell (lt_of_cell (w := wr.drew) c44)).trans c44, (hb.cell (lt_of_cell (w := wr.drew) c5)).trans c5, (hb.cell (lt_of_cell (w := wr.drew) c6)).trans c6⟩, (hb.cell (lt_of_cell (w := wr.drew) cb)).trans cb⟩
                          have hz1 : wB.heap.size ≤ wr.drew.heap.size := hbw.size
                          have cOp := fun W (hW : Below wB.heap.size wB W) => hop W (.slice ps ls cs) (HE.out.below hW)
                          have cOp : Hid _ := cOp
                          clear h hop
                          go_wp2_with fail
                          go_region_held3 (fun w' => ((w'.cell? ⟨b, off + i * 7, none⟩ = some (.int .i64 f) ∧ w'.cell? ⟨b, off + i * 7 + 1, none⟩ = some (.string t) ∧ w'.cell? ⟨b, off + i * 7 + 2, none⟩ = some (.int .i64 x) ∧ w'.cell? ⟨b, off + i * 7 + 3, none⟩ = some (.int .i64 z) ∧ w'.cell? ⟨b, off + i * 7 + 4, none⟩ = some (.string u) ∧ w'.cell? ⟨b, off + i * 7 + 5, none⟩ = some (.int .i64 cc1) ∧ w'.cell? ⟨b, off + i * 7 + 6, none⟩ = some (.slice p j cc)) ∧ w'.cell? ⟨gb, k, none⟩ = some (.iface 77 (.agg #[.slice ps ls cs, .int .i64 e.c]))) ∧ Below wB.heap.size wB w')
                            (exact ⟨by first | (with_reducible assumption) | (simp [*]; done), by first | (with_reducible assumption) | exact hbw.drew⟩)
                            (first
                              | (go_at_call 15; refine cSa.out.mono ?_; rintro r wF ⟨rfl, bF'⟩; have bF : Below wr.drew.heap.size wr.drew wF := bE.trans (bF'.mono bE.size); have jF : Below wB.heap.size wB wF := (hbw.drew).trans (bF.mono hz1); have mmF := HU.out _ bF)
                              | (go_at_call 77; refine (cOp.out _ ?_).mono ?_; (· first | assumption | exact hbw.drew | (apply And.right; assumption)); rintro r wE ⟨vA, rfl, oA, bE⟩; obtain ⟨pA, cA, rfl⟩ := own_slice oA; have jE : Below wB.heap.size wB wE := (hbw.drew).trans (bE.mono hz1); have mmE := HU.out _ bE; have cSa : Hid (Calls Tryd.prog 15 #[opV e (.slice pA e.A.length cA), .agg #[.int .i64 f, .string t, .int .i64 x, .int .i64 z, .string u, .int .i64 cc1, .slice p j cc]] wE fun r w' => r = .returned (.bool true) ∧ Below wE.heap.size wE w') := cS.out wE (.slice pA e.A.length cA) jE (own_RN oA); clear oA))
                          clear cOp cSa mmE mmF bE bF jE c0 c1 c2 c33 c44 c5 c6 cb
                          go_wp2_with fail
                          go_roundw
                          case rel => exact ⟨k + 1, by omega, by go_num, jF⟩
                          case measure => simp [RowKit.intOf]; omega
                      · have hltI : ¬ (k : Int) < nb := by omega
                        have b9 := HBB.out.trans (hbw.mono HBB.out.size)
                        go_wp2
                        go_ret
                        exact ⟨rfl, b9⟩
end Go.Proofs.YtkgflmbhkbeakabDoor
