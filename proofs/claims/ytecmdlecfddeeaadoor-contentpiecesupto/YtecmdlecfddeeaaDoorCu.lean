/- What content.Cut answers of a text that can be cut. -/
import Derived.Test.YtecmdlecfddeeaaDoorCt
namespace Go.Proofs.YtecmdlecfddeeaaDoor
open Go Go.RowKit Go.Lib
set_option linter.unusedVariables false

set_option maxHeartbeats 4000000 in
set_option maxRecDepth 100000 in
theorem cutO_ok {I : List Nat} {a : Nat → Addr} (o : Op5) (s : Value) (m : Nat) (w : World) (hI : ∀ i ∈ IC, i ∈ I) (hS : Std I a w) (hR : RN w s o.A) (hF : Fit o) (hO : Ins o) (hk : o.k = 1) (h1 : 1 ≤ m) (hm : m < (scs o.t.data.toList).length) :
    Calls Tryd.prog 23 #[opV o s, .int .i64 m] w fun r w' => ∃ s1 s2, r = .returned (.tuple #[opV ⟨1, o.t.extract 0 (pos (scs o.t.data.toList) m), z0, 0, []⟩ s1, opV ⟨1, o.t.extract (pos (scs o.t.data.toList) m) o.t.size, z0, 0, []⟩ s2, .nilIface]) ∧
      OwnA w' w.heap.size s1 o.A ∧ OwnA w' w.heap.size s2 o.A ∧ (∀ k, s1.ownBlock = some k → s2.ownBlock = some k → False) ∧ Below w.heap.size w w' := by
  have b0 := bx3_below w o s
  have c1 := op_ok o s _ hI (hS.below b0) (hR.below b0) hF hO
  have Z1 := bx3_1 w o s
  have Z2 := bx3_2 w o s
  have cc := fun W (hW : Below w.heap.size w W) => cut_ok o.t m W (IC_s hI) (hS.below hW) (by have := hF.t; omega) hO.utf (by omega)
  have cA := fun W v (hv : OwnA W w.heap.size v o.A) => attributes_any v o.A W (own_rowA hv) (own_nil hv) (by have := hF.n; omega)
  obtain ⟨Vu, Vx, hV⟩ := valP_if o.v
  unfold pieceV at c1
  rw [hV] at c1
  clear hR hS hI hF hO hV
  obtain ⟨k, t, ⟨x, n, u⟩, c, A⟩ := o
  simp only at hk
  subst hk
  simp only [if_true] at c1
  have h1I : ¬ (m : Int) < 1 := by omega
  have hmI : (m : Int) < ((scs t.data.toList).length : Int) := by simp only at hm; omega
  obtain ⟨l, hl⟩ : ∃ l : Int, ((scs t.data.toList).length : Int) = l := ⟨_, rfl⟩
  simp only [hl] at c1 hmI
  simp only at cc cA ⊢
  generalize t.extract 0 (pos (scs t.data.toList) m) = th at *
  generalize t.extract (pos (scs t.data.toList) m) t.size = tr at *
  clear hm hl h1
  have HA : Hid _ := cA
  clear cA
  go_enter Tryd.func23, Tryd.ntmps23
  go_wp2_with fail
  refine c1.mono ?_; rintro r w2 ⟨v', rfl, own, hb2⟩
  obtain ⟨p', c', rfl⟩ := own_slice own
  have b2 := b0.trans (hb2.mono b0.size)
  have Y1 := Z1.1.below hb2
  have X1 := Z1.2.below Z1.1 hb2
  have Y2 := Z2.1.below hb2
  have X2 := Z2.2.below Z2.1 hb2
  have HO : Hid (OwnA w2 w.heap.size (.slice p' A.length c') A) := own_weaken own b0.size
  clear c1 b0 hb2 Z1 Z2 own
  have as1 := as_i_i
  go_upto_region 5 with fail
  obtain ⟨W3, hW3⟩ : ∃ W3, W3 = w2.alloc (.cells #[.slice p' A.length c', .string t, .int .i64 l] 67) := ⟨_, rfl⟩
  have hb3 : Below w2.heap.size w2 W3 := by rw [hW3]; exact (Below.refl _ _).alloc (Nat.le_refl _) _
  have e0 : W3.cell? ⟨w2.heap.size, 0, none⟩ = some (.slice p' A.length c') := by rw [hW3]; simp
  have e1 : W3.cell? ⟨w2.heap.size, 1, none⟩ = some (.string t) := by rw [hW3]; simp
  have e2 : W3.cell? ⟨w2.heap.size, 2, none⟩ = some (.int .i64 l) := by rw [hW3]; simp
  have HO3 : Hid (OwnA W3 w.heap.size (.slice p' A.length c') A) := owns_below HO.out hb3
  rw [← hW3]
  have b3 := b2.trans (hb3.mono b2.size)
  have V1 := Y1.below hb3
  have U1 := X1.below Y1 hb3
  have V2 := Y2.below hb3
  have U2 := X2.below Y2 hb3
  have hw2 : w.heap.size + 1 + 1 < w2.heap.size := lt_of_cell Y2.d0
  obtain ⟨B9, hB9⟩ : ∃ B, B = w2.heap.size := ⟨_, rfl⟩
  rw [← hB9] at hw2
  rw [← hB9] at e0 e1 e2 ⊢
  clear hb3 Y1 Y2 X1 X2 hW3 b2 HO as1 hB9
  go_wp2_with fail
  refine (cc _ b3).mono ?_; rintro r w4 ⟨rfl, hb4⟩
  have b4 := b3.trans (hb4.mono b3.size)
  have Y1 := V1.below hb4
  have X1 := U1.below V1 hb4
  have Y2 := V2.below hb4
  have X2 := U2.below V2 hb4
  have i0 := (hb4.cell (lt_of_cell e0)).trans e0
  have HO4 : Hid (OwnA w4 w.heap.size (.slice p' A.length c') A) := owns_below HO3.out hb4
  clear hb4 V1 V2 U1 U2 b3 HO3 e0 e1 e2 cc
  go_wp2_with fail
  have HB : Hid (BoxO w4.drew (w.heap.size + 1) opZ nilS ∧ FrO w4.drew (w.heap.size + 1) ∧ BoxO w4.drew (w.heap.size + 1 + 1) opZ nilS ∧ FrO w4.drew (w.heap.size + 1 + 1)) := ⟨Y1.drew, X1.drew, Y2.drew, X2.drew⟩
  have i0 : w4.drew.cell? ⟨B9, 0, none⟩ = some (.slice p' A.length c') := i0
  have HO5 : Hid (OwnA w4.drew w.heap.size (.slice p' A.length c') A) := owns_same HO4.out (fun _ _ => rfl)
  have cA1 := HA.out w4.drew _ HO5.out
  have bD : Below w4.drew.heap.size w4.drew w4.drew := Below.refl _ _
  have b4d : Below w.heap.size w w4.drew := b4.drew
  clear Y1 X1 Y2 X2 b4 HO4
  have hz4 : w.heap.size ≤ w4.drew.heap.size := b4d.size
  have hs1 : w.heap.size ≤ w.heap.size + 1 := by omega
  have hs2 : w.heap.size ≤ w.heap.size + 1 + 1 := by omega
  have n1 : B9 ≠ w.heap.size + 1 := by omega
  have n2 : B9 ≠ w.heap.size + 1 + 1 := by omega
  go_region_held3 (fun w' => w'.cell? ⟨B9, 0, none⟩ = some (.slice p' A.length c') ∧ Below w.heap.size w w')
    (refine ⟨?_, ?_⟩ <;> with_reducible first | assumption | exact (cell_set7 _ n1 _ _ _ _ _ _ _).trans i8 | exact (cell_set7 _ n2 _ _ _ _ _ _ _).trans ((cell_set7 _ n1 _ _ _ _ _ _ _).trans i8) | exact below_set7 G8 hs1 _ _ _ _ _ _ _ | exact below_set7 (below_set7 G8 hs1 _ _ _ _ _ _ _) hs2 _ _ _ _ _ _ _)
    (first
      | (go_at_call 36; refine cA1.mono ?_; rintro r w5 ⟨s1, rfl, o1, b5⟩; obtain ⟨pa1, ca1, rfl⟩ := own_slice o1; clear cA1 bD; have G5 := b4d.trans (b5.mono hz4); have i5 := (b5.cell (lt_of_cell i0)).trans i0; have HS5 : Hid (OwnA w5 w.heap.size (.slice p' A.length c') A) := owns_below HO5.out b5; have O5 : Hid (OwnA w5 w4.drew.heap.size (.slice pa1 A.length ca1) A) := o1; clear HO5 o1)
      | (go_at_call 49; have h5 := O5.out; clear h5; refine (textOf_any th _ _ _ _).mono ?_; rintro r w6 ⟨rfl, b6⟩; have i6 := (b6.cell (lt_of_cell i5)).trans i5; have B6 := b5.trans (b6.mono b5.size); have G6 := b4d.trans (B6.mono hz4); have cA2 := HA.out w6 _ (owns_below HS5.out b6); have O6 : Hid (OwnA w6 w4.drew.heap.size (.slice pa1 A.length ca1) A) := owns_below O5.out b6; clear O5 HS5 i5 b5 b6)
      | (go_at_call 36; refine cA2.mono ?_; rintro r w7 ⟨s2, rfl, o2, b7⟩; obtain ⟨pa2, ca2, rfl⟩ := own_slice o2; clear cA2; have i7 := (b7.cell (lt_of_cell i6)).trans i6; have B7 := B6.trans (b7.mono B6.size); have G7 := b4d.trans (B7.mono hz4); have hz6 := B6.size; have O7 : Hid (OwnA w7 w4.drew.heap.size (.slice pa1 A.length ca1) A ∧ (∀ k, (Value.slice pa1 A.length ca1).ownBlock = some k → k < w6.heap.size) ∧ OwnA w7 w6.heap.size (.slice pa2 A.length ca2) A) := ⟨owns_below O6.out b7, fun k hk => (by obtain ⟨_, _, hc⟩ := owns_block O6.out k hk; exact (Array.getElem?_eq_some_iff.1 hc).1), o2⟩; clear O6 o2 i6 b7)
      | (go_at_call 49; refine (textOf_any tr _ _ _ _).mono ?_; rintro r w8 ⟨rfl, b8⟩; have i8 := (b8.cell (lt_of_cell i7)).trans i7; have B8 := B7.trans (b8.mono B7.size); have G8 := b4d.trans (B8.mono hz4); have O8 : Hid (OwnA w8 w4.drew.heap.size (.slice pa1 A.length ca1) A ∧ (∀ k, (Value.slice pa1 A.length ca1).ownBlock = some k → (Value.slice pa2 A.length ca2).ownBlock = some k → False) ∧ OwnA w8 w4.drew.heap.size (.slice pa2 A.length ca2) A) := ⟨owns_below O7.out.1 b8, fun k h1 h2 => (by have := O7.out.2.1 k h1; have := (owns_block O7.out.2.2 k h2).1; omega), own_weaken (owns_below O7.out.2.2 b8) hz6⟩; have Z8 := HB.out; clear O7 i7 B7 b8; obtain ⟨p0, p1, p2, p3, p4, p5, p6⟩ := Z8.1.below B8; obtain ⟨g0, g1, g2, g3, g4, g5, g6⟩ := Z8.2.1.below Z8.1 B8; obtain ⟨q0, q1, q2, q3, q4, q5, q6⟩ := Z8.2.2.1.below B8; obtain ⟨h0, h1, h2, h3, h4, h5, h6⟩ := Z8.2.2.2.below Z8.2.2.1 B8; simp only [z0] at p0 p1 p2 p3 p4 p5 p6 q0 q1 q2 q3 q4 q5 q6))
  have hz : w.heap.size + 1 + 1 < w4.drew.heap.size := lt_of_cell Z8.2.2.1.d0
  have same : ∀ (v0 v1 v2 v3 v4 v5 v6 u0 u1 u2 u3 u4 u5 u6 : Value) (v : Value) (hv : OwnA w8 w4.drew.heap.size v A), OwnA (((((((((((((((w8.setCell ⟨w.heap.size + 1, 0, none⟩ v0).setCell ⟨w.heap.size + 1, 1, none⟩ v1).setCell ⟨w.heap.size + 1, 2, none⟩ v2).setCell ⟨w.heap.size + 1, 3, none⟩ v3).setCell ⟨w.heap.size + 1, 4, none⟩ v4).setCell ⟨w.heap.size + 1, 5, none⟩ v5).setCell ⟨w.heap.size + 1, 6, none⟩ v6).setCell ⟨w.heap.size + 1 + 1, 0, none⟩ u0).setCell ⟨w.heap.size + 1 + 1, 1, none⟩ u1).setCell ⟨w.heap.size + 1 + 1, 2, none⟩ u2).setCell ⟨w.heap.size + 1 + 1, 3, none⟩ u3).setCell ⟨w.heap.size + 1 + 1, 4, none⟩ u4).setCell ⟨w.heap.size + 1 + 1, 5, none⟩ u5).setCell ⟨w.heap.size + 1 + 1, 6, none⟩ u6)) w.heap.size v A := fun v0 v1 v2 v3 v4 v5 v6 u0 u1 u2 u3 u4 u5 u6 v hv =>
    own_weaken (owns_same hv fun k hk => by
      have := (owns_block hv k hk).1
      exact (heap_set7 _ (by omega) _ _ _ _ _ _ _).trans (heap_set7 _ (by omega) _ _ _ _ _ _ _)) hz4
  go_wp2
  exact bodyPost_ret (v := .tuple #[opV ⟨1, th, z0, 0, []⟩ (.slice pa1 A.length ca1), opV ⟨1, tr, z0, 0, []⟩ (.slice pa2 A.length ca2), .nilIface]) (by simp [results, Tryd.results23, go_sem, z0, p0, p1, p2, p3, p4, p5, p6, q0, q1, q2, q3, q4, q5, q6]) rfl
    ⟨_, _, rfl, same _ _ _ _ _ _ _ _ _ _ _ _ _ _ _ O8.out.1, same _ _ _ _ _ _ _ _ _ _ _ _ _ _ _ O8.out.2.2, O8.out.2.1, below_set7 (below_set7 G8 hs1 _ _ _ _ _ _ _) hs2 _ _ _ _ _ _ _⟩
end Go.Proofs.YtecmdlecfddeeaaDoor
