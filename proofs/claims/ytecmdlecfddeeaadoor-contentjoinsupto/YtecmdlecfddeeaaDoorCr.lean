/- What vellumref04.copied and vellumref04.Join answer. -/
import Derived.Test.YtecmdlecfddeeaaDoorRo
import Derived.Test.YtecmdlecfddeeaaDoorPw
import Derived.Deep.RegionHeld3
namespace Go.Proofs.YtecmdlecfddeeaaDoor
open Go Go.RowKit Go.Lib
set_option linter.unusedVariables false

set_option maxHeartbeats 400000 in
theorem copied_any (v : Value) (A : List A2) (w : World) (hA : RN w v A) (hl : A.length ≤ 2097152) :
    Calls Tryd.prog 45 #[v] w fun r w' => ∃ v', r = .returned v' ∧ OwnA w' w.heap.size v' A ∧ Below w.heap.size w w' := by
  have b0 := (Below.refl w.heap.size w).alloc (Nat.le_refl _) (.cells #[] 49)
  have HA : Hid (RN (w.alloc (.cells #[] 49)) v A) := hA.below b0
  have oE := own_empty' w w.heap.size (Nat.le_refl _)
  clear hA
  go_enter Tryd.func45, Tryd.ntmps45
  go_wp2_with (at_builtin; refine wpList_append_row rfl (.tmp 3) (.tmp 4) rfl w.heap.size (.slice (some ⟨w.heap.size, 0, none⟩) 0 0) [] rfl oE v A rfl HA.out.row HA.out.nz (by simpa using hl) b0.size ?_; intro v9 w9 own9 gr9; have b9 := b0.grown gr9 b0.size (fun j hj => by simp only [Value.ownBlock, Option.some.injEq] at hj; omega))
  go_ret
  exact ⟨_, rfl, own9, b9⟩

set_option maxHeartbeats 2000000 in
set_option maxRecDepth 100000 in
theorem refJoin_no1 {I : List Nat} {a : Nat → Addr} (o o' : Op5) (s s' : Value) (w : World) (hS : Std I a w) (hR : RN w s o.A) (hF : Fit o) (he : insE o ≠ 0) :
    Calls Tryd.prog 27 #[opV o s, opV o' s'] w fun r w' => r = .returned (.tuple #[opV opZ nilS, .bool false, .int .i64 (insE o)]) ∧ Below w.heap.size w w' := by
  have b0 := bxJ_below w o s o' s'
  have c1 := ref_ins o s _ (hS.below b0) (hR.below b0) hF
  have Z2 := bxJ_2 w o s o' s'
  obtain ⟨e, hE⟩ : ∃ e, insE o = e := ⟨_, rfl⟩
  rw [hE] at c1 he ⊢
  have heI : ((e : Int) == 0) = false := by simp; omega
  have heJ : ((e : Int) != 0) = true := by simp; omega
  clear hR hS hF hE
  obtain ⟨k, t, ⟨x, n, u⟩, c, A⟩ := o
  obtain ⟨k', t', ⟨x', n', u'⟩, c', A'⟩ := o'
  go_enter Tryd.func27, Tryd.ntmps27
  go_wp2_with fail
  refine c1.mono ?_; rintro r w2 ⟨rfl, hb2⟩
  have b2 := b0.trans (hb2.mono b0.size)
  obtain ⟨q0, q1, q2, q3, q4, q5, q6⟩ := Z2.1.below hb2
  obtain ⟨h0, h1, h2, h3, h4, h5, h6⟩ := Z2.2.below Z2.1 hb2
  simp only [z0] at q0 q1 q2 q3 q4 q5 q6
  clear c1 b0 hb2 Z2
  go_wp2
  exact bodyPost_ret (v := .tuple #[opV opZ nilS, .bool false, .int .i64 e]) (by simp [results, Tryd.results27, go_sem, z0, q0, q1, q2, q3, q4, q5, q6]) rfl ⟨rfl, below_set7 b2 (by omega) _ _ _ _ _ _ _⟩

set_option maxHeartbeats 2000000 in
set_option maxRecDepth 100000 in
theorem refJoin_no2 {I : List Nat} {a : Nat → Addr} (o o' : Op5) (s s' : Value) (w : World) (hS : Std I a w) (hR : RN w s o.A) (hR' : RN w s' o'.A) (hF : Fit o) (hF' : Fit o') (h0 : insE o = 0) (he : insE o' ≠ 0) :
    Calls Tryd.prog 27 #[opV o s, opV o' s'] w fun r w' => r = .returned (.tuple #[opV opZ nilS, .bool false, .int .i64 (insE o')]) ∧ Below w.heap.size w w' := by
  have b0 := bxJ_below w o s o' s'
  have c1 := ref_ins o s _ (hS.below b0) (hR.below b0) hF
  have c2 := fun W (hW : Below w.heap.size w W) => ref_ins o' s' W (hS.below hW) (hR'.below hW) hF'
  have Z1 := bxJ_1 w o s o' s'
  have Z2 := bxJ_2 w o s o' s'
  obtain ⟨e, hE⟩ : ∃ e, insE o' = e := ⟨_, rfl⟩
  rw [h0] at c1
  rw [hE] at he ⊢
  simp only [hE] at c2
  have heI : ((e : Int) == 0) = false := by simp; omega
  have heJ : ((e : Int) != 0) = true := by simp; omega
  clear hR hR' hS hF hF' hE h0
  obtain ⟨k, t, ⟨x, n, u⟩, c, A⟩ := o
  obtain ⟨k', t', ⟨x', n', u'⟩, c', A'⟩ := o'
  go_enter Tryd.func27, Tryd.ntmps27
  go_wp2_with fail
  refine c1.mono ?_; rintro r w2 ⟨rfl, hb2⟩
  have b2 := b0.trans (hb2.mono b0.size)
  obtain ⟨d0, d1, d2, d3, d4, d5, d6⟩ := Z1.below hb2
  have Y2 := Z2.1.below hb2
  have X2 := Z2.2.below Z2.1 hb2
  simp only at d0 d1 d2 d3 d4 d5
  clear c1 b0 hb2 Z2 Z1
  go_wp2_with fail
  refine (c2 _ b2).mono ?_; rintro r w3 ⟨rfl, hb3⟩
  have b3 := b2.trans (hb3.mono b2.size)
  obtain ⟨q0, q1, q2, q3, q4, q5, q6⟩ := Y2.below hb3
  obtain ⟨h0, h1, h2, h3, h4, h5, h6⟩ := X2.below Y2 hb3
  simp only [z0] at q0 q1 q2 q3 q4 q5 q6
  clear c2 b2 hb3 Y2 X2 d0 d1 d2 d3 d4 d5 d6
  go_wp2
  exact bodyPost_ret (v := .tuple #[opV opZ nilS, .bool false, .int .i64 e]) (by simp [results, Tryd.results27, go_sem, z0, q0, q1, q2, q3, q4, q5, q6]) rfl ⟨rfl, below_set7 b3 (by omega) _ _ _ _ _ _ _⟩

set_option maxHeartbeats 2000000 in
set_option maxRecDepth 100000 in
theorem refJoin_ne {I : List Nat} {a : Nat → Addr} (o o' : Op5) (s s' : Value) (w : World) (hS : Std I a w) (hR : RN w s o.A) (hR' : RN w s' o'.A) (hF : Fit o) (hF' : Fit o') (h0 : insE o = 0) (h0' : insE o' = 0) (hn : joinB o o' = false) :
    Calls Tryd.prog 27 #[opV o s, opV o' s'] w fun r w' => r = .returned (.tuple #[opV opZ nilS, .bool false, .int .i64 0]) ∧ Below w.heap.size w w' := by
  have b0 := bxJ_below w o s o' s'
  have c1 := ref_ins o s _ (hS.below b0) (hR.below b0) hF
  have c2 := fun W (hW : Below w.heap.size w W) => ref_ins o' s' W (hS.below hW) (hR'.below hW) hF'
  have cS := fun W (hW : Below w.heap.size w W) => sameAttrs_any s s' o.A o'.A W (hR.below hW).row (hR'.below hW).row (by have := hF.n; omega) (by have := hF'.n; omega)
  have Z0 : BoxO (bxJ w o s o' s') w.heap.size o s := ((BoxO.new w o s).below ((Below.refl _ _).alloc (Nat.le_refl _) _)).below ((Below.refl _ _).alloc (Nat.le_refl _) _)
  have Z1 := bxJ_1 w o s o' s'
  have Z2 := bxJ_2 w o s o' s'
  rw [h0] at c1
  simp only [h0'] at c2
  obtain ⟨R, hRR⟩ : ∃ R, decide (o.A = o'.A) = R := ⟨_, rfl⟩
  unfold joinB at hn
  rw [hRR] at hn
  simp only [hRR] at cS
  clear hR hR' hS hF hF' h0 h0' hRR
  obtain ⟨k, t, ⟨x, n, u⟩, c, A⟩ := o
  obtain ⟨k', t', ⟨x', n', u'⟩, c', A'⟩ := o'
  simp only at hn
  go_enter Tryd.func27, Tryd.ntmps27
  go_wp2_with fail
  refine c1.mono ?_; rintro r w2 ⟨rfl, hb2⟩
  have b2 := b0.trans (hb2.mono b0.size)
  obtain ⟨d0, d1, d2, d3, d4, d5, d6⟩ := Z1.below hb2
  have Y0 := Z0.below hb2
  have Y1 := Z1.below hb2
  have Y2 := Z2.1.below hb2
  have X2 := Z2.2.below Z2.1 hb2
  simp only at d0 d1 d2 d3 d4 d5
  clear c1 b0 hb2 Z2 Z1 Z0
  go_wp2_with fail
  refine (c2 _ b2).mono ?_; rintro r w3 ⟨rfl, hb3⟩
  have b3 := b2.trans (hb3.mono b2.size)
  have V0 := Y0.below hb3
  have V1 := Y1.below hb3
  have V2 := Y2.below hb3
  have U2 := X2.below Y2 hb3
  have g0 := V0.d0
  have g6 := V0.d6
  have g0' := V1.d0
  have g6' := V1.d6
  simp only at g0 g6 g0' g6'
  clear c2 b2 hb3 Y0 Y1 Y2 X2 d0 d1 d2 d3 d4 d5 d6
  go_wp2_with fail
  refine (cS _ b3).mono ?_; rintro r w4 ⟨rfl, hb4⟩
  have b4 := b3.trans (hb4.mono b3.size)
  obtain ⟨q0, q1, q2, q3, q4, q5, q6⟩ := V2.below hb4
  obtain ⟨h0, h1, h2, h3, h4, h5, h6⟩ := U2.below V2 hb4
  have e0 := (hb4.cell (lt_of_cell g0)).trans g0
  have e0' := (hb4.cell (lt_of_cell g0')).trans g0'
  simp only [z0] at q0 q1 q2 q3 q4 q5 q6
  clear cS b3 hb4 V0 V1 V2 U2 g0 g6 g0' g6'
  cases R with
  | false =>
    clear hn
    go_wp2
    exact bodyPost_ret (v := .tuple #[opV opZ nilS, .bool false, .int .i64 0]) (by simp [results, Tryd.results27, go_sem, z0, q0, q1, q2, q3, q4, q5, q6]) rfl ⟨rfl, below_set7 b4 (by omega) _ _ _ _ _ _ _⟩
  | true =>
    by_cases hk : k = 1
    · subst hk
      have hk' : (k' != 1) = true := by
        simp at hn
        simpa using hn
      clear hn
      go_wp2
      exact bodyPost_ret (v := .tuple #[opV opZ nilS, .bool false, .int .i64 0]) (by simp [results, Tryd.results27, go_sem, z0, q0, q1, q2, q3, q4, q5, q6]) rfl ⟨rfl, below_set7 b4 (by omega) _ _ _ _ _ _ _⟩
    · have hk' : (k != 1) = true := by simpa using hk
      clear hn hk
      go_wp2
      exact bodyPost_ret (v := .tuple #[opV opZ nilS, .bool false, .int .i64 0]) (by simp [results, Tryd.results27, go_sem, z0, q0, q1, q2, q3, q4, q5, q6]) rfl ⟨rfl, below_set7 b4 (by omega) _ _ _ _ _ _ _⟩

set_option maxHeartbeats 2000000 in
set_option maxRecDepth 100000 in
theorem refJoin_ok {I : List Nat} {a : Nat → Addr} (o o' : Op5) (s s' : Value) (w : World) (hS : Std I a w) (hR : RN w s o.A) (hR' : RN w s' o'.A) (hF : Fit o) (hF' : Fit o') (h0 : insE o = 0) (h0' : insE o' = 0) (hk : o.k = 1) (hk' : o'.k = 1) (hA : o.A = o'.A) :
    Calls Tryd.prog 27 #[opV o s, opV o' s'] w fun r w' => ∃ s1, r = .returned (.tuple #[opV (joinO o o') s1, .bool true, .int .i64 0]) ∧ OwnA w' w.heap.size s1 o.A ∧ Below w.heap.size w w' := by
  have b0 := bxJ_below w o s o' s'
  have c1 := ref_ins o s _ (hS.below b0) (hR.below b0) hF
  have c2 := fun W (hW : Below w.heap.size w W) => ref_ins o' s' W (hS.below hW) (hR'.below hW) hF'
  have cS := fun W (hW : Below w.heap.size w W) => sameAttrs_any s s' o.A o'.A W (hR.below hW).row (hR'.below hW).row (by have := hF.n; omega) (by have := hF'.n; omega)
  have cC := fun W (hW : Below w.heap.size w W) => copied_any s o.A W (hR.below hW) (by have := hF.n; omega)
  have Z0 : BoxO (bxJ w o s o' s') w.heap.size o s := ((BoxO.new w o s).below ((Below.refl _ _).alloc (Nat.le_refl _) _)).below ((Below.refl _ _).alloc (Nat.le_refl _) _)
  have Z1 := bxJ_1 w o s o' s'
  have Z2 := bxJ_2 w o s o' s'
  rw [h0] at c1
  simp only [h0'] at c2
  simp only [decide_eq_true hA] at cS
  have hcat : ¬ 9223372036854775807 < o.t.size + o'.t.size := by have := hF.t; have := hF'.t; omega
  clear hR hR' hS hF hF' h0 h0' hA
  unfold joinO
  obtain ⟨k, t, ⟨x, n, u⟩, c, A⟩ := o
  obtain ⟨k', t', ⟨x', n', u'⟩, c', A'⟩ := o'
  simp only at hk hk' hcat cC
  subst hk
  subst hk'
  go_enter Tryd.func27, Tryd.ntmps27
  go_wp2_with fail
  refine c1.mono ?_; rintro r w2 ⟨rfl, hb2⟩
  have b2 := b0.trans (hb2.mono b0.size)
  obtain ⟨d0, d1, d2, d3, d4, d5, d6⟩ := Z1.below hb2
  have Y0 := Z0.below hb2
  have Y1 := Z1.below hb2
  have Y2 := Z2.1.below hb2
  have X2 := Z2.2.below Z2.1 hb2
  simp only at d0 d1 d2 d3 d4 d5
  clear c1 b0 hb2 Z2 Z1 Z0
  go_wp2_with fail
  refine (c2 _ b2).mono ?_; rintro r w3 ⟨rfl, hb3⟩
  have b3 := b2.trans (hb3.mono b2.size)
  have V0 := Y0.below hb3
  have V1 := Y1.below hb3
  have V2 := Y2.below hb3
  have U2 := X2.below Y2 hb3
  have g0 := V0.d0
  have g6 := V0.d6
  have g0' := V1.d0
  have g6' := V1.d6
  simp only at g0 g6 g0' g6'
  clear c2 b2 hb3 Y0 Y1 Y2 X2 d0 d1 d2 d3 d4 d5 d6
  go_wp2_with fail
  refine (cS _ b3).mono ?_; rintro r w4 ⟨rfl, hb4⟩
  have b4 := b3.trans (hb4.mono b3.size)
  have T2 := V2.below hb4
  have S2 := U2.below V2 hb4
  have e0 := (hb4.cell (lt_of_cell g0)).trans g0
  have e1 := (V0.below hb4).d1
  have e6 := (V0.below hb4).d6
  have e0' := (hb4.cell (lt_of_cell g0')).trans g0'
  have e1' := (V1.below hb4).d1
  simp only at e1 e6 e1'
  clear cS b3 hb4 V0 V1 V2 U2 g0 g6 g0' g6'
  go_wp2_with fail
  have HB : Hid (BoxO w4.drew (w.heap.size + 1 + 1) opZ nilS ∧ FrO w4.drew (w.heap.size + 1 + 1)) := ⟨T2.drew, S2.drew⟩
  have j1 : w4.drew.cell? ⟨w.heap.size, 1, none⟩ = some (.string t) := e1
  have j6 : w4.drew.cell? ⟨w.heap.size, 6, none⟩ = some s := e6
  have j1' : w4.drew.cell? ⟨w.heap.size + 1, 1, none⟩ = some (.string t') := e1'
  have cC1 := cC w4.drew b4.drew
  have b4d : Below w.heap.size w w4.drew := b4.drew
  clear T2 S2 b4 e0 e1 e6 e0' e1' cC
  have hz5 : w.heap.size ≤ w4.drew.heap.size := b4d.size
  have hs2 : w.heap.size ≤ w.heap.size + 1 + 1 := by omega
  have n1 : w.heap.size ≠ w.heap.size + 1 + 1 := by omega
  have n2 : w.heap.size + 1 ≠ w.heap.size + 1 + 1 := by omega
  go_region_held3 (fun w' => w'.cell? ⟨w.heap.size, 1, none⟩ = some (.string t) ∧ w'.cell? ⟨w.heap.size, 6, none⟩ = some s ∧ w'.cell? ⟨w.heap.size + 1, 1, none⟩ = some (.string t') ∧ Below w.heap.size w w')
    (refine ⟨?_, ?_, ?_, ?_⟩ <;> with_reducible first | assumption | exact (cell_set7 _ n1 _ _ _ _ _ _ _).trans i6 | exact (cell_set7 _ n1 _ _ _ _ _ _ _).trans k6 | exact (cell_set7 _ n2 _ _ _ _ _ _ _).trans l6 | exact below_set7 G6 hs2 _ _ _ _ _ _ _)
    (first
      | (go_at_call 45; refine cC1.mono ?_; rintro r w6 ⟨s1, rfl, o1, b6⟩; obtain ⟨pa1, ca1, rfl⟩ := own_slice o1; clear cC1; have G6 := b4d.trans (b6.mono hz5); have i6 := (b6.cell (lt_of_cell j1)).trans j1; have k6 := (b6.cell (lt_of_cell j6)).trans j6; have l6 := (b6.cell (lt_of_cell j1')).trans j1'; have O6 : Hid (OwnA w6 w4.drew.heap.size (.slice pa1 A.length ca1) A) := o1; clear o1; have Z8 := HB.out; obtain ⟨q0, q1, q2, q3, q4, q5, q6⟩ := Z8.1.below b6; obtain ⟨h0, h1, h2, h3, h4, h5, h6⟩ := Z8.2.below Z8.1 b6; simp only [z0] at q0 q1 q2 q3 q4 q5 q6))
  have hz : w.heap.size + 1 + 1 < w4.drew.heap.size := lt_of_cell Z8.1.d0
  have same : ∀ (u0 u1 u2 u3 u4 u5 u6 : Value) (v : Value) (hv : OwnA w6 w4.drew.heap.size v A), OwnA (((((((w6.setCell ⟨w.heap.size + 1 + 1, 0, none⟩ u0).setCell ⟨w.heap.size + 1 + 1, 1, none⟩ u1).setCell ⟨w.heap.size + 1 + 1, 2, none⟩ u2).setCell ⟨w.heap.size + 1 + 1, 3, none⟩ u3).setCell ⟨w.heap.size + 1 + 1, 4, none⟩ u4).setCell ⟨w.heap.size + 1 + 1, 5, none⟩ u5).setCell ⟨w.heap.size + 1 + 1, 6, none⟩ u6) w.heap.size v A := fun u0 u1 u2 u3 u4 u5 u6 v hv =>
    own_weaken (owns_same hv fun k hk => by
      have := (owns_block hv k hk).1
      exact heap_set7 _ (by omega) _ _ _ _ _ _ _) hz5
  go_wp2
  exact bodyPost_ret (v := .tuple #[opV ⟨1, t ++ t', z0, 0, []⟩ (.slice pa1 A.length ca1), .bool true, .int .i64 0]) (by simp [results, Tryd.results27, go_sem, z0, q0, q1, q2, q3, q4, q5, q6]) rfl
    ⟨_, rfl, same _ _ _ _ _ _ _ _ O6.out, below_set7 G6 hs2 _ _ _ _ _ _ _⟩

/-- The reference's Join at all operations. -/
theorem refJoin_any {I : List Nat} {a : Nat → Addr} (o o' : Op5) (s s' : Value) (w : World) (hS : Std I a w) (hR : RN w s o.A) (hR' : RN w s' o'.A) (hF : Fit o) (hF' : Fit o') :
    Calls Tryd.prog 27 #[opV o s, opV o' s'] w fun r w' => ∃ s1, r = .returned (.tuple #[opV (jR o o') s1, .bool (jB o o'), .int .i64 (joinE o o')]) ∧ OwnA w' w.heap.size s1 (jR o o').A ∧ Below w.heap.size w w' := by
  have oN : ∀ W, OwnA W w.heap.size nilS [] := fun W => ⟨rfl, Or.inl ⟨rfl, rfl⟩⟩
  have no : ∀ E : Nat, E = joinE o o' → jB o o' = false → Calls Tryd.prog 27 #[opV o s, opV o' s'] w (fun r w' => r = .returned (.tuple #[opV opZ nilS, .bool false, .int .i64 E]) ∧ Below w.heap.size w w') → Calls Tryd.prog 27 #[opV o s, opV o' s'] w fun r w' => ∃ s1, r = .returned (.tuple #[opV (jR o o') s1, .bool (jB o o'), .int .i64 (joinE o o')]) ∧ OwnA w' w.heap.size s1 (jR o o').A ∧ Below w.heap.size w w' := fun E hE hB h => by
    have hr : jR o o' = opZ := by unfold jR; rw [if_neg (by rw [hB]; exact Bool.false_ne_true)]
    rw [hr, hB, ← hE]
    exact h.mono fun r w' ⟨h1, h2⟩ => ⟨nilS, h1, oN w', h2⟩
  by_cases h1 : insE o = 0
  · by_cases h2 : insE o' = 0
    · have hE : joinE o o' = 0 := by unfold joinE; rw [if_pos h1, h2]
      by_cases hj : joinB o o' = true
      · have hB : jB o o' = true := by unfold jB; rw [hE, hj]; rfl
        obtain ⟨_, _, k1, k2, hA⟩ := jB_yes hB
        have hr : jR o o' = joinO o o' := by unfold jR; rw [if_pos hB]
        rw [hr, hB, hE]
        exact refJoin_ok o o' s s' w hS hR hR' hF hF' h1 h2 k1 k2 hA
      · have hj' : joinB o o' = false := by simpa using hj
        have hB : jB o o' = false := by unfold jB; rw [hj']; simp
        exact no 0 hE.symm hB (refJoin_ne o o' s s' w hS hR hR' hF hF' h1 h2 hj')
    · have hE : joinE o o' = insE o' := by unfold joinE; rw [if_pos h1]
      have hB : jB o o' = false := by unfold jB; rw [hE]; simp [h2]
      exact no _ hE.symm hB (refJoin_no2 o o' s s' w hS hR hR' hF hF' h1 h2)
  · have hE : joinE o o' = insE o := by unfold joinE; rw [if_neg h1]
    have hB : jB o o' = false := by unfold jB; rw [hE]; simp [h1]
    exact no _ hE.symm hB (refJoin_no1 o o' s s' w hS hR hF h1)
end Go.Proofs.YtecmdlecfddeeaaDoor
