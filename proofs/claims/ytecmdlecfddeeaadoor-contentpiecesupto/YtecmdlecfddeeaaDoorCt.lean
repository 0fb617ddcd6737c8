/- What content.Cut answers. -/
import Derived.Test.YtecmdlecfddeeaaDoorCq
import Derived.BigRegion
import Derived.Deep.RegionHeld3
import Derived.Deep.DeepCutAuto
namespace Go.Proofs.YtecmdlecfddeeaaDoor
open Go Go.RowKit Go.Lib
set_option linter.unusedVariables false

/-- The three boxes of a call that answers two operations. -/
abbrev bx3 (w : World) (o : Op5) (s : Value) : World := ((w.alloc (.cells (opC o s) 26)).alloc (.cells (opC opZ nilS) 26)).alloc (.cells (opC opZ nilS) 26)
theorem bx3_below (w : World) (o : Op5) (s : Value) : Below w.heap.size w (bx3 w o s) := (((Below.refl w.heap.size w).alloc (Nat.le_refl _) _).alloc (by simp) _).alloc (by simp; omega) _
theorem bx3_0 (w : World) (o : Op5) (s : Value) : BoxO (bx3 w o s) w.heap.size o s := ((BoxO.new w o s).below ((Below.refl _ _).alloc (Nat.le_refl _) _)).below ((Below.refl _ _).alloc (Nat.le_refl _) _)
theorem bx3_1 (w : World) (o : Op5) (s : Value) : BoxO (bx3 w o s) (w.heap.size + 1) opZ nilS ∧ FrO (bx3 w o s) (w.heap.size + 1) := by
  have h1 := BoxO.new (w.alloc (.cells (opC o s) 26)) opZ nilS
  have h2 := FrO.new (w.alloc (.cells (opC o s) 26)) opZ nilS
  rw [World.size_alloc] at h1 h2
  exact ⟨h1.below ((Below.refl _ _).alloc (Nat.le_refl _) _), h2.below h1 ((Below.refl _ _).alloc (Nat.le_refl _) _)⟩
theorem bx3_2 (w : World) (o : Op5) (s : Value) : BoxO (bx3 w o s) (w.heap.size + 1 + 1) opZ nilS ∧ FrO (bx3 w o s) (w.heap.size + 1 + 1) := by
  have h1 := BoxO.new ((w.alloc (.cells (opC o s) 26)).alloc (.cells (opC opZ nilS) 26)) opZ nilS
  have h2 := FrO.new ((w.alloc (.cells (opC o s) 26)).alloc (.cells (opC opZ nilS) 26)) opZ nilS
  rw [World.size_alloc, World.size_alloc] at h1 h2
  exact ⟨h1, h2⟩

theorem heap_set7 {B k : Nat} (w' : World) (hk : k ≠ B) (v0 v1 v2 v3 v4 v5 v6 : Value) :
    (((((((w'.setCell ⟨B, 0, none⟩ v0).setCell ⟨B, 1, none⟩ v1).setCell ⟨B, 2, none⟩ v2).setCell ⟨B, 3, none⟩ v3).setCell ⟨B, 4, none⟩ v4).setCell ⟨B, 5, none⟩ v5).setCell ⟨B, 6, none⟩ v6).heap[k]? = w'.heap[k]? := by
  have h : ∀ (W : World) (j : Nat) (v : Value), (W.setCell ⟨B, j, none⟩ v).heap[k]? = W.heap[k]? := fun W j v => Below.heap_setCell _ _ _ _ hk
  rw [h, h, h, h, h, h, h]
theorem cell_set7 {B k j : Nat} (w' : World) (hk : k ≠ B) (v0 v1 v2 v3 v4 v5 v6 : Value) :
    (((((((w'.setCell ⟨B, 0, none⟩ v0).setCell ⟨B, 1, none⟩ v1).setCell ⟨B, 2, none⟩ v2).setCell ⟨B, 3, none⟩ v3).setCell ⟨B, 4, none⟩ v4).setCell ⟨B, 5, none⟩ v5).setCell ⟨B, 6, none⟩ v6).cell? ⟨k, j, none⟩ = w'.cell? ⟨k, j, none⟩ :=
  World.cell?_of_block (a := ⟨k, j, none⟩) (heap_set7 w' hk v0 v1 v2 v3 v4 v5 v6)
theorem below_set7 {b B : Nat} {w w' : World} (h : Below b w w') (hB : b ≤ B) (v0 v1 v2 v3 v4 v5 v6 : Value) :
    Below b w (((((((w'.setCell ⟨B, 0, none⟩ v0).setCell ⟨B, 1, none⟩ v1).setCell ⟨B, 2, none⟩ v2).setCell ⟨B, 3, none⟩ v3).setCell ⟨B, 4, none⟩ v4).setCell ⟨B, 5, none⟩ v5).setCell ⟨B, 6, none⟩ v6) :=
  ((((((h.setCell hB _).setCell hB _).setCell hB _).setCell hB _).setCell hB _).setCell hB _).setCell hB _

set_option maxHeartbeats 2000000 in
set_option maxRecDepth 100000 in
theorem cutO_no {I : List Nat} {a : Nat → Addr} (o : Op5) (s : Value) (m : Int) (w : World) (hI : ∀ i ∈ IC, i ∈ I) (hS : Std I a w) (hR : RN w s o.A) (hF : Fit o) (e : Nat) (he : insE o = e + 1) :
    Calls Tryd.prog 23 #[opV o s, .int .i64 m] w fun r w' => r = .returned (.tuple #[opV opZ nilS, opV opZ nilS, errV a e]) ∧ Below w.heap.size w w' := by
  have b0 := bx3_below w o s
  have c1 := op_no o s _ hI (hS.below b0) (hR.below b0) hF e he
  have Z1 := bx3_1 w o s
  have Z2 := bx3_2 w o s
  clear hR hS hI hF he
  obtain ⟨k, t, ⟨x, n, u⟩, c, A⟩ := o
  go_enter Tryd.func23, Tryd.ntmps23
  go_wp2_with fail
  refine c1.mono ?_; rintro r w2 ⟨rfl, hb2⟩
  have b2 := b0.trans (hb2.mono b0.size)
  obtain ⟨p0, p1, p2, p3, p4, p5, p6⟩ := Z1.1.below hb2
  obtain ⟨g0, g1, g2, g3, g4, g5, g6⟩ := Z1.2.below Z1.1 hb2
  obtain ⟨q0, q1, q2, q3, q4, q5, q6⟩ := Z2.1.below hb2
  obtain ⟨h0, h1, h2, h3, h4, h5, h6⟩ := Z2.2.below Z2.1 hb2
  simp only [z0] at p0 p1 p2 p3 p4 p5 p6 q0 q1 q2 q3 q4 q5 q6
  clear c1 b0 hb2 Z1 Z2
  go_wp2
  exact bodyPost_ret (v := .tuple #[opV opZ nilS, opV opZ nilS, errV a e]) (by simp [results, Tryd.results23, go_sem, z0, p0, p1, p2, p3, p4, p5, p6, q0, q1, q2, q3, q4, q5, q6]) rfl ⟨rfl, below_set7 (below_set7 b2 (by omega) _ _ _ _ _ _ _) (by omega) _ _ _ _ _ _ _⟩

set_option maxHeartbeats 2000000 in
set_option maxRecDepth 100000 in
theorem cutO_emb {I : List Nat} {a : Nat → Addr} (o : Op5) (s : Value) (m : Int) (w : World) (hI : ∀ i ∈ IC, i ∈ I) (hS : Std I a w) (hR : RN w s o.A) (hF : Fit o) (hO : Ins o) (hk : o.k = 2) :
    Calls Tryd.prog 23 #[opV o s, .int .i64 m] w fun r w' => r = .returned (.tuple #[opV opZ nilS, opV opZ nilS, errV a 11]) ∧ Below w.heap.size w w' := by
  have b0 := bx3_below w o s
  have c1 := op_ok o s _ hI (hS.below b0) (hR.below b0) hF hO
  have Z1 := bx3_1 w o s
  have Z2 := bx3_2 w o s
  have hg : ∀ W, Below w.heap.size w W → W.cell? ⟨0, 0, none⟩ = some (errV a 11) := fun W hW => (hS.below hW).er.cell 11 (hI 11 (by simp))
  obtain ⟨Vu, Vx, hV⟩ := valP_if o.v
  unfold pieceV at c1
  rw [hV] at c1
  clear hR hS hI hF hO hV
  obtain ⟨k, t, ⟨x, n, u⟩, c, A⟩ := o
  simp only at hk
  subst hk
  simp only [show ¬ ((2 : Int) = 1) by omega, if_false] at c1
  go_enter Tryd.func23, Tryd.ntmps23
  go_wp2_with fail
  refine c1.mono ?_; rintro r w2 ⟨v', rfl, own, hb2⟩
  obtain ⟨p', c', rfl⟩ := own_slice own
  have b2 := b0.trans (hb2.mono b0.size)
  have Y1 := Z1.1.below hb2
  have X1 := Z1.2.below Z1.1 hb2
  have Y2 := Z2.1.below hb2
  have X2 := Z2.2.below Z2.1 hb2
  clear c1 b0 hb2 Z1 Z2 own
  have as1 := as_i_i
  have as2 := as_e_i
  go_upto_region 5 with fail
  clear as1 as2
  obtain ⟨W3, hW3⟩ : ∃ W3, W3 = w2.alloc (.cells #[.slice none 0 0, .string ⟨#[]⟩, .int .i64 0] 67) := ⟨_, rfl⟩
  have hb3 : Below w2.heap.size w2 W3 := by rw [hW3]; exact (Below.refl _ _).alloc (Nat.le_refl _) _
  have e2 : W3.cell? ⟨w2.heap.size, 2, none⟩ = some (.int .i64 0) := by rw [hW3]; simp
  rw [← hW3]
  have b3 := b2.trans (hb3.mono b2.size)
  obtain ⟨p0, p1, p2, p3, p4, p5, p6⟩ := Y1.below hb3
  obtain ⟨g0, g1, g2, g3, g4, g5, g6⟩ := X1.below Y1 hb3
  obtain ⟨q0, q1, q2, q3, q4, q5, q6⟩ := Y2.below hb3
  obtain ⟨h0, h1, h2, h3, h4, h5, h6⟩ := X2.below Y2 hb3
  have hgr := hg _ b3
  simp only [z0] at p0 p1 p2 p3 p4 p5 p6 q0 q1 q2 q3 q4 q5 q6
  clear hb3 Y1 Y2 X1 X2 hW3 hg b2
  go_wp2
  go_region
  go_wp2
  exact bodyPost_ret (v := .tuple #[opV opZ nilS, opV opZ nilS, errV a 11]) (by simp [results, Tryd.results23, go_sem, z0, p0, p1, p2, p3, p4, p5, p6, q0, q1, q2, q3, q4, q5, q6]) rfl ⟨rfl, (below_set7 (below_set7 b3 (by omega) _ _ _ _ _ _ _) (by omega) _ _ _ _ _ _ _).drew⟩

set_option maxHeartbeats 2000000 in
set_option maxRecDepth 100000 in
theorem cutO_low {I : List Nat} {a : Nat → Addr} (o : Op5) (s : Value) (m : Int) (w : World) (hI : ∀ i ∈ IC, i ∈ I) (hS : Std I a w) (hR : RN w s o.A) (hF : Fit o) (hO : Ins o) (hk : o.k = 1) (hm : m < 1) :
    Calls Tryd.prog 23 #[opV o s, .int .i64 m] w fun r w' => r = .returned (.tuple #[opV opZ nilS, opV opZ nilS, errV a 11]) ∧ Below w.heap.size w w' := by
  have b0 := bx3_below w o s
  have c1 := op_ok o s _ hI (hS.below b0) (hR.below b0) hF hO
  have Z1 := bx3_1 w o s
  have Z2 := bx3_2 w o s
  have hg : ∀ W, Below w.heap.size w W → W.cell? ⟨0, 0, none⟩ = some (errV a 11) := fun W hW => (hS.below hW).er.cell 11 (hI 11 (by simp))
  obtain ⟨Vu, Vx, hV⟩ := valP_if o.v
  unfold pieceV at c1
  rw [hV] at c1
  clear hR hS hI hF hO hV
  obtain ⟨k, t, ⟨x, n, u⟩, c, A⟩ := o
  simp only at hk
  subst hk
  simp only [if_true] at c1
  obtain ⟨l, hl⟩ : ∃ l : Int, ((scs t.data.toList).length : Int) = l := ⟨_, rfl⟩
  simp only [hl] at c1
  go_enter Tryd.func23, Tryd.ntmps23
  go_wp2_with fail
  refine c1.mono ?_; rintro r w2 ⟨v', rfl, own, hb2⟩
  obtain ⟨p', c', rfl⟩ := own_slice own
  have b2 := b0.trans (hb2.mono b0.size)
  have Y1 := Z1.1.below hb2
  have X1 := Z1.2.below Z1.1 hb2
  have Y2 := Z2.1.below hb2
  have X2 := Z2.2.below Z2.1 hb2
  clear c1 b0 hb2 Z1 Z2 own
  have as1 := as_i_i
  have as2 := as_e_i
  go_upto_region 5 with fail
  clear as1 as2
  obtain ⟨W3, hW3⟩ : ∃ W3, W3 = w2.alloc (.cells #[.slice p' A.length c', .string t, .int .i64 l] 67) := ⟨_, rfl⟩
  have hb3 : Below w2.heap.size w2 W3 := by rw [hW3]; exact (Below.refl _ _).alloc (Nat.le_refl _) _
  have e2 : W3.cell? ⟨w2.heap.size, 2, none⟩ = some (.int .i64 l) := by rw [hW3]; simp
  rw [← hW3]
  have b3 := b2.trans (hb3.mono b2.size)
  obtain ⟨p0, p1, p2, p3, p4, p5, p6⟩ := Y1.below hb3
  obtain ⟨g0, g1, g2, g3, g4, g5, g6⟩ := X1.below Y1 hb3
  obtain ⟨q0, q1, q2, q3, q4, q5, q6⟩ := Y2.below hb3
  obtain ⟨h0, h1, h2, h3, h4, h5, h6⟩ := X2.below Y2 hb3
  have hgr := hg _ b3
  simp only [z0] at p0 p1 p2 p3 p4 p5 p6 q0 q1 q2 q3 q4 q5 q6
  clear hb3 Y1 Y2 X1 X2 hW3 hg b2
  go_wp2
  go_region
  go_wp2
  exact bodyPost_ret (v := .tuple #[opV opZ nilS, opV opZ nilS, errV a 11]) (by simp [results, Tryd.results23, go_sem, z0, p0, p1, p2, p3, p4, p5, p6, q0, q1, q2, q3, q4, q5, q6]) rfl ⟨rfl, (below_set7 (below_set7 b3 (by omega) _ _ _ _ _ _ _) (by omega) _ _ _ _ _ _ _).drew⟩

set_option maxHeartbeats 2000000 in
set_option maxRecDepth 100000 in
theorem cutO_high {I : List Nat} {a : Nat → Addr} (o : Op5) (s : Value) (m : Int) (w : World) (hI : ∀ i ∈ IC, i ∈ I) (hS : Std I a w) (hR : RN w s o.A) (hF : Fit o) (hO : Ins o) (hk : o.k = 1) (h1 : ¬ m < 1) (hm : ¬ m < ((scs o.t.data.toList).length : Int)) :
    Calls Tryd.prog 23 #[opV o s, .int .i64 m] w fun r w' => r = .returned (.tuple #[opV opZ nilS, opV opZ nilS, errV a 11]) ∧ Below w.heap.size w w' := by
  have b0 := bx3_below w o s
  have c1 := op_ok o s _ hI (hS.below b0) (hR.below b0) hF hO
  have Z1 := bx3_1 w o s
  have Z2 := bx3_2 w o s
  have hg : ∀ W, Below w.heap.size w W → W.cell? ⟨0, 0, none⟩ = some (errV a 11) := fun W hW => (hS.below hW).er.cell 11 (hI 11 (by simp))
  obtain ⟨Vu, Vx, hV⟩ := valP_if o.v
  unfold pieceV at c1
  rw [hV] at c1
  clear hR hS hI hF hO hV
  obtain ⟨k, t, ⟨x, n, u⟩, c, A⟩ := o
  simp only at hk
  subst hk
  simp only [if_true] at c1
  obtain ⟨l, hl⟩ : ∃ l : Int, ((scs t.data.toList).length : Int) = l := ⟨_, rfl⟩
  simp only [hl] at c1 hm
  go_enter Tryd.func23, Tryd.ntmps23
  go_wp2_with fail
  refine c1.mono ?_; rintro r w2 ⟨v', rfl, own, hb2⟩
  obtain ⟨p', c', rfl⟩ := own_slice own
  have b2 := b0.trans (hb2.mono b0.size)
  have Y1 := Z1.1.below hb2
  have X1 := Z1.2.below Z1.1 hb2
  have Y2 := Z2.1.below hb2
  have X2 := Z2.2.below Z2.1 hb2
  clear c1 b0 hb2 Z1 Z2 own
  have as1 := as_i_i
  have as2 := as_e_i
  go_upto_region 5 with fail
  clear as1 as2
  obtain ⟨W3, hW3⟩ : ∃ W3, W3 = w2.alloc (.cells #[.slice p' A.length c', .string t, .int .i64 l] 67) := ⟨_, rfl⟩
  have hb3 : Below w2.heap.size w2 W3 := by rw [hW3]; exact (Below.refl _ _).alloc (Nat.le_refl _) _
  have e2 : W3.cell? ⟨w2.heap.size, 2, none⟩ = some (.int .i64 l) := by rw [hW3]; simp
  rw [← hW3]
  have b3 := b2.trans (hb3.mono b2.size)
  obtain ⟨p0, p1, p2, p3, p4, p5, p6⟩ := Y1.below hb3
  obtain ⟨g0, g1, g2, g3, g4, g5, g6⟩ := X1.below Y1 hb3
  obtain ⟨q0, q1, q2, q3, q4, q5, q6⟩ := Y2.below hb3
  obtain ⟨h0, h1, h2, h3, h4, h5, h6⟩ := X2.below Y2 hb3
  have hgr := hg _ b3
  simp only [z0] at p0 p1 p2 p3 p4 p5 p6 q0 q1 q2 q3 q4 q5 q6
  clear hb3 Y1 Y2 X1 X2 hW3 hg b2
  go_wp2
  go_region
  go_wp2
  exact bodyPost_ret (v := .tuple #[opV opZ nilS, opV opZ nilS, errV a 11]) (by simp [results, Tryd.results23, go_sem, z0, p0, p1, p2, p3, p4, p5, p6, q0, q1, q2, q3, q4, q5, q6]) rfl ⟨rfl, (below_set7 (below_set7 b3 (by omega) _ _ _ _ _ _ _) (by omega) _ _ _ _ _ _ _).drew⟩

end Go.Proofs.YtecmdlecfddeeaaDoor
