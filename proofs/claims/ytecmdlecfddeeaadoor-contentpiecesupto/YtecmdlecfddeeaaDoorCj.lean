/- What content.Join answers. -/
import Derived.Test.YtecmdlecfddeeaaDoorCu
namespace Go.Proofs.YtecmdlecfddeeaaDoor
open Go Go.RowKit Go.Lib
set_option linter.unusedVariables false

/-- What a join of two is refused with. -/
def joinE (o o' : Op5) : Nat := if insE o = 0 then insE o' else insE o
/-- Whether two inserts are joined. -/
def joinB (o o' : Op5) : Bool := decide (o.k = 1) && (decide (o'.k = 1) && decide (o.A = o'.A))
def joinO (o o' : Op5) : Op5 := ⟨1, o.t ++ o'.t, z0, 0, o.A⟩
abbrev bxJ (w : World) (o : Op5) (s : Value) (o' : Op5) (s' : Value) : World := ((w.alloc (.cells (opC o s) 26)).alloc (.cells (opC o' s') 26)).alloc (.cells (opC opZ nilS) 26)
theorem bxJ_below (w : World) (o : Op5) (s : Value) (o' : Op5) (s' : Value) : Below w.heap.size w (bxJ w o s o' s') := (((Below.refl w.heap.size w).alloc (Nat.le_refl _) _).alloc (by simp) _).alloc (by simp; omega) _
theorem bxJ_1 (w : World) (o : Op5) (s : Value) (o' : Op5) (s' : Value) : BoxO (bxJ w o s o' s') (w.heap.size + 1) o' s' := by
  have h1 := BoxO.new (w.alloc (.cells (opC o s) 26)) o' s'
  rw [World.size_alloc] at h1
  exact h1.below ((Below.refl _ _).alloc (Nat.le_refl _) _)
theorem bxJ_2 (w : World) (o : Op5) (s : Value) (o' : Op5) (s' : Value) : BoxO (bxJ w o s o' s') (w.heap.size + 1 + 1) opZ nilS ∧ FrO (bxJ w o s o' s') (w.heap.size + 1 + 1) := by
  have h1 := BoxO.new ((w.alloc (.cells (opC o s) 26)).alloc (.cells (opC o' s') 26)) opZ nilS
  have h2 := FrO.new ((w.alloc (.cells (opC o s) 26)).alloc (.cells (opC o' s') 26)) opZ nilS
  rw [World.size_alloc, World.size_alloc] at h1 h2
  exact ⟨h1, h2⟩

set_option maxHeartbeats 2000000 in
set_option maxRecDepth 100000 in
theorem joinO_no1 {I : List Nat} {a : Nat → Addr} (o o' : Op5) (s s' : Value) (w : World) (hI : ∀ i ∈ IC, i ∈ I) (hS : Std I a w) (hR : RN w s o.A) (hR' : RN w s' o'.A) (hF : Fit o) (hF' : Fit o') (e : Nat) (he : insE o = e + 1) :
    Calls Tryd.prog 26 #[opV o s, opV o' s'] w fun r w' => r = .returned (.tuple #[opV opZ nilS, .bool false, errV a e]) ∧ Below w.heap.size w w' := by
  have b0 := bxJ_below w o s o' s'
  have c1 := op_no o s _ hI (hS.below b0) (hR.below b0) hF e he
  have Z2 := bxJ_2 w o s o' s'
  clear hR hR' hS hI hF hF' he
  obtain ⟨k, t, ⟨x, n, u⟩, c, A⟩ := o
  obtain ⟨k', t', ⟨x', n', u'⟩, c', A'⟩ := o'
  go_enter Tryd.func26, Tryd.ntmps26
  go_wp2_with fail
  refine c1.mono ?_; rintro r w2 ⟨rfl, hb2⟩
  have b2 := b0.trans (hb2.mono b0.size)
  obtain ⟨q0, q1, q2, q3, q4, q5, q6⟩ := Z2.1.below hb2
  obtain ⟨h0, h1, h2, h3, h4, h5, h6⟩ := Z2.2.below Z2.1 hb2
  simp only [z0] at q0 q1 q2 q3 q4 q5 q6
  clear c1 b0 hb2 Z2
  go_wp2
  exact bodyPost_ret (v := .tuple #[opV opZ nilS, .bool false, errV a e]) (by simp [results, Tryd.results26, go_sem, z0, q0, q1, q2, q3, q4, q5, q6]) rfl ⟨rfl, below_set7 b2 (by omega) _ _ _ _ _ _ _⟩

set_option maxHeartbeats 2000000 in
set_option maxRecDepth 100000 in
theorem joinO_no2 {I : List Nat} {a : Nat → Addr} (o o' : Op5) (s s' : Value) (w : World) (hI : ∀ i ∈ IC, i ∈ I) (hS : Std I a w) (hR : RN w s o.A) (hR' : RN w s' o'.A) (hF : Fit o) (hF' : Fit o') (hO : Ins o) (e : Nat) (he : insE o' = e + 1) :
    Calls Tryd.prog 26 #[opV o s, opV o' s'] w fun r w' => r = .returned (.tuple #[opV opZ nilS, .bool false, errV a e]) ∧ Below w.heap.size w w' := by
  have b0 := bxJ_below w o s o' s'
  have c1 := op_ok o s _ hI (hS.below b0) (hR.below b0) hF hO
  have c2 := fun W (hW : Below w.heap.size w W) => op_no o' s' W hI (hS.below hW) (hR'.below hW) hF' e he
  have Z1 := bxJ_1 w o s o' s'
  have Z2 := bxJ_2 w o s o' s'
  obtain ⟨P, hP⟩ : ∃ P : Value → Value, (fun v => pieceV o v) = P := ⟨_, rfl⟩
  have hP' : ∀ v, pieceV o v = P v := fun v => congrFun hP v
  simp only [hP'] at c1
  clear hR hR' hS hI hF hF' he hO hP hP'
  obtain ⟨k, t, ⟨x, n, u⟩, c, A⟩ := o
  obtain ⟨k', t', ⟨x', n', u'⟩, c', A'⟩ := o'
  go_enter Tryd.func26, Tryd.ntmps26
  go_wp2_with fail
  refine c1.mono ?_; rintro r w2 ⟨v', rfl, own, hb2⟩
  have b2 := b0.trans (hb2.mono b0.size)
  obtain ⟨d0, d1, d2, d3, d4, d5, d6⟩ := Z1.below hb2
  have Y2 := Z2.1.below hb2
  have X2 := Z2.2.below Z2.1 hb2
  simp only at d0 d1 d2 d3 d4 d5
  clear c1 b0 hb2 Z2 Z1 own
  go_wp2_with fail
  refine (c2 _ b2).mono ?_; rintro r w3 ⟨rfl, hb3⟩
  have b3 := b2.trans (hb3.mono b2.size)
  obtain ⟨q0, q1, q2, q3, q4, q5, q6⟩ := Y2.below hb3
  obtain ⟨h0, h1, h2, h3, h4, h5, h6⟩ := X2.below Y2 hb3
  simp only [z0] at q0 q1 q2 q3 q4 q5 q6
  clear c2 b2 hb3 Y2 X2 d0 d1 d2 d3 d4 d5 d6
  go_wp2
  exact bodyPost_ret (v := .tuple #[opV opZ nilS, .bool false, errV a e]) (by simp [results, Tryd.results26, go_sem, z0, q0, q1, q2, q3, q4, q5, q6]) rfl ⟨rfl, below_set7 b3 (by omega) _ _ _ _ _ _ _⟩

set_option maxHeartbeats 2000000 in
set_option maxRecDepth 100000 in
theorem joinO_ee {I : List Nat} {a : Nat → Addr} (o o' : Op5) (s s' : Value) (w : World) (hI : ∀ i ∈ IC, i ∈ I) (hS : Std I a w) (hR : RN w s o.A) (hR' : RN w s' o'.A) (hF : Fit o) (hF' : Fit o') (hO : Ins o) (hO' : Ins o') (hk : o.k = 2) (hk' : o'.k = 2) :
    Calls Tryd.prog 26 #[opV o s, opV o' s'] w fun r w' => r = .returned (.tuple #[opV opZ nilS, .bool false, .nilIface]) ∧ Below w.heap.size w w' := by
  have b0 := bxJ_below w o s o' s'
  have c1 := op_ok o s _ hI (hS.below b0) (hR.below b0) hF hO
  have c2 := fun W (hW : Below w.heap.size w W) => op_ok o' s' W hI (hS.below hW) (hR'.below hW) hF' hO'
  have Z1 := bxJ_1 w o s o' s'
  have Z2 := bxJ_2 w o s o' s'
  have cA : Hid (∀ W v, OwnA W w.heap.size v o.A → Calls Tryd.prog 36 #[.agg #[v]] W fun r w' => ∃ v', r = .returned v' ∧ OwnA w' W.heap.size v' o.A ∧ Below W.heap.size W w') := fun W v hv => attributes_any v o.A W (own_rowA hv) (own_nil hv) (by have := hF.n; omega)
  obtain ⟨Vu, Vx, hV⟩ := valP_if o.v
  obtain ⟨Vu', Vx', hV'⟩ := valP_if o'.v
  unfold pieceV at c1 c2
  rw [hV] at c1
  simp only [hV'] at c2
  have hcat : ¬ 9223372036854775807 < o.t.size + o'.t.size := by have := hF.t; have := hF'.t; omega
  clear hR hR' hS hI hF hF' hO hO' hV hV'
  obtain ⟨k, t, ⟨x, n, u⟩, c, A⟩ := o
  obtain ⟨k', t', ⟨x', n', u'⟩, c', A'⟩ := o'
  simp only at hk hk' cA hcat
  subst hk
  subst hk'
  simp only [show ¬ ((2 : Int) = 1) by omega, if_false] at c1
  simp only [show ¬ ((2 : Int) = 1) by omega, if_false] at c2
  go_enter Tryd.func26, Tryd.ntmps26
  go_wp2_with fail
  refine c1.mono ?_; rintro r w2 ⟨v1, rfl, own, hb2⟩
  obtain ⟨pa, ca, rfl⟩ := own_slice own
  have b2 := b0.trans (hb2.mono b0.size)
  obtain ⟨d0, d1, d2, d3, d4, d5, d6⟩ := Z1.below hb2
  have Y2 := Z2.1.below hb2
  have X2 := Z2.2.below Z2.1 hb2
  simp only at d0 d1 d2 d3 d4 d5
  have O2 : Hid (OwnA w2 w.heap.size (.slice pa A.length ca) A) := own_weaken own b0.size
  clear c1 b0 hb2 Z2 Z1 own
  go_wp2_with fail
  refine (c2 _ b2).mono ?_; rintro r w3 ⟨v2, rfl, own, hb3⟩
  obtain ⟨pb, cb, rfl⟩ := own_slice own
  have b3 := b2.trans (hb3.mono b2.size)
  have Y3 := Y2.below hb3
  have X3 := X2.below Y2 hb3
  have O3 : Hid (OwnA w3 w.heap.size (.slice pa A.length ca) A ∧ OwnA w3 w.heap.size (.slice pb A'.length cb) A') := ⟨owns_below O2.out hb3, own_weaken own b2.size⟩
  clear c2 b2 hb3 Y2 X2 d0 d1 d2 d3 d4 d5 d6 own O2
  have as1 := as_i_i
  have as2 := as_e_i
  go_upto_region 9 with fail
  clear as1 as2
  obtain ⟨W4, hW4⟩ : ∃ W4, W4 = (w3.alloc (.cells #[.slice none 0 0, .string ⟨#[]⟩, .int .i64 0] 67)).alloc (.cells #[.slice none 0 0, .string ⟨#[]⟩, .int .i64 0] 67) := ⟨_, rfl⟩
  have hb4 : Below w3.heap.size w3 W4 := by rw [hW4]; exact ((Below.refl _ _).alloc (Nat.le_refl _) _).alloc (by simp) _
  rw [← hW4]
  have b4 := b3.trans (hb4.mono b3.size)
  have Y4 := Y3.below hb4
  have X4 := X3.below Y3 hb4
  have O4 : Hid (OwnA W4 w.heap.size (.slice pa A.length ca) A ∧ OwnA W4 w.heap.size (.slice pb A'.length cb) A') := ⟨owns_below O3.out.1 hb4, owns_below O3.out.2 hb4⟩
  have hz3 : w.heap.size + 1 + 1 < w3.heap.size := lt_of_cell Y3.d0
  obtain ⟨B9, hB9⟩ : ∃ B, B = w3.heap.size := ⟨_, rfl⟩
  rw [← hB9] at hz3 ⊢
  clear hb4 hW4 O3 b3 hB9 Y3 X3
  obtain ⟨q0, q1, q2, q3, q4, q5, q6⟩ := Y4
  obtain ⟨h0, h1, h2, h3, h4, h5, h6⟩ := X4
  simp only [z0] at q0 q1 q2 q3 q4 q5 q6
  clear cA O4
  go_wp2
  exact bodyPost_ret (v := .tuple #[opV opZ nilS, .bool false, .nilIface]) (by simp [results, Tryd.results26, go_sem, z0, q0, q1, q2, q3, q4, q5, q6]) rfl ⟨rfl, below_set7 b4 (by omega) _ _ _ _ _ _ _⟩

set_option maxHeartbeats 2000000 in
set_option maxRecDepth 100000 in
theorem joinO_et {I : List Nat} {a : Nat → Addr} (o o' : Op5) (s s' : Value) (w : World) (hI : ∀ i ∈ IC, i ∈ I) (hS : Std I a w) (hR : RN w s o.A) (hR' : RN w s' o'.A) (hF : Fit o) (hF' : Fit o') (hO : Ins o) (hO' : Ins o') (hk : o.k = 2) (hk' : o'.k = 1) :
    Calls Tryd.prog 26 #[opV o s, opV o' s'] w fun r w' => r = .returned (.tuple #[opV opZ nilS, .bool false, .nilIface]) ∧ Below w.heap.size w w' := by
  have b0 := bxJ_below w o s o' s'
  have c1 := op_ok o s _ hI (hS.below b0) (hR.below b0) hF hO
  have c2 := fun W (hW : Below w.heap.size w W) => op_ok o' s' W hI (hS.below hW) (hR'.below hW) hF' hO'
  have Z1 := bxJ_1 w o s o' s'
  have Z2 := bxJ_2 w o s o' s'
  have cA : Hid (∀ W v, OwnA W w.heap.size v o.A → Calls Tryd.prog 36 #[.agg #[v]] W fun r w' => ∃ v', r = .returned v' ∧ OwnA w' W.heap.size v' o.A ∧ Below W.heap.size W w') := fun W v hv => attributes_any v o.A W (own_rowA hv) (own_nil hv) (by have := hF.n; omega)
  obtain ⟨Vu, Vx, hV⟩ := valP_if o.v
  obtain ⟨Vu', Vx', hV'⟩ := valP_if o'.v
  unfold pieceV at c1 c2
  rw [hV] at c1
  simp only [hV'] at c2
  have hcat : ¬ 9223372036854775807 < o.t.size + o'.t.size := by have := hF.t; have := hF'.t; omega
  clear hR hR' hS hI hF hF' hO hO' hV hV'
  obtain ⟨k, t, ⟨x, n, u⟩, c, A⟩ := o
  obtain ⟨k', t', ⟨x', n', u'⟩, c', A'⟩ := o'
  simp only at hk hk' cA hcat
  subst hk
  subst hk'
  simp only [show ¬ ((2 : Int) = 1) by omega, if_false] at c1
  simp only [if_true] at c2
  go_enter Tryd.func26, Tryd.ntmps26
  go_wp2_with fail
  refine c1.mono ?_; rintro r w2 ⟨v1, rfl, own, hb2⟩
  obtain ⟨pa, ca, rfl⟩ := own_slice own
  have b2 := b0.trans (hb2.mono b0.size)
  obtain ⟨d0, d1, d2, d3, d4, d5, d6⟩ := Z1.below hb2
  have Y2 := Z2.1.below hb2
  have X2 := Z2.2.below Z2.1 hb2
  simp only at d0 d1 d2 d3 d4 d5
  have O2 : Hid (OwnA w2 w.heap.size (.slice pa A.length ca) A) := own_weaken own b0.size
  clear c1 b0 hb2 Z2 Z1 own
  go_wp2_with fail
  refine (c2 _ b2).mono ?_; rintro r w3 ⟨v2, rfl, own, hb3⟩
  obtain ⟨pb, cb, rfl⟩ := own_slice own
  have b3 := b2.trans (hb3.mono b2.size)
  have Y3 := Y2.below hb3
  have X3 := X2.below Y2 hb3
  have O3 : Hid (OwnA w3 w.heap.size (.slice pa A.length ca) A ∧ OwnA w3 w.heap.size (.slice pb A'.length cb) A') := ⟨owns_below O2.out hb3, own_weaken own b2.size⟩
  clear c2 b2 hb3 Y2 X2 d0 d1 d2 d3 d4 d5 d6 own O2
  have as1 := as_i_i
  have as2 := as_e_i
  go_upto_region 9 with fail
  clear as1 as2
  obtain ⟨W4, hW4⟩ : ∃ W4, W4 = (w3.alloc (.cells #[.slice none 0 0, .string ⟨#[]⟩, .int .i64 0] 67)).alloc (.cells #[.slice pb A'.length cb, .string t', .int .i64 (scs t'.data.toList).length] 67) := ⟨_, rfl⟩
  have hb4 : Below w3.heap.size w3 W4 := by rw [hW4]; exact ((Below.refl _ _).alloc (Nat.le_refl _) _).alloc (by simp) _
  rw [← hW4]
  have b4 := b3.trans (hb4.mono b3.size)
  have Y4 := Y3.below hb4
  have X4 := X3.below Y3 hb4
  have O4 : Hid (OwnA W4 w.heap.size (.slice pa A.length ca) A ∧ OwnA W4 w.heap.size (.slice pb A'.length cb) A') := ⟨owns_below O3.out.1 hb4, owns_below O3.out.2 hb4⟩
  have hz3 : w.heap.size + 1 + 1 < w3.heap.size := lt_of_cell Y3.d0
  obtain ⟨B9, hB9⟩ : ∃ B, B = w3.heap.size := ⟨_, rfl⟩
  rw [← hB9] at hz3 ⊢
  clear hb4 hW4 O3 b3 hB9 Y3 X3
  obtain ⟨q0, q1, q2, q3, q4, q5, q6⟩ := Y4
  obtain ⟨h0, h1, h2, h3, h4, h5, h6⟩ := X4
  simp only [z0] at q0 q1 q2 q3 q4 q5 q6
  clear cA O4
  go_wp2
  exact bodyPost_ret (v := .tuple #[opV opZ nilS, .bool false, .nilIface]) (by simp [results, Tryd.results26, go_sem, z0, q0, q1, q2, q3, q4, q5, q6]) rfl ⟨rfl, below_set7 b4 (by omega) _ _ _ _ _ _ _⟩

set_option maxHeartbeats 2000000 in
set_option maxRecDepth 100000 in
theorem joinO_te {I : List Nat} {a : Nat → Addr} (o o' : Op5) (s s' : Value) (w : World) (hI : ∀ i ∈ IC, i ∈ I) (hS : Std I a w) (hR : RN w s o.A) (hR' : RN w s' o'.A) (hF : Fit o) (hF' : Fit o') (hO : Ins o) (hO' : Ins o') (hk : o.k = 1) (hk' : o'.k = 2) :
    Calls Tryd.prog 26 #[opV o s, opV o' s'] w fun r w' => r = .returned (.tuple #[opV opZ nilS, .bool false, .nilIface]) ∧ Below w.heap.size w w' := by
  have b0 := bxJ_below w o s o' s'
  have c1 := op_ok o s _ hI (hS.below b0) (hR.below b0) hF hO
  have c2 := fun W (hW : Below w.heap.size w W) => op_ok o' s' W hI (hS.below hW) (hR'.below hW) hF' hO'
  have Z1 := bxJ_1 w o s o' s'
  have Z2 := bxJ_2 w o s o' s'
  have cA : Hid (∀ W v, OwnA W w.heap.size v o.A → Calls Tryd.prog 36 #[.agg #[v]] W fun r w' => ∃ v', r = .returned v' ∧ OwnA w' W.heap.size v' o.A ∧ Below W.heap.size W w') := fun W v hv => attributes_any v o.A W (own_rowA hv) (own_nil hv) (by have := hF.n; omega)
  obtain ⟨Vu, Vx, hV⟩ := valP_if o.v
  obtain ⟨Vu', Vx', hV'⟩ := valP_if o'.v
  unfold pieceV at c1 c2
  rw [hV] at c1
  simp only [hV'] at c2
  have hcat : ¬ 9223372036854775807 < o.t.size + o'.t.size := by have := hF.t; have := hF'.t; omega
  clear hR hR' hS hI hF hF' hO hO' hV hV'
  obtain ⟨k, t, ⟨x, n, u⟩, c, A⟩ := o
  obtain ⟨k', t', ⟨x', n', u'⟩, c', A'⟩ := o'
  simp only at hk hk' cA hcat
  subst hk
  subst hk'
  simp only [if_true] at c1
  simp only [show ¬ ((2 : Int) = 1) by omega, if_false] at c2
  go_enter Tryd.func26, Tryd.ntmps26
  go_wp2_with fail
  refine c1.mono ?_; rintro r w2 ⟨v1, rfl, own, hb2⟩
  obtain ⟨pa, ca, rfl⟩ := own_slice own
  have b2 := b0.trans (hb2.mono b0.size)
  obtain ⟨d0, d1, d2, d3, d4, d5, d6⟩ := Z1.below hb2
  have Y2 := Z2.1.below hb2
  have X2 := Z2.2.below Z2.1 hb2
  simp only at d0 d1 d2 d3 d4 d5
  have O2 : Hid (OwnA w2 w.heap.size (.slice pa A.length ca) A) := own_weaken own b0.size
  clear c1 b0 hb2 Z2 Z1 own
  go_wp2_with fail
  refine (c2 _ b2).mono ?_; rintro r w3 ⟨v2, rfl, own, hb3⟩
  obtain ⟨pb, cb, rfl⟩ := own_slice own
  have b3 := b2.trans (hb3.mono b2.size)
  have Y3 := Y2.below hb3
  have X3 := X2.below Y2 hb3
  have O3 : Hid (OwnA w3 w.heap.size (.slice pa A.length ca) A ∧ OwnA w3 w.heap.size (.slice pb A'.length cb) A') := ⟨owns_below O2.out hb3, own_weaken own b2.size⟩
  clear c2 b2 hb3 Y2 X2 d0 d1 d2 d3 d4 d5 d6 own O2
  have as1 := as_i_i
  have as2 := as_e_i
  go_upto_region 9 with fail
  clear as1 as2
  obtain ⟨W4, hW4⟩ : ∃ W4, W4 = (w3.alloc (.cells #[.slice pa A.length ca, .string t, .int .i64 (scs t.data.toList).length] 67)).alloc (.cells #[.slice none 0 0, .string ⟨#[]⟩, .int .i64 0] 67) := ⟨_, rfl⟩
  have hb4 : Below w3.heap.size w3 W4 := by rw [hW4]; exact ((Below.refl _ _).alloc (Nat.le_refl _) _).alloc (by simp) _
  rw [← hW4]
  have b4 := b3.trans (hb4.mono b3.size)
  have Y4 := Y3.below hb4
  have X4 := X3.below Y3 hb4
  have O4 : Hid (OwnA W4 w.heap.size (.slice pa A.length ca) A ∧ OwnA W4 w.heap.size (.slice pb A'.length cb) A') := ⟨owns_below O3.out.1 hb4, owns_below O3.out.2 hb4⟩
  have hz3 : w.heap.size + 1 + 1 < w3.heap.size := lt_of_cell Y3.d0
  obtain ⟨B9, hB9⟩ : ∃ B, B = w3.heap.size := ⟨_, rfl⟩
  rw [← hB9] at hz3 ⊢
  clear hb4 hW4 O3 b3 hB9 Y3 X3
  obtain ⟨q0, q1, q2, q3, q4, q5, q6⟩ := Y4
  obtain ⟨h0, h1, h2, h3, h4, h5, h6⟩ := X4
  simp only [z0] at q0 q1 q2 q3 q4 q5 q6
  clear cA O4
  go_wp2
  exact bodyPost_ret (v := .tuple #[opV opZ nilS, .bool false, .nilIface]) (by simp [results, Tryd.results26, go_sem, z0, q0, q1, q2, q3, q4, q5, q6]) rfl ⟨rfl, below_set7 b4 (by omega) _ _ _ _ _ _ _⟩

set_option maxHeartbeats 2000000 in
set_option maxRecDepth 100000 in
theorem joinO_ne {I : List Nat} {a : Nat → Addr} (o o' : Op5) (s s' : Value) (w : World) (hI : ∀ i ∈ IC, i ∈ I) (hS : Std I a w) (hR : RN w s o.A) (hR' : RN w s' o'.A) (hF : Fit o) (hF' : Fit o') (hO : Ins o) (hO' : Ins o') (hk : o.k = 1) (hk' : o'.k = 1) (hA : o.A ≠ o'.A) :
    Calls Tryd.prog 26 #[opV o s, opV o' s'] w fun r w' => r = .returned (.tuple #[opV opZ nilS, .bool false, .nilIface]) ∧ Below w.heap.size w w' := by
  have b0 := bxJ_below w o s o' s'
  have c1 := op_ok o s _ hI (hS.below b0) (hR.below b0) hF hO
  have c2 := fun W (hW : Below w.heap.size w W) => op_ok o' s' W hI (hS.below hW) (hR'.below hW) hF' hO'
  have Z1 := bxJ_1 w o s o' s'
  have Z2 := bxJ_2 w o s o' s'
  have cS : Hid (∀ W v v', RowA W v o.A → RowA W v' o'.A → Calls Tryd.prog 51 #[v, v'] W fun r w' => r = .returned (.bool false) ∧ Below W.heap.size W w') := fun W v v' h h' => by have := same_any' v v' o.A o'.A W h h' (by have := hF.n; omega) (by have := hF'.n; omega); rwa [decide_eq_false hA] at this
  have cA : Hid (∀ W v, OwnA W w.heap.size v o.A → Calls Tryd.prog 36 #[.agg #[v]] W fun r w' => ∃ v', r = .returned v' ∧ OwnA w' W.heap.size v' o.A ∧ Below W.heap.size W w') := fun W v hv => attributes_any v o.A W (own_rowA hv) (own_nil hv) (by have := hF.n; omega)
  obtain ⟨Vu, Vx, hV⟩ := valP_if o.v
  obtain ⟨Vu', Vx', hV'⟩ := valP_if o'.v
  unfold pieceV at c1 c2
  rw [hV] at c1
  simp only [hV'] at c2
  have hcat : ¬ 9223372036854775807 < o.t.size + o'.t.size := by have := hF.t; have := hF'.t; omega
  clear hR hR' hS hI hF hF' hO hO' hV hV'
  obtain ⟨k, t, ⟨x, n, u⟩, c, A⟩ := o
  obtain ⟨k', t', ⟨x', n', u'⟩, c', A'⟩ := o'
  simp only at hk hk' cS cA hcat
  subst hk
  subst hk'
  simp only [if_true] at c1
  simp only [if_true] at c2
  go_enter Tryd.func26, Tryd.ntmps26
  go_wp2_with fail
  refine c1.mono ?_; rintro r w2 ⟨v1, rfl, own, hb2⟩
  obtain ⟨pa, ca, rfl⟩ := own_slice own
  have b2 := b0.trans (hb2.mono b0.size)
  obtain ⟨d0, d1, d2, d3, d4, d5, d6⟩ := Z1.below hb2
  have Y2 := Z2.1.below hb2
  have X2 := Z2.2.below Z2.1 hb2
  simp only at d0 d1 d2 d3 d4 d5
  have O2 : Hid (OwnA w2 w.heap.size (.slice pa A.length ca) A) := own_weaken own b0.size
  clear c1 b0 hb2 Z2 Z1 own
  go_wp2_with fail
  refine (c2 _ b2).mono ?_; rintro r w3 ⟨v2, rfl, own, hb3⟩
  obtain ⟨pb, cb, rfl⟩ := own_slice own
  have b3 := b2.trans (hb3.mono b2.size)
  have Y3 := Y2.below hb3
  have X3 := X2.below Y2 hb3
  have O3 : Hid (OwnA w3 w.heap.size (.slice pa A.length ca) A ∧ OwnA w3 w.heap.size (.slice pb A'.length cb) A') := ⟨owns_below O2.out hb3, own_weaken own b2.size⟩
  clear c2 b2 hb3 Y2 X2 d0 d1 d2 d3 d4 d5 d6 own O2
  have as1 := as_i_i
  have as2 := as_e_i
  go_upto_region 9 with fail
  clear as1 as2
  obtain ⟨W4, hW4⟩ : ∃ W4, W4 = (w3.alloc (.cells #[.slice pa A.length ca, .string t, .int .i64 (scs t.data.toList).length] 67)).alloc (.cells #[.slice pb A'.length cb, .string t', .int .i64 (scs t'.data.toList).length] 67) := ⟨_, rfl⟩
  have hb4 : Below w3.heap.size w3 W4 := by rw [hW4]; exact ((Below.refl _ _).alloc (Nat.le_refl _) _).alloc (by simp) _
  have ea0 : W4.cell? ⟨w3.heap.size, 0, none⟩ = some (.slice pa A.length ca) := by rw [hW4]; simp
  have ea1 : W4.cell? ⟨w3.heap.size, 1, none⟩ = some (.string t) := by rw [hW4]; simp
  have eb0 : W4.cell? ⟨w3.heap.size + 1, 0, none⟩ = some (.slice pb A'.length cb) := by rw [hW4]; simp
  have eb1 : W4.cell? ⟨w3.heap.size + 1, 1, none⟩ = some (.string t') := by rw [hW4]; simp
  rw [← hW4]
  have b4 := b3.trans (hb4.mono b3.size)
  have Y4 := Y3.below hb4
  have X4 := X3.below Y3 hb4
  have O4 : Hid (OwnA W4 w.heap.size (.slice pa A.length ca) A ∧ OwnA W4 w.heap.size (.slice pb A'.length cb) A') := ⟨owns_below O3.out.1 hb4, owns_below O3.out.2 hb4⟩
  have hz3 : w.heap.size + 1 + 1 < w3.heap.size := lt_of_cell Y3.d0
  obtain ⟨B9, hB9⟩ : ∃ B, B = w3.heap.size := ⟨_, rfl⟩
  rw [← hB9] at hz3 ea0 ea1 eb0 eb1 ⊢
  clear hb4 hW4 O3 b3 hB9 Y3 X3
  go_wp2_with fail
  refine (cS.out _ _ _ (own_rowA O4.out.1) (own_rowA O4.out.2)).mono ?_; rintro r w5 ⟨rfl, hb5⟩
  have b5 := b4.trans (hb5.mono b4.size)
  have Y5 := Y4.below hb5
  have X5 := X4.below Y4 hb5
  obtain ⟨q0, q1, q2, q3, q4, q5, q6⟩ := Y5
  obtain ⟨h0, h1, h2, h3, h4, h5, h6⟩ := X5
  simp only [z0] at q0 q1 q2 q3 q4 q5 q6
  clear cS cA O4 b4 hb5 Y4 X4 ea0 ea1 eb0 eb1
  go_wp2
  exact bodyPost_ret (v := .tuple #[opV opZ nilS, .bool false, .nilIface]) (by simp [results, Tryd.results26, go_sem, z0, q0, q1, q2, q3, q4, q5, q6]) rfl ⟨rfl, below_set7 b5 (by omega) _ _ _ _ _ _ _⟩

set_option maxHeartbeats 2000000 in
set_option maxRecDepth 100000 in
theorem joinO_ok {I : List Nat} {a : Nat → Addr} (o o' : Op5) (s s' : Value) (w : World) (hI : ∀ i ∈ IC, i ∈ I) (hS : Std I a w) (hR : RN w s o.A) (hR' : RN w s' o'.A) (hF : Fit o) (hF' : Fit o') (hO : Ins o) (hO' : Ins o') (hk : o.k = 1) (hk' : o'.k = 1) (hA : o.A = o'.A) :
    Calls Tryd.prog 26 #[opV o s, opV o' s'] w fun r w' => ∃ s1, r = .returned (.tuple #[opV ⟨1, o.t ++ o'.t, z0, 0, []⟩ s1, .bool true, .nilIface]) ∧ OwnA w' w.heap.size s1 o.A ∧ Below w.heap.size w w' := by
  have b0 := bxJ_below w o s o' s'
  have c1 := op_ok o s _ hI (hS.below b0) (hR.below b0) hF hO
  have c2 := fun W (hW : Below w.heap.size w W) => op_ok o' s' W hI (hS.below hW) (hR'.below hW) hF' hO'
  have Z1 := bxJ_1 w o s o' s'
  have Z2 := bxJ_2 w o s o' s'
  have cS : Hid (∀ W v v', RowA W v o.A → RowA W v' o'.A → Calls Tryd.prog 51 #[v, v'] W fun r w' => r = .returned (.bool true) ∧ Below W.heap.size W w') := fun W v v' h h' => by have := same_any' v v' o.A o'.A W h h' (by have := hF.n; omega) (by have := hF'.n; omega); rwa [decide_eq_true hA] at this
  have cA : Hid (∀ W v, OwnA W w.heap.size v o.A → Calls Tryd.prog 36 #[.agg #[v]] W fun r w' => ∃ v', r = .returned v' ∧ OwnA w' W.heap.size v' o.A ∧ Below W.heap.size W w') := fun W v hv => attributes_any v o.A W (own_rowA hv) (own_nil hv) (by have := hF.n; omega)
  obtain ⟨Vu, Vx, hV⟩ := valP_if o.v
  obtain ⟨Vu', Vx', hV'⟩ := valP_if o'.v
  unfold pieceV at c1 c2
  rw [hV] at c1
  simp only [hV'] at c2
  have hcat : ¬ 9223372036854775807 < o.t.size + o'.t.size := by have := hF.t; have := hF'.t; omega
  clear hR hR' hS hI hF hF' hO hO' hV hV'
  obtain ⟨k, t, ⟨x, n, u⟩, c, A⟩ := o
  obtain ⟨k', t', ⟨x', n', u'⟩, c', A'⟩ := o'
  simp only at hk hk' cS cA hcat
  subst hk
  subst hk'
  subst hA
  simp only [if_true] at c1
  simp only [if_true] at c2
  go_enter Tryd.func26, Tryd.ntmps26
  go_wp2_with fail
  refine c1.mono ?_; rintro r w2 ⟨v1, rfl, own, hb2⟩
  obtain ⟨pa, ca, rfl⟩ := own_slice own
  have b2 := b0.trans (hb2.mono b0.size)
  obtain ⟨d0, d1, d2, d3, d4, d5, d6⟩ := Z1.below hb2
  have Y2 := Z2.1.below hb2
  have X2 := Z2.2.below Z2.1 hb2
  simp only at d0 d1 d2 d3 d4 d5
  have O2 : Hid (OwnA w2 w.heap.size (.slice pa A.length ca) A) := own_weaken own b0.size
  clear c1 b0 hb2 Z2 Z1 own
  go_wp2_with fail
  refine (c2 _ b2).mono ?_; rintro r w3 ⟨v2, rfl, own, hb3⟩
  obtain ⟨pb, cb, rfl⟩ := own_slice own
  have b3 := b2.trans (hb3.mono b2.size)
  have Y3 := Y2.below hb3
  have X3 := X2.below Y2 hb3
  have O3 : Hid (OwnA w3 w.heap.size (.slice pa A.length ca) A ∧ OwnA w3 w.heap.size (.slice pb A.length cb) A) := ⟨owns_below O2.out hb3, own_weaken own b2.size⟩
  clear c2 b2 hb3 Y2 X2 d0 d1 d2 d3 d4 d5 d6 own O2
  have as1 := as_i_i
  have as2 := as_e_i
  go_upto_region 9 with fail
  clear as1 as2
  obtain ⟨W4, hW4⟩ : ∃ W4, W4 = (w3.alloc (.cells #[.slice pa A.length ca, .string t, .int .i64 (scs t.data.toList).length] 67)).alloc (.cells #[.slice pb A.length cb, .string t', .int .i64 (scs t'.data.toList).length] 67) := ⟨_, rfl⟩
  have hb4 : Below w3.heap.size w3 W4 := by rw [hW4]; exact ((Below.refl _ _).alloc (Nat.le_refl _) _).alloc (by simp) _
  have ea0 : W4.cell? ⟨w3.heap.size, 0, none⟩ = some (.slice pa A.length ca) := by rw [hW4]; simp
  have ea1 : W4.cell? ⟨w3.heap.size, 1, none⟩ = some (.string t) := by rw [hW4]; simp
  have eb0 : W4.cell? ⟨w3.heap.size + 1, 0, none⟩ = some (.slice pb A.length cb) := by rw [hW4]; simp
  have eb1 : W4.cell? ⟨w3.heap.size + 1, 1, none⟩ = some (.string t') := by rw [hW4]; simp
  rw [← hW4]
  have b4 := b3.trans (hb4.mono b3.size)
  have Y4 := Y3.below hb4
  have X4 := X3.below Y3 hb4
  have O4 : Hid (OwnA W4 w.heap.size (.slice pa A.length ca) A ∧ OwnA W4 w.heap.size (.slice pb A.length cb) A) := ⟨owns_below O3.out.1 hb4, owns_below O3.out.2 hb4⟩
  have hz3 : w.heap.size + 1 + 1 < w3.heap.size := lt_of_cell Y3.d0
  obtain ⟨B9, hB9⟩ : ∃ B, B = w3.heap.size := ⟨_, rfl⟩
  rw [← hB9] at hz3 ea0 ea1 eb0 eb1 ⊢
  clear hb4 hW4 O3 b3 hB9 Y3 X3
  go_wp2_with fail
  refine (cS.out _ _ _ (own_rowA O4.out.1) (own_rowA O4.out.2)).mono ?_; rintro r w5 ⟨rfl, hb5⟩
  have b5 := b4.trans (hb5.mono b4.size)
  have Y5 := Y4.below hb5
  have X5 := X4.below Y4 hb5
  have i0 := (hb5.cell (lt_of_cell ea0)).trans ea0
  have i1 := (hb5.cell (lt_of_cell ea1)).trans ea1
  have i2 := (hb5.cell (lt_of_cell eb1)).trans eb1
  have HO5 : Hid (OwnA w5 w.heap.size (.slice pa A.length ca) A) := owns_below O4.out.1 hb5
  clear cS O4 b4 hb5 Y4 X4 ea0 ea1 eb0 eb1
  go_wp2_with fail
  have HB : Hid (BoxO w5.drew (w.heap.size + 1 + 1) opZ nilS ∧ FrO w5.drew (w.heap.size + 1 + 1)) := ⟨Y5.drew, X5.drew⟩
  have j0 : w5.drew.cell? ⟨B9, 0, none⟩ = some (.slice pa A.length ca) := i0
  have j1 : w5.drew.cell? ⟨B9, 1, none⟩ = some (.string t) := i1
  have j2 : w5.drew.cell? ⟨B9 + 1, 1, none⟩ = some (.string t') := i2
  have HO6 : Hid (OwnA w5.drew w.heap.size (.slice pa A.length ca) A) := owns_same HO5.out (fun _ _ => rfl)
  have cA1 := cA.out w5.drew _ HO6.out
  have b5d : Below w.heap.size w w5.drew := b5.drew
  clear Y5 X5 b5 HO5 i0 i1 i2 cA HO6
  have hz5 : w.heap.size ≤ w5.drew.heap.size := b5d.size
  have hs2 : w.heap.size ≤ w.heap.size + 1 + 1 := by omega
  have n1 : B9 ≠ w.heap.size + 1 + 1 := by omega
  have n2 : B9 + 1 ≠ w.heap.size + 1 + 1 := by omega
  go_region_held3 (fun w' => w'.cell? ⟨B9, 0, none⟩ = some (.slice pa A.length ca) ∧ w'.cell? ⟨B9, 1, none⟩ = some (.string t) ∧ w'.cell? ⟨B9 + 1, 1, none⟩ = some (.string t') ∧ Below w.heap.size w w')
    (refine ⟨?_, ?_, ?_, ?_⟩ <;> with_reducible first | assumption | exact (cell_set7 _ n1 _ _ _ _ _ _ _).trans i8 | exact (cell_set7 _ n1 _ _ _ _ _ _ _).trans k8 | exact (cell_set7 _ n2 _ _ _ _ _ _ _).trans l8 | exact below_set7 G8 hs2 _ _ _ _ _ _ _)
    (first
      | (go_at_call 36; have h5 := cA1; clear h5; refine cA1.mono ?_; rintro r w6 ⟨s1, rfl, o1, b6⟩; obtain ⟨pa1, ca1, rfl⟩ := own_slice o1; clear cA1; have G6 := b5d.trans (b6.mono hz5); have i6 := (b6.cell (lt_of_cell j0)).trans j0; have k6 := (b6.cell (lt_of_cell j1)).trans j1; have l6 := (b6.cell (lt_of_cell j2)).trans j2; have O6 : Hid (OwnA w6 w5.drew.heap.size (.slice pa1 A.length ca1) A) := o1; clear o1)
      | (go_at_call 49; refine (textOf_any (t ++ t') _ _ _ _).mono ?_; rintro r w8 ⟨rfl, b8⟩; have i8 := (b8.cell (lt_of_cell i6)).trans i6; have k8 := (b8.cell (lt_of_cell k6)).trans k6; have l8 := (b8.cell (lt_of_cell l6)).trans l6; have B8 := b6.trans (b8.mono b6.size); have G8 := b5d.trans (B8.mono hz5); have O8 : Hid (OwnA w8 w5.drew.heap.size (.slice pa1 A.length ca1) A) := owns_below O6.out b8; have Z8 := HB.out; clear O6 i6 k6 l6 b8; obtain ⟨q0, q1, q2, q3, q4, q5, q6⟩ := Z8.1.below B8; obtain ⟨h0, h1, h2, h3, h4, h5, h6⟩ := Z8.2.below Z8.1 B8; simp only [z0] at q0 q1 q2 q3 q4 q5 q6))
  have hz : w.heap.size + 1 + 1 < w5.drew.heap.size := lt_of_cell Z8.1.d0
  have same : ∀ (u0 u1 u2 u3 u4 u5 u6 : Value) (v : Value) (hv : OwnA w8 w5.drew.heap.size v A), OwnA (((((((w8.setCell ⟨w.heap.size + 1 + 1, 0, none⟩ u0).setCell ⟨w.heap.size + 1 + 1, 1, none⟩ u1).setCell ⟨w.heap.size + 1 + 1, 2, none⟩ u2).setCell ⟨w.heap.size + 1 + 1, 3, none⟩ u3).setCell ⟨w.heap.size + 1 + 1, 4, none⟩ u4).setCell ⟨w.heap.size + 1 + 1, 5, none⟩ u5).setCell ⟨w.heap.size + 1 + 1, 6, none⟩ u6) w.heap.size v A := fun u0 u1 u2 u3 u4 u5 u6 v hv =>
    own_weaken (owns_same hv fun k hk => by
      have := (owns_block hv k hk).1
      exact heap_set7 _ (by omega) _ _ _ _ _ _ _) hz5
  go_wp2
  exact bodyPost_ret (v := .tuple #[opV ⟨1, t ++ t', z0, 0, []⟩ (.slice pa1 A.length ca1), .bool true, .nilIface]) (by simp [results, Tryd.results26, go_sem, z0, q0, q1, q2, q3, q4, q5, q6]) rfl
    ⟨_, rfl, same _ _ _ _ _ _ _ _ O8.out, below_set7 G8 hs2 _ _ _ _ _ _ _⟩
end Go.Proofs.YtecmdlecfddeeaaDoor
