/- ops: an operation as a piece: retainOf, deleteOf, pieceOf, Check. -/
import Derived.Test.YtplnojapnaaakaaGreatDoorPQa
namespace Go.Proofs.YtplnojapnaaakaaGreatDoor
open Go Go.RowKit Go.Lib
set_option linter.unusedVariables false
/-- An operation as a piece. -/
abbrev pieceQ (o : Op5) (s : Value) : Value :=
  if o.k = 1 then .iface 183 (.agg #[s, .string o.t, .int .i64 (scs o.t.data.toList).length])
  else if o.k = 2 then .iface 187 (.agg #[s, .string o.t, valP o.v])
  else if o.k = 3 then .iface 151 (.agg #[s, .int .i64 o.c])
  else .iface 97 (.agg #[.int .i64 o.c])
theorem bothE_nil2 (A : List A2) : bothE A true [] true = listE true none A := by
  unfold bothE
  by_cases h : listE true none A = 0
  · rw [if_pos h, h]; rfl
  · rw [if_neg h]
theorem comp_nil2 {A : List A2} (h : listE true none A = 0) : jn (chC true) A [] = A := three2 (patch_iff.1 h).2
theorem IO_x {I : List Nat} (hI : ∀ i ∈ IxO, i ∈ I) : ∀ i ∈ IX, i ∈ I := fun i hi => hI i (by simp at hi ⊢; omega)

set_option maxHeartbeats 1000000 in
theorem ret_no1 {I : List Nat} {a : Nat → Addr} (o : Op5) (s : Value) (w : World) (hI : ∀ i ∈ IxO, i ∈ I) (hS : Std I a w) (e : Nat) (he : cntE o = e + 1) :
    Calls Tryz.prog 129 #[opV o s] w fun r w' => r = .returned (.tuple #[.nilIface, errV a e]) ∧ Below w.heap.size w w' := by
  have b0 := (Below.refl w.heap.size w).alloc (Nat.le_refl _) (.cells (opC o s) 33)
  have c1 := count_any o s _ hI (hS.below b0)
  rw [he, errOf_succ] at c1
  clear hS hI he
  obtain ⟨k, t, ⟨x, n, u⟩, c, A⟩ := o
  simp only [opC] at b0 c1
  go_enter Tryz.func129, Tryz.ntmps129
  go_wp2_with fail
  refine c1.mono ?_; rintro r w2 ⟨rfl, hb2⟩
  have b2 := b0.trans (hb2.mono b0.size)
  clear c1 b0 hb2
  go_wp2
  go_ret2
  exact ⟨rfl, b2⟩
set_option maxHeartbeats 1000000 in
theorem ret_no2 {I : List Nat} {a : Nat → Addr} (o : Op5) (s : Value) (w : World) (hI : ∀ i ∈ IxO, i ∈ I) (hS : Std I a w) (hR : RN w s o.A) (hF : Fit o) (h0 : cntE o = 0) (e : Nat) (he : listE true none o.A = e + 1) :
    Calls Tryz.prog 129 #[opV o s] w fun r w' => r = .returned (.tuple #[.nilIface, errV a e]) ∧ Below w.heap.size w w' := by
  have b0 := (Below.refl w.heap.size w).alloc (Nat.le_refl _) (.cells (opC o s) 33)
  have D0 := BoxO.new w o s
  have c1 := count_any o s _ hI (hS.below b0)
  rw [h0, errOf_zero] at c1
  have c2 : ∀ W, Below (w.alloc (.cells (opC o s) 33)).heap.size (w.alloc (.cells (opC o s) 33)) W → Calls Tryz.prog 153 #[s, .slice none 0 0, .bool true] W fun r w' => r = .returned (.tuple #[.slice none 0 0, errV a e]) ∧ Below W.heap.size W w' := fun W hW =>
    comp_no true s (.slice none 0 0) o.A [] W (IO_x hI) ((hS.below b0).below hW) ((hR.row.below b0).below hW) (RowA.nil _ _ _) hF.small (fun q hq => by cases hq) (by have := hF.n; simp; omega) e (by rw [bothE_nil2]; exact he)
  clear hS hI hR hF h0 he
  obtain ⟨k, t, ⟨x, n, u⟩, c, A⟩ := o
  simp only [opC] at b0 c1 c2 D0
  go_enter Tryz.func129, Tryz.ntmps129
  go_wp2_with fail
  refine c1.mono ?_; rintro r w2 ⟨rfl, hb2⟩
  have b2 := b0.trans (hb2.mono b0.size)
  have D2 := D0.below hb2
  have e6 := D2.d6
  have c3 := c2 _ hb2
  clear c1 c2 b0 hb2 D0
  go_wp2_with fail
  refine c3.mono ?_; rintro r w3 ⟨rfl, hb3⟩
  have b3 := b2.trans (hb3.mono b2.size)
  clear c3 b2 hb3 e6 D2
  go_wp2
  go_ret2
  exact ⟨rfl, b3⟩
set_option maxHeartbeats 1000000 in
theorem ret_ok {I : List Nat} {a : Nat → Addr} (o : Op5) (s : Value) (w : World) (hI : ∀ i ∈ IxO, i ∈ I) (hS : Std I a w) (hR : RN w s o.A) (hF : Fit o) (h0 : cntE o = 0) (he : listE true none o.A = 0) :
    Calls Tryz.prog 129 #[opV o s] w fun r w' => ∃ v', r = .returned (.tuple #[.iface 151 (.agg #[v', .int .i64 o.c]), .nilIface]) ∧ OwnA w' w.heap.size v' o.A ∧ Below w.heap.size w w' := by
  have b0 := (Below.refl w.heap.size w).alloc (Nat.le_refl _) (.cells (opC o s) 33)
  have D0 := BoxO.new w o s
  have c1 := count_any o s _ hI (hS.below b0)
  rw [h0, errOf_zero] at c1
  have c2 : ∀ W, Below (w.alloc (.cells (opC o s) 33)).heap.size (w.alloc (.cells (opC o s) 33)) W → Calls Tryz.prog 153 #[s, .slice none 0 0, .bool true] W fun r w' => ∃ v', r = .returned (.tuple #[v', .nilIface]) ∧ OwnA w' W.heap.size v' o.A ∧ Below W.heap.size W w' := fun W hW => by
    have := comp_ok true s (.slice none 0 0) o.A [] W (IO_x hI) ((hS.below b0).below hW) ((hR.row.below b0).below hW) (RowA.nil _ _ _) hF.small (fun q hq => by cases hq) (by have := hF.n; simp; omega) (by rw [bothE_nil2]; exact he)
    rw [comp_nil2 he] at this
    exact this
  clear hS hI hR hF h0 he
  obtain ⟨k, t, ⟨x, n, u⟩, c, A⟩ := o
  simp only [opC] at b0 c1 c2 D0 ⊢
  go_enter Tryz.func129, Tryz.ntmps129
  go_wp2_with fail
  refine c1.mono ?_; rintro r w2 ⟨rfl, hb2⟩
  have b2 := b0.trans (hb2.mono b0.size)
  have D2 := D0.below hb2
  have e6 := D2.d6
  have c3 := c2 _ hb2
  clear c1 c2 b0 hb2 D0
  go_wp2_with fail
  refine c3.mono ?_; rintro r w3 ⟨v', rfl, own, hb3⟩
  obtain ⟨p', c', rfl⟩ := own_slice own
  have b3 := b2.trans (hb3.mono b2.size)
  have e5 := (D2.below hb3).d5
  have O3 : Hid (OwnA w3 w.heap.size (.slice p' A.length c') A) := own_weaken own b2.size
  simp only at e5
  clear c3 b2 hb3 e6 D2 own
  go_wp2
  go_ret2
  exact ⟨_, rfl, O3.out, b3⟩
set_option maxHeartbeats 1000000 in
theorem del_any {I : List Nat} {a : Nat → Addr} (o : Op5) (s : Value) (w : World) (hI : ∀ i ∈ IxO, i ∈ I) (hS : Std I a w) (hR : RN w s o.A) (E : Nat) (hE : (if o.A ≠ [] then 9 else cntE o) = E) :
    Calls Tryz.prog 130 #[opV o s] w fun r w' => r = .returned (.tuple #[if E = 0 then .iface 97 (.agg #[.int .i64 o.c]) else .nilIface, errOf a E]) ∧ Below w.heap.size w w' := by
  have b0 := (Below.refl w.heap.size w).alloc (Nat.le_refl _) (.cells (opC o s) 33)
  have D0 := BoxO.new w o s
  have c1 : ∀ W, Below (w.alloc (.cells (opC o s) 33)).heap.size (w.alloc (.cells (opC o s) 33)) W → Calls Tryz.prog 152 #[opV o s] W fun r w' => r = .returned (errOf a (cntE o)) ∧ Below W.heap.size W w' := fun W hW => count_any o s W hI ((hS.below b0).below hW)
  have gO : (w.alloc (.cells (opC o s) 33)).cell? ⟨10, 0, none⟩ = some (errV a 8) := (hS.below b0).er.cell 8 (hI 8 (by simp))
  obtain ⟨p, l, cc, rfl, hl⟩ : ∃ p l c, s = .slice p l c ∧ l = o.A.length := by obtain ⟨p, c, h, _⟩ := hR.row.val; exact ⟨_, _, _, h, rfl⟩
  by_cases hA : o.A = []
  · rw [if_neg (by simpa using hA)] at hE
    have hl0 : l = 0 := by rw [hl, hA]; rfl
    subst hl0
    rw [hE] at c1
    clear hl hA hR hS hI hE gO
    obtain ⟨k, t, ⟨x, n, u⟩, c, A⟩ := o
    simp only [opC] at b0 c1 D0 ⊢
    cases E with
    | zero =>
      simp only [errOf_zero] at c1 ⊢
      go_enter Tryz.func130, Tryz.ntmps130
      go_wp2_with fail
      refine (c1 _ (Below.refl _ _)).mono ?_; rintro r w2 ⟨rfl, hb2⟩
      have b2 := b0.trans (hb2.mono b0.size)
      have e5 := (D0.below hb2).d5
      simp only at e5
      clear c1 b0 hb2 D0
      go_wp2
      go_ret2
      exact ⟨rfl, b2⟩
    | succ e =>
      rw [errOf_succ] at c1 ⊢
      go_enter Tryz.func130, Tryz.ntmps130
      go_wp2_with fail
      refine (c1 _ (Below.refl _ _)).mono ?_; rintro r w2 ⟨rfl, hb2⟩
      have b2 := b0.trans (hb2.mono b0.size)
      clear c1 b0 hb2 D0
      go_wp2
      go_ret2
      exact ⟨rfl, b2⟩
  · rw [if_pos hA] at hE
    subst hE
    have hl0 : (0 : Int) < l := by rw [hl]; cases h : o.A with | nil => exact absurd h hA | cons x r => simp
    clear hl hA hR hS hI c1 D0
    obtain ⟨k, t, ⟨x, n, u⟩, c, A⟩ := o
    simp only [opC] at b0 gO ⊢
    go_enter Tryz.func130, Tryz.ntmps130
    go_wp2
    go_quiet (fail)
    go_wp2
    go_ret2
    exact ⟨rfl, below_drewN b0 _⟩
set_option maxHeartbeats 1000000 in
theorem piece_no {I : List Nat} {a : Nat → Addr} (o : Op5) (s : Value) (w : World) (hI : ∀ i ∈ IxO, i ∈ I) (hS : Std I a w) (hR : RN w s o.A) (hF : Fit o) (e : Nat) (he : opE o = e + 1) :
    Calls Tryz.prog 104 #[opV o s] w fun r w' => r = .returned (.tuple #[.nilIface, errV a e]) ∧ Below w.heap.size w w' := by
  have b0 := (Below.refl w.heap.size w).alloc (Nat.le_refl _) (.cells (opC o s) 33)
  have cI : o.k = 1 ∨ o.k = 2 → Calls Tryz.prog 128 #[opV o s] (w.alloc (.cells (opC o s) 33)) fun r w' => r = .returned (.tuple #[.nilIface, errV a e]) ∧ Below (w.alloc (.cells (opC o s) 33)).heap.size (w.alloc (.cells (opC o s) 33)) w' := fun hk =>
    op_no0 o s _ (IO_w hI) (hS.below b0) (hR.below b0) hF e (by unfold opE at he; rwa [if_pos hk] at he)
  have cR : o.k = 3 → Calls Tryz.prog 129 #[opV o s] (w.alloc (.cells (opC o s) 33)) fun r w' => r = .returned (.tuple #[.nilIface, errV a e]) ∧ Below (w.alloc (.cells (opC o s) 33)).heap.size (w.alloc (.cells (opC o s) 33)) w' := fun hk => by
    unfold opE at he
    rw [if_neg (by omega), if_pos hk] at he
    by_cases hc : cntE o = 0
    · rw [if_neg (by simpa using hc)] at he
      exact ret_no2 o s _ hI (hS.below b0) (hR.below b0) hF hc e he
    · rw [if_pos hc] at he
      exact ret_no1 o s _ hI (hS.below b0) e he
  have cD : o.k = 4 → Calls Tryz.prog 130 #[opV o s] (w.alloc (.cells (opC o s) 33)) fun r w' => r = .returned (.tuple #[.nilIface, errV a e]) ∧ Below (w.alloc (.cells (opC o s) 33)).heap.size (w.alloc (.cells (opC o s) 33)) w' := fun hk => by
    unfold opE at he
    rw [if_neg (by omega), if_neg (by omega), if_pos hk] at he
    have := del_any o s _ hI (hS.below b0) (hR.below b0) (e + 1) he
    rw [if_neg (by omega), errOf_succ] at this
    exact this
  have gO : (w.alloc (.cells (opC o s) 33)).cell? ⟨10, 0, none⟩ = some (errV a 8) := (hS.below b0).er.cell 8 (hI 8 (by simp))
  have h9 : ¬ o.k = 1 → ¬ o.k = 2 → ¬ o.k = 3 → ¬ o.k = 4 → e = 8 := fun h1 h2 h3 h4 => by
    unfold opE at he
    rw [if_neg (by omega), if_neg h3, if_neg h4] at he
    omega
  clear he hS hR hF hI
  obtain ⟨k, t, ⟨x, n, u⟩, c, A⟩ := o
  simp only [opC] at b0 cI cR cD gO h9
  by_cases k1 : k = 1
  · have c1 := cI (Or.inl k1)
    subst k1
    clear cI cR cD gO h9
    go_enter Tryz.func104, Tryz.ntmps104
    go_wp2_with fail
    refine c1.mono ?_; rintro r w2 ⟨rfl, hb2⟩
    have b2 := b0.trans (hb2.mono b0.size)
    clear c1 b0 hb2
    go_wp2
    go_ret2
    exact ⟨rfl, b2⟩
  · have e1 : (k == 1) = false := by simpa using k1
    by_cases k2 : k = 2
    · have c1 := cI (Or.inr k2)
      subst k2
      clear cI cR cD gO h9 e1
      go_enter Tryz.func104, Tryz.ntmps104
      go_wp2_with fail
      refine c1.mono ?_; rintro r w2 ⟨rfl, hb2⟩
      have b2 := b0.trans (hb2.mono b0.size)
      clear c1 b0 hb2
      go_wp2
      go_ret2
      exact ⟨rfl, b2⟩
    · have e2 : (k == 2) = false := by simpa using k2
      by_cases k3 : k = 3
      · have c1 := cR k3
        subst k3
        clear cI cR cD gO h9 e1 e2
        go_enter Tryz.func104, Tryz.ntmps104
        go_wp2_with fail
        refine c1.mono ?_; rintro r w2 ⟨rfl, hb2⟩
        have b2 := b0.trans (hb2.mono b0.size)
        clear c1 b0 hb2
        go_wp2
        go_ret2
        exact ⟨rfl, b2⟩
      · have e3 : (k == 3) = false := by simpa using k3
        by_cases k4 : k = 4
        · have c1 := cD k4
          subst k4
          clear cI cR cD gO h9 e1 e2 e3
          go_enter Tryz.func104, Tryz.ntmps104
          go_wp2_with fail
          refine c1.mono ?_; rintro r w2 ⟨rfl, hb2⟩
          have b2 := b0.trans (hb2.mono b0.size)
          clear c1 b0 hb2
          go_wp2
          go_ret2
          exact ⟨rfl, b2⟩
        · have e4 : (k == 4) = false := by simpa using k4
          obtain rfl := h9 k1 k2 k3 k4
          clear cI cR cD h9 k1 k2 k3 k4
          go_enter Tryz.func104, Tryz.ntmps104
          go_wp2
          go_quiet (fail)
          go_wp2
          go_ret2
          exact ⟨rfl, below_drewN b0 _⟩
set_option maxHeartbeats 1000000 in
theorem piece_ok {I : List Nat} {a : Nat → Addr} (o : Op5) (s : Value) (w : World) (hI : ∀ i ∈ IxO, i ∈ I) (hS : Std I a w) (hR : RN w s o.A) (hF : Fit o) (he : opE o = 0) :
    Calls Tryz.prog 104 #[opV o s] w fun r w' => ∃ v', r = .returned (.tuple #[pieceQ o v', .nilIface]) ∧ OwnA w' w.heap.size v' o.A ∧ Below w.heap.size w w' := by
  have b0 := (Below.refl w.heap.size w).alloc (Nat.le_refl _) (.cells (opC o s) 33)
  rcases op_good he with ⟨hi, hk⟩ | ⟨hc, hl, hk⟩ | ⟨hc, hA, hk⟩
  · have c1 := op_ok0 o s _ (IO_w hI) (hS.below b0) (hR.below b0) hF hi
    obtain ⟨Vu, Vx, hV⟩ := valP_if o.v
    unfold pieceV at c1
    unfold pieceQ
    rw [hV] at c1 ⊢
    clear hR hS hI hF hi hV he
    obtain ⟨k, t, ⟨x, n, u⟩, c, A⟩ := o
    simp only [opC] at b0 c1 hk ⊢
    rcases hk with rfl | rfl
    · simp only [if_true] at c1 ⊢
      go_enter Tryz.func104, Tryz.ntmps104
      go_wp2_with fail
      refine c1.mono ?_; rintro r w2 ⟨v', rfl, own, hb2⟩
      obtain ⟨p', c', rfl⟩ := own_slice own
      have b2 := b0.trans (hb2.mono b0.size)
      have O2 : Hid (OwnA w2 w.heap.size (.slice p' A.length c') A) := own_weaken own b0.size
      clear c1 b0 hb2 own
      go_wp2
      go_ret2
      exact ⟨_, rfl, O2.out, b2⟩
    · simp only [show ¬ ((2 : Int) = 1) by omega, if_false, if_true] at c1 ⊢
      go_enter Tryz.func104, Tryz.ntmps104
      go_wp2_with fail
      refine c1.mono ?_; rintro r w2 ⟨v', rfl, own, hb2⟩
      obtain ⟨p', c', rfl⟩ := own_slice own
      have b2 := b0.trans (hb2.mono b0.size)
      have O2 : Hid (OwnA w2 w.heap.size (.slice p' A.length c') A) := own_weaken own b0.size
      clear c1 b0 hb2 own
      go_wp2
      go_ret2
      exact ⟨_, rfl, O2.out, b2⟩
  · have c1 := ret_ok o s _ hI (hS.below b0) (hR.below b0) hF (cnt_iff.2 hc) hl
    unfold pieceQ
    clear hR hS hI hF hc hl he
    obtain ⟨k, t, ⟨x, n, u⟩, c, A⟩ := o
    simp only [opC] at b0 c1 hk ⊢
    subst hk
    simp only [show ¬ ((3 : Int) = 1) by omega, show ¬ ((3 : Int) = 2) by omega, if_false, if_true] at c1 ⊢
    go_enter Tryz.func104, Tryz.ntmps104
    go_wp2_with fail
    refine c1.mono ?_; rintro r w2 ⟨v', rfl, own, hb2⟩
    obtain ⟨p', c', rfl⟩ := own_slice own
    have b2 := b0.trans (hb2.mono b0.size)
    have O2 : Hid (OwnA w2 w.heap.size (.slice p' A.length c') A) := own_weaken own b0.size
    clear c1 b0 hb2 own
    go_wp2
    go_ret2
    exact ⟨_, rfl, O2.out, b2⟩
  · have c1 := del_any o s _ hI (hS.below b0) (hR.below b0) 0 (by rw [if_neg (by simpa using hA)]; exact cnt_iff.2 hc)
    simp only [errOf_zero, if_true] at c1
    unfold pieceQ
    clear hR hS hI hF hc he
    obtain ⟨k, t, ⟨x, n, u⟩, c, A⟩ := o
    simp only [opC] at b0 c1 hk hA ⊢
    subst hk hA
    simp only [show ¬ ((4 : Int) = 1) by omega, show ¬ ((4 : Int) = 2) by omega, show ¬ ((4 : Int) = 3) by omega, if_false]
    go_enter Tryz.func104, Tryz.ntmps104
    go_wp2_with fail
    refine c1.mono ?_; rintro r w2 ⟨rfl, hb2⟩
    have b2 := b0.trans (hb2.mono b0.size)
    clear c1 b0 hb2
    go_wp2
    go_ret2
    exact ⟨.slice none 0 0, rfl, ⟨rfl, Or.inl ⟨rfl, rfl⟩⟩, b2⟩
end Go.Proofs.YtplnojapnaaakaaGreatDoor
