/- What content.Cells and content.Newlines answer. -/
import Derived.Test.YtecmdlecfddeeaaDoorCd
import Derived.Test.YtecmdlecfddeeaaDoorVm
namespace Go.Proofs.YtecmdlecfddeeaaDoor
open Go Go.RowKit Go.Lib
set_option linter.unusedVariables false

/-- An insert's cells. -/
def cellsOf (o : Op5) : List C5 := if o.k = 1 then mkC o.A (scs o.t.data.toList) else [(-1, o.t, o.v, o.A)]
theorem cellsOf_len (o : Op5) : (cellsOf o).length = lenO o := by
  unfold cellsOf lenO
  split
  · exact mkC_len _ _
  · rfl
theorem cellsOf_A (o : Op5) : ∀ e ∈ cellsOf o, e.2.2.2 = o.A := fun e he => by
  unfold cellsOf at he
  split at he
  · unfold mkC at he
    obtain ⟨r, _, rfl⟩ := List.mem_map.1 he
    rfl
  · obtain rfl := List.mem_singleton.1 he
    rfl
theorem own_oneC (w : World) (B : Nat) (hB : B ≤ w.heap.size) (d : CV) : OwnC (w.alloc (.cells (ceC d) 47)) B (.slice (some ⟨w.heap.size, 0, none⟩) 1 1) [d] :=
  ⟨rfl, Or.inr ⟨w.heap.size, 1, ceC d, rfl, hB, by show (w.heap.push _)[w.heap.size]? = _; simp, Nat.le_refl _, by decide, rfl, rfl⟩⟩

theorem cellsO_no {I : List Nat} {a : Nat → Addr} (o : Op5) (s : Value) (w : World) (hI : ∀ i ∈ IC, i ∈ I) (hS : Std I a w) (hR : RN w s o.A) (hF : Fit o) (e : Nat) (he : insE o = e + 1) :
    Calls Tryd.prog 13 #[opV o s] w fun r w' => r = .returned (.tuple #[.slice none 0 0, errV a e]) ∧ Below w.heap.size w w' := by
  have b0 := (Below.refl w.heap.size w).alloc (Nat.le_refl _) (.cells (opC o s) 26)
  have c1 := op_no o s _ hI (hS.below b0) (hR.below b0) hF e he
  clear hR hS hI hF he
  obtain ⟨k, t, ⟨x, n, u⟩, c, A⟩ := o
  simp only [opC] at b0 c1
  go_enter Tryd.func13, Tryd.ntmps13
  go_wp2_with fail
  refine c1.mono ?_; rintro r w2 ⟨rfl, hb2⟩
  have b2 := b0.trans (hb2.mono b0.size)
  clear c1 b0 hb2
  go_wp2
  go_ret2
  exact ⟨rfl, b2⟩
theorem newl_no {I : List Nat} {a : Nat → Addr} (o : Op5) (s : Value) (w : World) (hI : ∀ i ∈ IC, i ∈ I) (hS : Std I a w) (hR : RN w s o.A) (hF : Fit o) (e : Nat) (he : insE o = e + 1) :
    Calls Tryd.prog 14 #[opV o s] w fun r w' => r = .returned (.tuple #[.int .i64 0, errV a e]) ∧ Below w.heap.size w w' := by
  have b0 := (Below.refl w.heap.size w).alloc (Nat.le_refl _) (.cells (opC o s) 26)
  have c1 := op_no o s _ hI (hS.below b0) (hR.below b0) hF e he
  clear hR hS hI hF he
  obtain ⟨k, t, ⟨x, n, u⟩, c, A⟩ := o
  simp only [opC] at b0 c1
  go_enter Tryd.func14, Tryd.ntmps14
  go_wp2_with fail
  refine c1.mono ?_; rintro r w2 ⟨rfl, hb2⟩
  have b2 := b0.trans (hb2.mono b0.size)
  clear c1 b0 hb2
  go_wp2
  go_ret2
  exact ⟨rfl, b2⟩
/-- How many newlines an insert has. -/
def newlO (o : Op5) : Nat := if o.k = 1 then countByte o.t.data.toList 10 else 0

set_option maxHeartbeats 2000000 in
set_option maxRecDepth 100000 in
theorem newl_ok {I : List Nat} {a : Nat → Addr} (o : Op5) (s : Value) (w : World) (hI : ∀ i ∈ IC, i ∈ I) (hS : Std I a w) (hR : RN w s o.A) (hF : Fit o) (hO : Ins o) (hk : o.k = 1) :
    Calls Tryd.prog 14 #[opV o s] w fun r w' => r = .returned (.tuple #[.int .i64 (newlO o), .nilIface]) ∧ Below w.heap.size w w' := by
  have hnl : newlO o = countByte o.t.data.toList 10 := by unfold newlO; rw [if_pos hk]
  rw [hnl]
  clear hnl
  have b0 := (Below.refl w.heap.size w).alloc (Nat.le_refl _) (.cells (opC o s) 26)
  have c1 := op_ok o s _ hI (hS.below b0) (hR.below b0) hF hO
  obtain ⟨Vu, Vx, hV⟩ := valP_if o.v
  unfold pieceV at c1
  rw [hV] at c1
  have hut := hO.utf
  have ht8 := hF.t
  have hn8 := hF.n
  clear hR hS hI hF hO hV
  obtain ⟨k, t, ⟨x, n, u⟩, c, A⟩ := o
  simp only at hk hut ht8 hn8
  subst hk
  simp only [opC] at b0
  simp only [if_true] at c1
  go_enter Tryd.func14, Tryd.ntmps14
  go_wp2_with fail
  refine c1.mono ?_; rintro r w2 ⟨v', rfl, own, hb2⟩
  obtain ⟨p', c', rfl⟩ := own_slice own
  have b2 := b0.trans (hb2.mono b0.size)
  have as1 := as_i_i
  clear c1 b0 hb2 own
  go_wp2_with fail
  refine (Tryd.strings_Count_one _ _ _).mono ?_; rintro r w3 ⟨rfl, rfl⟩
  go_wp2
  go_ret2
  exact ⟨rfl, b2.alloc b2.size _⟩

set_option maxHeartbeats 2000000 in
set_option maxRecDepth 100000 in
theorem newl_emb {I : List Nat} {a : Nat → Addr} (o : Op5) (s : Value) (w : World) (hI : ∀ i ∈ IC, i ∈ I) (hS : Std I a w) (hR : RN w s o.A) (hF : Fit o) (hO : Ins o) (hk : o.k = 2) :
    Calls Tryd.prog 14 #[opV o s] w fun r w' => r = .returned (.tuple #[.int .i64 (newlO o), .nilIface]) ∧ Below w.heap.size w w' := by
  have hnl : newlO o = 0 := by unfold newlO; rw [if_neg (by omega)]
  rw [hnl]
  clear hnl
  have b0 := (Below.refl w.heap.size w).alloc (Nat.le_refl _) (.cells (opC o s) 26)
  have c1 := op_ok o s _ hI (hS.below b0) (hR.below b0) hF hO
  obtain ⟨Vu, Vx, hV⟩ := valP_if o.v
  unfold pieceV at c1
  rw [hV] at c1
  have hut := hO.utf
  have ht8 := hF.t
  have hn8 := hF.n
  clear hR hS hI hF hO hV
  obtain ⟨k, t, ⟨x, n, u⟩, c, A⟩ := o
  simp only at hk hut ht8 hn8
  subst hk
  simp only [opC] at b0
  simp only [show ¬ ((2 : Int) = 1) by omega, if_false] at c1
  go_enter Tryd.func14, Tryd.ntmps14
  go_wp2_with fail
  refine c1.mono ?_; rintro r w2 ⟨v', rfl, own, hb2⟩
  obtain ⟨p', c', rfl⟩ := own_slice own
  have b2 := b0.trans (hb2.mono b0.size)
  have as1 := as_e_i
  have as2 := as_e_e
  clear c1 b0 hb2 own
  go_wp2
  go_ret2
  exact ⟨rfl, b2.alloc b2.size _⟩

set_option maxHeartbeats 2000000 in
set_option maxRecDepth 100000 in
theorem cellsO_ok {I : List Nat} {a : Nat → Addr} (o : Op5) (s : Value) (w : World) (hI : ∀ i ∈ IC, i ∈ I) (hS : Std I a w) (hR : RN w s o.A) (hF : Fit o) (hO : Ins o) (hk : o.k = 1) :
    Calls Tryd.prog 13 #[opV o s] w fun r w' => ∃ v' D, r = .returned (.tuple #[v', .nilIface]) ∧ OwnC w' w.heap.size v' D ∧ AreO w' w.heap.size D (cellsOf o) ∧ Below w.heap.size w w' := by
  have hnl : cellsOf o = mkC o.A (scs o.t.data.toList) := by unfold cellsOf; rw [if_pos hk]
  rw [hnl]
  clear hnl
  have b0 := (Below.refl w.heap.size w).alloc (Nat.le_refl _) (.cells (opC o s) 26)
  have c1 := op_ok o s _ hI (hS.below b0) (hR.below b0) hF hO
  obtain ⟨Vu, Vx, hV⟩ := valP_if o.v
  unfold pieceV at c1
  rw [hV] at c1
  have hut := hO.utf
  have ht8 := hF.t
  have hn8 := hF.n
  clear hR hS hI hF hO hV
  obtain ⟨k, t, ⟨x, n, u⟩, c, A⟩ := o
  simp only at hk hut ht8 hn8
  subst hk
  simp only [opC] at b0
  simp only [if_true] at c1
  go_enter Tryd.func13, Tryd.ntmps13
  go_wp2_with fail
  refine c1.mono ?_; rintro r w2 ⟨v', rfl, own, hb2⟩
  obtain ⟨p', c', rfl⟩ := own_slice own
  have b2 := b0.trans (hb2.mono b0.size)
  have as1 := as_i_i
  have hb3 : Below w2.heap.size w2 (w2.alloc (.cells #[.slice p' A.length c', .string t, .int .i64 (scs t.data.toList).length] 67)) := (Below.refl _ _).alloc (Nat.le_refl _) _
  have c2 := textCells_any p' c' t A _ ((own_RN own).below hb3) hut (by omega) ht8
  have b3 := b2.trans (hb3.mono b2.size)
  clear c1 b0 hb2 own hut ht8 hn8 hb3
  go_wp2_with fail
  refine c2.mono ?_; rintro r w4 ⟨v4, D, rfl, o4, a4, hb4⟩
  obtain ⟨p4, c4, rfl⟩ := own_slice o4
  have HO : Hid (OwnC w4 w.heap.size (.slice p4 D.length c4) D ∧ AreO w4 w.heap.size D (mkC A (scs t.data.toList))) := ⟨own_weaken o4 b3.size, All2.imp (fun d e h => ⟨h.1, h.2.1, h.2.2.1, own_weaken h.2.2.2 b3.size⟩) a4⟩
  have b4 := b3.trans (hb4.mono b3.size)
  clear o4 a4 c2 hb4
  go_wp2
  go_ret2
  exact ⟨_, D, rfl, HO.out.1, HO.out.2, b4⟩

set_option maxHeartbeats 2000000 in
set_option maxRecDepth 100000 in
theorem cellsO_null {I : List Nat} {a : Nat → Addr} (o : Op5) (s : Value) (w : World) (hI : ∀ i ∈ IC, i ∈ I) (hS : Std I a w) (hR : RN w s o.A) (hF : Fit o) (hO : Ins o) (hk : o.k = 2)  (hv : o.v = (0, 0, ⟨#[]⟩)) :
    Calls Tryd.prog 13 #[opV o s] w fun r w' => ∃ v' D, r = .returned (.tuple #[v', .nilIface]) ∧ OwnC w' w.heap.size v' D ∧ AreO w' w.heap.size D (cellsOf o) ∧ Below w.heap.size w w' := by
  have hnl : cellsOf o = [(-1, o.t, o.v, o.A)] := by unfold cellsOf; rw [if_neg (by omega)]
  rw [hnl]
  have cA : Hid (∀ W v, OwnA W w.heap.size v o.A → Calls Tryd.prog 36 #[.agg #[v]] W fun r w' => ∃ v', r = .returned v' ∧ OwnA w' W.heap.size v' o.A ∧ Below W.heap.size W w') := fun W v hv => attributes_any v o.A W (own_rowA hv) (own_nil hv) (by have := hF.n; omega)
  have hV : valP o.v = .iface 111 (.agg #[]) := by rw [hv]; rfl
  clear hnl
  have b0 := (Below.refl w.heap.size w).alloc (Nat.le_refl _) (.cells (opC o s) 26)
  have c1 := op_ok o s _ hI (hS.below b0) (hR.below b0) hF hO
  unfold pieceV at c1
  rw [hV] at c1
  have hut := hO.utf
  have ht8 := hF.t
  have hn8 := hF.n
  clear hR hS hI hF hO hV
  obtain ⟨k, t, ⟨x, n, u⟩, c, A⟩ := o
  simp only at hk hut ht8 hn8 cA hv
  obtain ⟨rfl, rfl, rfl⟩ : x = 0 ∧ n = 0 ∧ u = ⟨#[]⟩ := ⟨congrArg (fun z : P3 => z.1) hv, congrArg (fun z : P3 => z.2.1) hv, congrArg (fun z : P3 => z.2.2) hv⟩
  subst hk
  simp only [opC] at b0
  simp only [show ¬ ((2 : Int) = 1) by omega, if_false] at c1
  go_enter Tryd.func13, Tryd.ntmps13
  go_wp2_with fail
  refine c1.mono ?_; rintro r w2 ⟨v', rfl, own, hb2⟩
  obtain ⟨p', c', rfl⟩ := own_slice own
  have b2 := b0.trans (hb2.mono b0.size)
  have as1 := as_e_i
  have as2 := as_e_e
  have HO : Hid (OwnA w2 w.heap.size (.slice p' A.length c') A) := own_weaken own b0.size
  clear c1 b0 hb2 own hut ht8 hn8 hv
  go_wp2_with fail
  clear as1 as2
  obtain ⟨W3, hW3⟩ : ∃ W3, W3 = w2.alloc (.cells #[.slice p' A.length c', .string t, .iface 111 (.agg #[])] 72) := ⟨_, rfl⟩
  have hb3 : Below w2.heap.size w2 W3.drew := by rw [hW3]; exact ((Below.refl _ _).alloc (Nat.le_refl _) _).drew
  have j0 : W3.drew.cell? ⟨w2.heap.size, 0, none⟩ = some (.slice p' A.length c') := by rw [hW3]; show (w2.alloc _).cell? _ = _; simp
  have j1 : W3.drew.cell? ⟨w2.heap.size, 1, none⟩ = some (.string t) := by rw [hW3]; show (w2.alloc _).cell? _ = _; simp
  have j2 : W3.drew.cell? ⟨w2.heap.size, 2, none⟩ = some (.iface 111 (.agg #[])) := by rw [hW3]; show (w2.alloc _).cell? _ = _; simp
  have b3 := b2.trans (hb3.mono b2.size)
  have O3 : Hid (OwnA W3.drew w.heap.size (.slice p' A.length c') A) := owns_below HO.out hb3
  have hz3 : w.heap.size ≤ W3.drew.heap.size := b3.size
  rw [← hW3]
  obtain ⟨B9, hB9⟩ : ∃ B, B = w2.heap.size := ⟨_, rfl⟩
  rw [← hB9] at j0 j1 j2 ⊢
  clear HO hW3 hb3 b2 hB9
  go_region_held3 (fun w' => w'.cell? ⟨B9, 0, none⟩ = some (.slice p' A.length c') ∧ w'.cell? ⟨B9, 1, none⟩ = some (.string t) ∧ w'.cell? ⟨B9, 2, none⟩ = some (.iface 111 (.agg #[])) ∧ Below w.heap.size w w')
    (refine ⟨?_, ?_, ?_, ?_⟩ <;> with_reducible first | assumption | exact (ba.cell (lt_of_cell j0)).trans j0 | exact (ba.cell (lt_of_cell j1)).trans j1 | exact (ba.cell (lt_of_cell j2)).trans j2 | exact ga)
    (first
      | (go_at_call 116; refine (plain_n _).mono ?_; rintro r w4 ⟨rfl, b4⟩; have g4 := b3.trans (b4.mono hz3); have i0 := (b4.cell (lt_of_cell j0)).trans j0; have i1 := (b4.cell (lt_of_cell j1)).trans j1; have i2 := (b4.cell (lt_of_cell j2)).trans j2; have O4 : Hid (OwnA w4 w.heap.size (.slice p' A.length c') A) := owns_below O3.out b4; have cA1 := cA.out w4 _ O4.out; have hz4 := g4.size; clear O3 b3 j0 j1 j2)
      | (go_at_call 36; refine cA1.mono ?_; rintro r w5 ⟨s5, rfl, o5, b5⟩; obtain ⟨p5, c5, rfl⟩ := own_slice o5; have g5 := g4.trans (b5.mono hz4); have j0 := (b5.cell (lt_of_cell i0)).trans i0; have j1 := (b5.cell (lt_of_cell i1)).trans i1; have j2 := (b5.cell (lt_of_cell i2)).trans i2; have O5 : Hid (OwnA w5 w4.heap.size (.slice p5 A.length c5) A) := o5; have hz5 := g5.size; clear cA1 o5 O4 i0 i1 i2; have ba : Below w5.heap.size w5 (w5.alloc (.cells (ceC (-1, t, (0, 0, ⟨#[]⟩), p5, A.length, c5)) 47)) := (Below.refl _ _).alloc (Nat.le_refl _) _; have ga := g5.trans (ba.mono hz5); simp only [ceC] at ba ga))
  have HE : Hid (AreO (w5.alloc (.cells (ceC (-1, t, (0, 0, ⟨#[]⟩), p5, A.length, c5)) 47)) w.heap.size [((-1 : Int), t, (0, 0, ⟨#[]⟩), p5, A.length, c5)] [(-1, t, (0, 0, ⟨#[]⟩), A)]) := .cons ⟨rfl, rfl, rfl, own_weaken (owns_below O5.out ba) hz4⟩ .nil
  go_wp2
  go_ret2
  exact ⟨_, [((-1 : Int), t, (0, 0, ⟨#[]⟩), p5, A.length, c5)], rfl, own_oneC w5 w.heap.size hz5 _, HE.out, ga⟩

theorem plain_f0 (w : World) : Calls Tryd.prog 110 #[.bool false] w fun e w' => e = .returned (pl 1 0 ⟨#[]⟩) ∧ Below w.heap.size w w' := plain_f false w
theorem plain_f1 (w : World) : Calls Tryd.prog 110 #[.bool true] w fun e w' => e = .returned (pl 1 1 ⟨#[]⟩) ∧ Below w.heap.size w w' := plain_f true w

set_option maxHeartbeats 2000000 in
set_option maxRecDepth 100000 in
theorem cellsO_flag0 {I : List Nat} {a : Nat → Addr} (o : Op5) (s : Value) (w : World) (hI : ∀ i ∈ IC, i ∈ I) (hS : Std I a w) (hR : RN w s o.A) (hF : Fit o) (hO : Ins o) (hk : o.k = 2)  (hv : o.v = (1, 0, ⟨#[]⟩)) :
    Calls Tryd.prog 13 #[opV o s] w fun r w' => ∃ v' D, r = .returned (.tuple #[v', .nilIface]) ∧ OwnC w' w.heap.size v' D ∧ AreO w' w.heap.size D (cellsOf o) ∧ Below w.heap.size w w' := by
  have hnl : cellsOf o = [(-1, o.t, o.v, o.A)] := by unfold cellsOf; rw [if_neg (by omega)]
  rw [hnl]
  have cA : Hid (∀ W v, OwnA W w.heap.size v o.A → Calls Tryd.prog 36 #[.agg #[v]] W fun r w' => ∃ v', r = .returned v' ∧ OwnA w' W.heap.size v' o.A ∧ Below W.heap.size W w') := fun W v hv => attributes_any v o.A W (own_rowA hv) (own_nil hv) (by have := hF.n; omega)
  have hV : valP o.v = .iface 107 (.bool false) := by rw [hv]; rfl
  clear hnl
  have b0 := (Below.refl w.heap.size w).alloc (Nat.le_refl _) (.cells (opC o s) 26)
  have c1 := op_ok o s _ hI (hS.below b0) (hR.below b0) hF hO
  unfold pieceV at c1
  rw [hV] at c1
  have hut := hO.utf
  have ht8 := hF.t
  have hn8 := hF.n
  clear hR hS hI hF hO hV
  obtain ⟨k, t, ⟨x, n, u⟩, c, A⟩ := o
  simp only at hk hut ht8 hn8 cA hv
  obtain ⟨rfl, rfl, rfl⟩ : x = 1 ∧ n = 0 ∧ u = ⟨#[]⟩ := ⟨congrArg (fun z : P3 => z.1) hv, congrArg (fun z : P3 => z.2.1) hv, congrArg (fun z : P3 => z.2.2) hv⟩
  subst hk
  simp only [opC] at b0
  simp only [show ¬ ((2 : Int) = 1) by omega, if_false] at c1
  go_enter Tryd.func13, Tryd.ntmps13
  go_wp2_with fail
  refine c1.mono ?_; rintro r w2 ⟨v', rfl, own, hb2⟩
  obtain ⟨p', c', rfl⟩ := own_slice own
  have b2 := b0.trans (hb2.mono b0.size)
  have as1 := as_e_i
  have as2 := as_e_e
  have HO : Hid (OwnA w2 w.heap.size (.slice p' A.length c') A) := own_weaken own b0.size
  clear c1 b0 hb2 own hut ht8 hn8 hv
  go_wp2_with fail
  clear as1 as2
  obtain ⟨W3, hW3⟩ : ∃ W3, W3 = w2.alloc (.cells #[.slice p' A.length c', .string t, .iface 107 (.bool false)] 72) := ⟨_, rfl⟩
  have hb3 : Below w2.heap.size w2 W3.drew := by rw [hW3]; exact ((Below.refl _ _).alloc (Nat.le_refl _) _).drew
  have j0 : W3.drew.cell? ⟨w2.heap.size, 0, none⟩ = some (.slice p' A.length c') := by rw [hW3]; show (w2.alloc _).cell? _ = _; simp
  have j1 : W3.drew.cell? ⟨w2.heap.size, 1, none⟩ = some (.string t) := by rw [hW3]; show (w2.alloc _).cell? _ = _; simp
  have j2 : W3.drew.cell? ⟨w2.heap.size, 2, none⟩ = some (.iface 107 (.bool false)) := by rw [hW3]; show (w2.alloc _).cell? _ = _; simp
  have b3 := b2.trans (hb3.mono b2.size)
  have O3 : Hid (OwnA W3.drew w.heap.size (.slice p' A.length c') A) := owns_below HO.out hb3
  have hz3 : w.heap.size ≤ W3.drew.heap.size := b3.size
  rw [← hW3]
  obtain ⟨B9, hB9⟩ : ∃ B, B = w2.heap.size := ⟨_, rfl⟩
  rw [← hB9] at j0 j1 j2 ⊢
  clear HO hW3 hb3 b2 hB9
  go_region_held3 (fun w' => w'.cell? ⟨B9, 0, none⟩ = some (.slice p' A.length c') ∧ w'.cell? ⟨B9, 1, none⟩ = some (.string t) ∧ w'.cell? ⟨B9, 2, none⟩ = some (.iface 107 (.bool false)) ∧ Below w.heap.size w w')
    (refine ⟨?_, ?_, ?_, ?_⟩ <;> with_reducible first | assumption | exact (ba.cell (lt_of_cell j0)).trans j0 | exact (ba.cell (lt_of_cell j1)).trans j1 | exact (ba.cell (lt_of_cell j2)).trans j2 | exact ga)
    (first
      | (go_at_call 110; refine (plain_f0 _).mono ?_; rintro r w4 ⟨rfl, b4⟩; have g4 := b3.trans (b4.mono hz3); have i0 := (b4.cell (lt_of_cell j0)).trans j0; have i1 := (b4.cell (lt_of_cell j1)).trans j1; have i2 := (b4.cell (lt_of_cell j2)).trans j2; have O4 : Hid (OwnA w4 w.heap.size (.slice p' A.length c') A) := owns_below O3.out b4; have cA1 := cA.out w4 _ O4.out; have hz4 := g4.size; clear O3 b3 j0 j1 j2)
      | (go_at_call 36; refine cA1.mono ?_; rintro r w5 ⟨s5, rfl, o5, b5⟩; obtain ⟨p5, c5, rfl⟩ := own_slice o5; have g5 := g4.trans (b5.mono hz4); have j0 := (b5.cell (lt_of_cell i0)).trans i0; have j1 := (b5.cell (lt_of_cell i1)).trans i1; have j2 := (b5.cell (lt_of_cell i2)).trans i2; have O5 : Hid (OwnA w5 w4.heap.size (.slice p5 A.length c5) A) := o5; have hz5 := g5.size; clear cA1 o5 O4 i0 i1 i2; have ba : Below w5.heap.size w5 (w5.alloc (.cells (ceC (-1, t, (1, 0, ⟨#[]⟩), p5, A.length, c5)) 47)) := (Below.refl _ _).alloc (Nat.le_refl _) _; have ga := g5.trans (ba.mono hz5); simp only [ceC] at ba ga))
  have HE : Hid (AreO (w5.alloc (.cells (ceC (-1, t, (1, 0, ⟨#[]⟩), p5, A.length, c5)) 47)) w.heap.size [((-1 : Int), t, (1, 0, ⟨#[]⟩), p5, A.length, c5)] [(-1, t, (1, 0, ⟨#[]⟩), A)]) := .cons ⟨rfl, rfl, rfl, own_weaken (owns_below O5.out ba) hz4⟩ .nil
  go_wp2
  go_ret2
  exact ⟨_, [((-1 : Int), t, (1, 0, ⟨#[]⟩), p5, A.length, c5)], rfl, own_oneC w5 w.heap.size hz5 _, HE.out, ga⟩


set_option maxHeartbeats 2000000 in
set_option maxRecDepth 100000 in
theorem cellsO_flag1 {I : List Nat} {a : Nat → Addr} (o : Op5) (s : Value) (w : World) (hI : ∀ i ∈ IC, i ∈ I) (hS : Std I a w) (hR : RN w s o.A) (hF : Fit o) (hO : Ins o) (hk : o.k = 2)  (hv : o.v = (1, 1, ⟨#[]⟩)) :
    Calls Tryd.prog 13 #[opV o s] w fun r w' => ∃ v' D, r = .returned (.tuple #[v', .nilIface]) ∧ OwnC w' w.heap.size v' D ∧ AreO w' w.heap.size D (cellsOf o) ∧ Below w.heap.size w w' := by
  have hnl : cellsOf o = [(-1, o.t, o.v, o.A)] := by unfold cellsOf; rw [if_neg (by omega)]
  rw [hnl]
  have cA : Hid (∀ W v, OwnA W w.heap.size v o.A → Calls Tryd.prog 36 #[.agg #[v]] W fun r w' => ∃ v', r = .returned v' ∧ OwnA w' W.heap.size v' o.A ∧ Below W.heap.size W w') := fun W v hv => attributes_any v o.A W (own_rowA hv) (own_nil hv) (by have := hF.n; omega)
  have hV : valP o.v = .iface 107 (.bool true) := by rw [hv]; rfl
  clear hnl
  have b0 := (Below.refl w.heap.size w).alloc (Nat.le_refl _) (.cells (opC o s) 26)
  have c1 := op_ok o s _ hI (hS.below b0) (hR.below b0) hF hO
  unfold pieceV at c1
  rw [hV] at c1
  have hut := hO.utf
  have ht8 := hF.t
  have hn8 := hF.n
  clear hR hS hI hF hO hV
  obtain ⟨k, t, ⟨x, n, u⟩, c, A⟩ := o
  simp only at hk hut ht8 hn8 cA hv
  obtain ⟨rfl, rfl, rfl⟩ : x = 1 ∧ n = 1 ∧ u = ⟨#[]⟩ := ⟨congrArg (fun z : P3 => z.1) hv, congrArg (fun z : P3 => z.2.1) hv, congrArg (fun z : P3 => z.2.2) hv⟩
  subst hk
  simp only [opC] at b0
  simp only [show ¬ ((2 : Int) = 1) by omega, if_false] at c1
  go_enter Tryd.func13, Tryd.ntmps13
  go_wp2_with fail
  refine c1.mono ?_; rintro r w2 ⟨v', rfl, own, hb2⟩
  obtain ⟨p', c', rfl⟩ := own_slice own
  have b2 := b0.trans (hb2.mono b0.size)
  have as1 := as_e_i
  have as2 := as_e_e
  have HO : Hid (OwnA w2 w.heap.size (.slice p' A.length c') A) := own_weaken own b0.size
  clear c1 b0 hb2 own hut ht8 hn8 hv
  go_wp2_with fail
  clear as1 as2
  obtain ⟨W3, hW3⟩ : ∃ W3, W3 = w2.alloc (.cells #[.slice p' A.length c', .string t, .iface 107 (.bool true)] 72) := ⟨_, rfl⟩
  have hb3 : Below w2.heap.size w2 W3.drew := by rw [hW3]; exact ((Below.refl _ _).alloc (Nat.le_refl _) _).drew
  have j0 : W3.drew.cell? ⟨w2.heap.size, 0, none⟩ = some (.slice p' A.length c') := by rw [hW3]; show (w2.alloc _).cell? _ = _; simp
  have j1 : W3.drew.cell? ⟨w2.heap.size, 1, none⟩ = some (.string t) := by rw [hW3]; show (w2.alloc _).cell? _ = _; simp
  have j2 : W3.drew.cell? ⟨w2.heap.size, 2, none⟩ = some (.iface 107 (.bool true)) := by rw [hW3]; show (w2.alloc _).cell? _ = _; simp
  have b3 := b2.trans (hb3.mono b2.size)
  have O3 : Hid (OwnA W3.drew w.heap.size (.slice p' A.length c') A) := owns_below HO.out hb3
  have hz3 : w.heap.size ≤ W3.drew.heap.size := b3.size
  rw [← hW3]
  obtain ⟨B9, hB9⟩ : ∃ B, B = w2.heap.size := ⟨_, rfl⟩
  rw [← hB9] at j0 j1 j2 ⊢
  clear HO hW3 hb3 b2 hB9
  go_region_held3 (fun w' => w'.cell? ⟨B9, 0, none⟩ = some (.slice p' A.length c') ∧ w'.cell? ⟨B9, 1, none⟩ = some (.string t) ∧ w'.cell? ⟨B9, 2, none⟩ = some (.iface 107 (.bool true)) ∧ Below w.heap.size w w')
    (refine ⟨?_, ?_, ?_, ?_⟩ <;> with_reducible first | assumption | exact (ba.cell (lt_of_cell j0)).trans j0 | exact (ba.cell (lt_of_cell j1)).trans j1 | exact (ba.cell (lt_of_cell j2)).trans j2 | exact ga)
    (first
      | (go_at_call 110; refine (plain_f1 _).mono ?_; rintro r w4 ⟨rfl, b4⟩; have g4 := b3.trans (b4.mono hz3); have i0 := (b4.cell (lt_of_cell j0)).trans j0; have i1 := (b4.cell (lt_of_cell j1)).trans j1; have i2 := (b4.cell (lt_of_cell j2)).trans j2; have O4 : Hid (OwnA w4 w.heap.size (.slice p' A.length c') A) := owns_below O3.out b4; have cA1 := cA.out w4 _ O4.out; have hz4 := g4.size; clear O3 b3 j0 j1 j2)
      | (go_at_call 36; refine cA1.mono ?_; rintro r w5 ⟨s5, rfl, o5, b5⟩; obtain ⟨p5, c5, rfl⟩ := own_slice o5; have g5 := g4.trans (b5.mono hz4); have j0 := (b5.cell (lt_of_cell i0)).trans i0; have j1 := (b5.cell (lt_of_cell i1)).trans i1; have j2 := (b5.cell (lt_of_cell i2)).trans i2; have O5 : Hid (OwnA w5 w4.heap.size (.slice p5 A.length c5) A) := o5; have hz5 := g5.size; clear cA1 o5 O4 i0 i1 i2; have ba : Below w5.heap.size w5 (w5.alloc (.cells (ceC (-1, t, (1, 1, ⟨#[]⟩), p5, A.length, c5)) 47)) := (Below.refl _ _).alloc (Nat.le_refl _) _; have ga := g5.trans (ba.mono hz5); simp only [ceC] at ba ga))
  have HE : Hid (AreO (w5.alloc (.cells (ceC (-1, t, (1, 1, ⟨#[]⟩), p5, A.length, c5)) 47)) w.heap.size [((-1 : Int), t, (1, 1, ⟨#[]⟩), p5, A.length, c5)] [(-1, t, (1, 1, ⟨#[]⟩), A)]) := .cons ⟨rfl, rfl, rfl, own_weaken (owns_below O5.out ba) hz4⟩ .nil
  go_wp2
  go_ret2
  exact ⟨_, [((-1 : Int), t, (1, 1, ⟨#[]⟩), p5, A.length, c5)], rfl, own_oneC w5 w.heap.size hz5 _, HE.out, ga⟩


set_option maxHeartbeats 2000000 in
set_option maxRecDepth 100000 in
theorem cellsO_num {I : List Nat} {a : Nat → Addr} (o : Op5) (s : Value) (w : World) (hI : ∀ i ∈ IC, i ∈ I) (hS : Std I a w) (hR : RN w s o.A) (hF : Fit o) (hO : Ins o) (hk : o.k = 2) (zz : Int) (hv : o.v = (2, zz, ⟨#[]⟩)) :
    Calls Tryd.prog 13 #[opV o s] w fun r w' => ∃ v' D, r = .returned (.tuple #[v', .nilIface]) ∧ OwnC w' w.heap.size v' D ∧ AreO w' w.heap.size D (cellsOf o) ∧ Below w.heap.size w w' := by
  have hnl : cellsOf o = [(-1, o.t, o.v, o.A)] := by unfold cellsOf; rw [if_neg (by omega)]
  rw [hnl]
  have cA : Hid (∀ W v, OwnA W w.heap.size v o.A → Calls Tryd.prog 36 #[.agg #[v]] W fun r w' => ∃ v', r = .returned v' ∧ OwnA w' W.heap.size v' o.A ∧ Below W.heap.size W w') := fun W v hv => attributes_any v o.A W (own_rowA hv) (own_nil hv) (by have := hF.n; omega)
  have hV : valP o.v = .iface 108 (.int .i64 zz) := by rw [hv]; rfl
  clear hnl
  have b0 := (Below.refl w.heap.size w).alloc (Nat.le_refl _) (.cells (opC o s) 26)
  have c1 := op_ok o s _ hI (hS.below b0) (hR.below b0) hF hO
  unfold pieceV at c1
  rw [hV] at c1
  have hut := hO.utf
  have ht8 := hF.t
  have hn8 := hF.n
  clear hR hS hI hF hO hV
  obtain ⟨k, t, ⟨x, n, u⟩, c, A⟩ := o
  simp only at hk hut ht8 hn8 cA hv
  obtain ⟨rfl, rfl, rfl⟩ : x = 2 ∧ n = zz ∧ u = ⟨#[]⟩ := ⟨congrArg (fun z : P3 => z.1) hv, congrArg (fun z : P3 => z.2.1) hv, congrArg (fun z : P3 => z.2.2) hv⟩
  subst hk
  simp only [opC] at b0
  simp only [show ¬ ((2 : Int) = 1) by omega, if_false] at c1
  go_enter Tryd.func13, Tryd.ntmps13
  go_wp2_with fail
  refine c1.mono ?_; rintro r w2 ⟨v', rfl, own, hb2⟩
  obtain ⟨p', c', rfl⟩ := own_slice own
  have b2 := b0.trans (hb2.mono b0.size)
  have as1 := as_e_i
  have as2 := as_e_e
  have HO : Hid (OwnA w2 w.heap.size (.slice p' A.length c') A) := own_weaken own b0.size
  clear c1 b0 hb2 own hut ht8 hn8 hv
  go_wp2_with fail
  clear as1 as2
  obtain ⟨W3, hW3⟩ : ∃ W3, W3 = w2.alloc (.cells #[.slice p' A.length c', .string t, .iface 108 (.int .i64 n)] 72) := ⟨_, rfl⟩
  have hb3 : Below w2.heap.size w2 W3.drew := by rw [hW3]; exact ((Below.refl _ _).alloc (Nat.le_refl _) _).drew
  have j0 : W3.drew.cell? ⟨w2.heap.size, 0, none⟩ = some (.slice p' A.length c') := by rw [hW3]; show (w2.alloc _).cell? _ = _; simp
  have j1 : W3.drew.cell? ⟨w2.heap.size, 1, none⟩ = some (.string t) := by rw [hW3]; show (w2.alloc _).cell? _ = _; simp
  have j2 : W3.drew.cell? ⟨w2.heap.size, 2, none⟩ = some (.iface 108 (.int .i64 n)) := by rw [hW3]; show (w2.alloc _).cell? _ = _; simp
  have b3 := b2.trans (hb3.mono b2.size)
  have O3 : Hid (OwnA W3.drew w.heap.size (.slice p' A.length c') A) := owns_below HO.out hb3
  have hz3 : w.heap.size ≤ W3.drew.heap.size := b3.size
  rw [← hW3]
  obtain ⟨B9, hB9⟩ : ∃ B, B = w2.heap.size := ⟨_, rfl⟩
  rw [← hB9] at j0 j1 j2 ⊢
  clear HO hW3 hb3 b2 hB9
  go_region_held3 (fun w' => w'.cell? ⟨B9, 0, none⟩ = some (.slice p' A.length c') ∧ w'.cell? ⟨B9, 1, none⟩ = some (.string t) ∧ w'.cell? ⟨B9, 2, none⟩ = some (.iface 108 (.int .i64 n)) ∧ Below w.heap.size w w')
    (refine ⟨?_, ?_, ?_, ?_⟩ <;> with_reducible first | assumption | exact (ba.cell (lt_of_cell j0)).trans j0 | exact (ba.cell (lt_of_cell j1)).trans j1 | exact (ba.cell (lt_of_cell j2)).trans j2 | exact ga)
    (first
      | (go_at_call 112; refine (plain_d n _).mono ?_; rintro r w4 ⟨rfl, b4⟩; have g4 := b3.trans (b4.mono hz3); have i0 := (b4.cell (lt_of_cell j0)).trans j0; have i1 := (b4.cell (lt_of_cell j1)).trans j1; have i2 := (b4.cell (lt_of_cell j2)).trans j2; have O4 : Hid (OwnA w4 w.heap.size (.slice p' A.length c') A) := owns_below O3.out b4; have cA1 := cA.out w4 _ O4.out; have hz4 := g4.size; clear O3 b3 j0 j1 j2)
      | (go_at_call 36; refine cA1.mono ?_; rintro r w5 ⟨s5, rfl, o5, b5⟩; obtain ⟨p5, c5, rfl⟩ := own_slice o5; have g5 := g4.trans (b5.mono hz4); have j0 := (b5.cell (lt_of_cell i0)).trans i0; have j1 := (b5.cell (lt_of_cell i1)).trans i1; have j2 := (b5.cell (lt_of_cell i2)).trans i2; have O5 : Hid (OwnA w5 w4.heap.size (.slice p5 A.length c5) A) := o5; have hz5 := g5.size; clear cA1 o5 O4 i0 i1 i2; have ba : Below w5.heap.size w5 (w5.alloc (.cells (ceC (-1, t, (2, n, ⟨#[]⟩), p5, A.length, c5)) 47)) := (Below.refl _ _).alloc (Nat.le_refl _) _; have ga := g5.trans (ba.mono hz5); simp only [ceC] at ba ga))
  have HE : Hid (AreO (w5.alloc (.cells (ceC (-1, t, (2, n, ⟨#[]⟩), p5, A.length, c5)) 47)) w.heap.size [((-1 : Int), t, (2, n, ⟨#[]⟩), p5, A.length, c5)] [(-1, t, (2, n, ⟨#[]⟩), A)]) := .cons ⟨rfl, rfl, rfl, own_weaken (owns_below O5.out ba) hz4⟩ .nil
  go_wp2
  go_ret2
  exact ⟨_, [((-1 : Int), t, (2, n, ⟨#[]⟩), p5, A.length, c5)], rfl, own_oneC w5 w.heap.size hz5 _, HE.out, ga⟩


set_option maxHeartbeats 2000000 in
set_option maxRecDepth 100000 in
theorem cellsO_text {I : List Nat} {a : Nat → Addr} (o : Op5) (s : Value) (w : World) (hI : ∀ i ∈ IC, i ∈ I) (hS : Std I a w) (hR : RN w s o.A) (hF : Fit o) (hO : Ins o) (hk : o.k = 2) (yy : ByteArray) (hv : o.v = (3, 0, yy)) :
    Calls Tryd.prog 13 #[opV o s] w fun r w' => ∃ v' D, r = .returned (.tuple #[v', .nilIface]) ∧ OwnC w' w.heap.size v' D ∧ AreO w' w.heap.size D (cellsOf o) ∧ Below w.heap.size w w' := by
  have hnl : cellsOf o = [(-1, o.t, o.v, o.A)] := by unfold cellsOf; rw [if_neg (by omega)]
  rw [hnl]
  have cA : Hid (∀ W v, OwnA W w.heap.size v o.A → Calls Tryd.prog 36 #[.agg #[v]] W fun r w' => ∃ v', r = .returned v' ∧ OwnA w' W.heap.size v' o.A ∧ Below W.heap.size W w') := fun W v hv => attributes_any v o.A W (own_rowA hv) (own_nil hv) (by have := hF.n; omega)
  have hV : valP o.v = .iface 109 (.string yy) := by rw [hv]; rfl
  clear hnl
  have b0 := (Below.refl w.heap.size w).alloc (Nat.le_refl _) (.cells (opC o s) 26)
  have c1 := op_ok o s _ hI (hS.below b0) (hR.below b0) hF hO
  unfold pieceV at c1
  rw [hV] at c1
  have hut := hO.utf
  have ht8 := hF.t
  have hn8 := hF.n
  clear hR hS hI hF hO hV
  obtain ⟨k, t, ⟨x, n, u⟩, c, A⟩ := o
  simp only at hk hut ht8 hn8 cA hv
  obtain ⟨rfl, rfl, rfl⟩ : x = 3 ∧ n = 0 ∧ u = yy := ⟨congrArg (fun z : P3 => z.1) hv, congrArg (fun z : P3 => z.2.1) hv, congrArg (fun z : P3 => z.2.2) hv⟩
  subst hk
  simp only [opC] at b0
  simp only [show ¬ ((2 : Int) = 1) by omega, if_false] at c1
  go_enter Tryd.func13, Tryd.ntmps13
  go_wp2_with fail
  refine c1.mono ?_; rintro r w2 ⟨v', rfl, own, hb2⟩
  obtain ⟨p', c', rfl⟩ := own_slice own
  have b2 := b0.trans (hb2.mono b0.size)
  have as1 := as_e_i
  have as2 := as_e_e
  have HO : Hid (OwnA w2 w.heap.size (.slice p' A.length c') A) := own_weaken own b0.size
  clear c1 b0 hb2 own hut ht8 hn8 hv
  go_wp2_with fail
  clear as1 as2
  obtain ⟨W3, hW3⟩ : ∃ W3, W3 = w2.alloc (.cells #[.slice p' A.length c', .string t, .iface 109 (.string u)] 72) := ⟨_, rfl⟩
  have hb3 : Below w2.heap.size w2 W3.drew := by rw [hW3]; exact ((Below.refl _ _).alloc (Nat.le_refl _) _).drew
  have j0 : W3.drew.cell? ⟨w2.heap.size, 0, none⟩ = some (.slice p' A.length c') := by rw [hW3]; show (w2.alloc _).cell? _ = _; simp
  have j1 : W3.drew.cell? ⟨w2.heap.size, 1, none⟩ = some (.string t) := by rw [hW3]; show (w2.alloc _).cell? _ = _; simp
  have j2 : W3.drew.cell? ⟨w2.heap.size, 2, none⟩ = some (.iface 109 (.string u)) := by rw [hW3]; show (w2.alloc _).cell? _ = _; simp
  have b3 := b2.trans (hb3.mono b2.size)
  have O3 : Hid (OwnA W3.drew w.heap.size (.slice p' A.length c') A) := owns_below HO.out hb3
  have hz3 : w.heap.size ≤ W3.drew.heap.size := b3.size
  rw [← hW3]
  obtain ⟨B9, hB9⟩ : ∃ B, B = w2.heap.size := ⟨_, rfl⟩
  rw [← hB9] at j0 j1 j2 ⊢
  clear HO hW3 hb3 b2 hB9
  go_region_held3 (fun w' => w'.cell? ⟨B9, 0, none⟩ = some (.slice p' A.length c') ∧ w'.cell? ⟨B9, 1, none⟩ = some (.string t) ∧ w'.cell? ⟨B9, 2, none⟩ = some (.iface 109 (.string u)) ∧ Below w.heap.size w w')
    (refine ⟨?_, ?_, ?_, ?_⟩ <;> with_reducible first | assumption | exact (ba.cell (lt_of_cell j0)).trans j0 | exact (ba.cell (lt_of_cell j1)).trans j1 | exact (ba.cell (lt_of_cell j2)).trans j2 | exact ga)
    (first
      | (go_at_call 114; refine (plain_t u _).mono ?_; rintro r w4 ⟨rfl, b4⟩; have g4 := b3.trans (b4.mono hz3); have i0 := (b4.cell (lt_of_cell j0)).trans j0; have i1 := (b4.cell (lt_of_cell j1)).trans j1; have i2 := (b4.cell (lt_of_cell j2)).trans j2; have O4 : Hid (OwnA w4 w.heap.size (.slice p' A.length c') A) := owns_below O3.out b4; have cA1 := cA.out w4 _ O4.out; have hz4 := g4.size; clear O3 b3 j0 j1 j2)
      | (go_at_call 36; refine cA1.mono ?_; rintro r w5 ⟨s5, rfl, o5, b5⟩; obtain ⟨p5, c5, rfl⟩ := own_slice o5; have g5 := g4.trans (b5.mono hz4); have j0 := (b5.cell (lt_of_cell i0)).trans i0; have j1 := (b5.cell (lt_of_cell i1)).trans i1; have j2 := (b5.cell (lt_of_cell i2)).trans i2; have O5 : Hid (OwnA w5 w4.heap.size (.slice p5 A.length c5) A) := o5; have hz5 := g5.size; clear cA1 o5 O4 i0 i1 i2; have ba : Below w5.heap.size w5 (w5.alloc (.cells (ceC (-1, t, (3, 0, u), p5, A.length, c5)) 47)) := (Below.refl _ _).alloc (Nat.le_refl _) _; have ga := g5.trans (ba.mono hz5); simp only [ceC] at ba ga))
  have HE : Hid (AreO (w5.alloc (.cells (ceC (-1, t, (3, 0, u), p5, A.length, c5)) 47)) w.heap.size [((-1 : Int), t, (3, 0, u), p5, A.length, c5)] [(-1, t, (3, 0, u), A)]) := .cons ⟨rfl, rfl, rfl, own_weaken (owns_below O5.out ba) hz4⟩ .nil
  go_wp2
  go_ret2
  exact ⟨_, [((-1 : Int), t, (3, 0, u), p5, A.length, c5)], rfl, own_oneC w5 w.heap.size hz5 _, HE.out, ga⟩


theorem cellsO_any {I : List Nat} {a : Nat → Addr} (o : Op5) (s : Value) (w : World) (hI : ∀ i ∈ IC, i ∈ I) (hS : Std I a w) (hR : RN w s o.A) (hF : Fit o) (hO : Ins o) :
    Calls Tryd.prog 13 #[opV o s] w fun r w' => ∃ v' D, r = .returned (.tuple #[v', .nilIface]) ∧ OwnC w' w.heap.size v' D ∧ AreO w' w.heap.size D (cellsOf o) ∧ Below w.heap.size w w' := by
  rcases hO.kind with ⟨h, _⟩ | ⟨h, _⟩
  · exact cellsO_ok o s w hI hS hR hF hO h
  · rcases good_cases hO.val with ⟨h0, h1, h2⟩ | ⟨h0, h1, h2⟩ | ⟨h0, h1, h2⟩ | ⟨h0, h2⟩ | ⟨h0, h1, _⟩
    · exact cellsO_null o s w hI hS hR hF hO h (Prod.ext h0 (Prod.ext h1 h2))
    · exact cellsO_flag0 o s w hI hS hR hF hO h (Prod.ext h0 (Prod.ext h1 h2))
    · exact cellsO_flag1 o s w hI hS hR hF hO h (Prod.ext h0 (Prod.ext h1 h2))
    · exact cellsO_num o s w hI hS hR hF hO h o.v.2.1 (Prod.ext h0 (Prod.ext rfl h2))
    · exact cellsO_text o s w hI hS hR hF hO h o.v.2.2 (Prod.ext h0 (Prod.ext h1 rfl))
theorem newl_any {I : List Nat} {a : Nat → Addr} (o : Op5) (s : Value) (w : World) (hI : ∀ i ∈ IC, i ∈ I) (hS : Std I a w) (hR : RN w s o.A) (hF : Fit o) (hO : Ins o) :
    Calls Tryd.prog 14 #[opV o s] w fun r w' => r = .returned (.tuple #[.int .i64 (newlO o), .nilIface]) ∧ Below w.heap.size w w' := by
  rcases hO.kind with ⟨h, _⟩ | ⟨h, _⟩
  · exact newl_ok o s w hI hS hR hF hO h
  · exact newl_emb o s w hI hS hR hF hO h
end Go.Proofs.YtecmdlecfddeeaaDoor
