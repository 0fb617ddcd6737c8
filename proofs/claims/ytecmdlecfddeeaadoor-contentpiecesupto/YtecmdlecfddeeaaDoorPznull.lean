/- Of an embed (null) vellumlaw04.ContentPieces answers true: the walk. -/
import Derived.Test.YtecmdlecfddeeaaDoorPz
namespace Go.Proofs.YtecmdlecfddeeaaDoor
open Go Go.RowKit Go.Lib
set_option linter.unusedVariables false

set_option maxHeartbeats 2000000 in
set_option maxRecDepth 100000 in
theorem pieces_null {ad : Nat → Addr} (o : Op5) (va : Value) (w : World) (hk : o.k = 2) (hv : o.v = z0)
    (cL : Calls Tryd.prog 9 #[] (bx1 w o va) fun e w' => e = .returned (.bool true) ∧ Below (bx1 w o va).heap.size (bx1 w o va) w')
    (ra : RN (bx1 w o va) va o.A) (cP : PCo [o]) (hA : o.A.length ≤ 1048576)
    (cRf : ∀ W, Below (bx1 w o va).heap.size (bx1 w o va) W → Calls Tryd.prog 10 #[opV o va] W fun r w' => r = .returned (.int .i64 0) ∧ Below W.heap.size W w')
    (cOf : ∀ W s, Below (bx1 w o va).heap.size (bx1 w o va) W → RN W s o.A → Calls Tryd.prog 15 #[opV o s] W fun r w' => ∃ v', r = .returned (.tuple #[.iface 72 (.agg #[v', .string o.t, .iface 111 (.agg #[])]), .nilIface]) ∧ OwnA w' W.heap.size v' o.A ∧ Below W.heap.size W w')
    (cRL : ∀ W, Calls Tryd.prog 19 #[opV o va] W fun r w' => r = .returned (.int .i64 1) ∧ Below W.heap.size W w') (hop : (⟨2, o.t, z0, 0, o.A⟩ : Op5) = o) :
    Calls Tryd.prog 8 #[opV o va] w fun r w' => r = .returned (.bool true) ∧ Below w.heap.size w w' := by
  have b0 := bx1_below w o va
  have X0 := bx1_0 w o va
  obtain ⟨pa, la, ca, rfl⟩ : ∃ p l c, va = .slice p l c := by obtain ⟨p, c, h, _⟩ := ra.row.val; exact ⟨_, _, _, h⟩
  have HR : Hid _ := ra
  have HP : Hid (PCo [o]) := cP
  have HRf : Hid _ := cRf
  have HOf : Hid _ := cOf
  have HSp : Hid (∀ W lo hi v, SpO W lo hi v [o] → Calls Tryd.prog 22 #[v] W fun r w' => r = .returned (.tuple #[]) ∧ Out lo hi W w') := fun W lo hi v h => spoil_any v [o] lo hi W h (by simp) (fun e he => by simp at he; subst he; exact hA)
  have HRL : Hid _ := cRL
  have HSA : Hid (∀ W v v', RN W v o.A → RN W v' o.A → Calls Tryd.prog 30 #[v, v'] W fun r w' => r = .returned (.bool true) ∧ Below W.heap.size W w') := fun W v v' h h' => by
    have := sameAttrs_any v v' o.A o.A W h.row h'.row (by omega) (by omega)
    rwa [decide_eq_true rfl] at this
  have HSR : Hid (∀ W v v', RN W v o.A → RN W v' o.A → Calls Tryd.prog 25 #[opV ⟨2, o.t, z0, 0, []⟩ v, opV o v'] W fun r w' => r = .returned (.bool true) ∧ Below W.heap.size W w') := fun W v v' h h' => by
    have := sameR_any o o v v' W h.row h'.row (by omega) (by omega)
    rw [decide_eq_true rfl] at this
    have e : opV ⟨2, o.t, z0, 0, []⟩ v = opV o v := by conv => rhs; rw [← hop]
    rw [e]
    exact this
  have HIO : Hid (∀ W v, RN W v o.A → Calls Tryd.prog 108 #[.agg #[v, .string o.t, .iface 111 (.agg #[])]] W fun r w' => ∃ v', r = .returned (opV ⟨2, o.t, z0, 0, []⟩ v') ∧ OwnA w' W.heap.size v' o.A ∧ Below W.heap.size W w') := fun W v h => embOp_null v o.A o.t W h (by omega)
  have HAt : Hid (∀ W v, RN W v o.A → Calls Tryd.prog 36 #[.agg #[v]] W fun r w' => ∃ v', r = .returned v' ∧ OwnA w' W.heap.size v' o.A ∧ Below W.heap.size W w') := fun W v h => attributes_any v o.A W h.row h.nz (by omega)
  have hAl : o.A.length ≤ 1048576 := hA
  clear ra cP cRf cOf cRL hop
  obtain ⟨ak, at', ⟨ax, an, au⟩, ac, aA⟩ := o
  simp only at hk hAl hv
  subst hk
  simp only [z0, Prod.mk.injEq] at hv
  obtain ⟨rfl, rfl, rfl⟩ := hv
  obtain ⟨W0, hW0⟩ : ∃ W0, W0 = bx1 w ⟨2, at', (0, 0, ⟨#[]⟩), ac, aA⟩ (.slice pa la ca) := ⟨_, rfl⟩
  go_enter Tryd.func8, Tryd.ntmps8
  go_wp2_with fail
  rw [← hW0] at cL b0 X0 HR HRf HOf
  refine (hW0 ▸ cL : Calls Tryd.prog 9 #[] (bx1 w ⟨2, at', (0, 0, ⟨#[]⟩), ac, aA⟩ (.slice pa la ca)) fun e w' => e = .returned (.bool true) ∧ Below W0.heap.size W0 w').mono ?_; rintro r w2 ⟨rfl, d2⟩
  clear cL hW0
  obtain ⟨p0, p1, p2, p3, p4, p5, p6⟩ := X0.below d2
  simp only at p0 p1 p2 p3 p4 p5 p6
  have re := re_one w2 ⟨2, at', (0, 0, ⟨#[]⟩), ac, aA⟩ (pa, la, ca) (HR.out.below d2)
  have ba : Below w2.heap.size w2 (w2.alloc (.cells #[.int .i64 2, .string at', .int .i64 0, .int .i64 0, .string ⟨#[]⟩, .int .i64 ac, .slice pa la ca] 26)) := (Below.refl _ _).alloc (Nat.le_refl _) _
  have cp := HP.out _ _ re
  simp only [slV] at cp
  have hlo : W0.heap.size ≤ (w2.alloc (.cells #[.int .i64 2, .string at', .int .i64 0, .int .i64 0, .string ⟨#[]⟩, .int .i64 ac, .slice pa la ca] 26)).heap.size := by have := d2.size; simp; omega
  clear re HP
  go_wp2_with fail
  refine cp.mono ?_; rintro r w3 ⟨v4, rfl, sp, h3⟩
  have d3 := d2.trans ((ba.trans (h3.mono ba.size)).mono d2.size)
  obtain ⟨lo, hlo'⟩ : ∃ lo, (w2.alloc (.cells #[.int .i64 2, .string at', .int .i64 0, .int .i64 0, .string ⟨#[]⟩, .int .i64 ac, .slice pa la ca] 26)).heap.size = lo := ⟨_, rfl⟩
  rw [hlo'] at sp hlo
  clear cp h3 ba hlo' d2 p0 p1 p2 p3 p4 p5 p6
  obtain ⟨g, c4, ⟨m0p, m0l, m0c⟩, rfl, hg1, hg2, hc4, om0, rm0⟩ := spO_one sp
  have hz3 : W0.heap.size ≤ w3.heap.size := d3.size
  have K3 : Mine1 W0 lo w3.heap.size g c4 ⟨2, at', (0, 0, ⟨#[]⟩), ac, aA⟩ (m0p, m0l, m0c) w3 := ⟨hz3, d3, Nat.le_refl _, hg2, sp, rm0, om0⟩
  obtain ⟨K, hK⟩ : ∃ K : World → Prop, K = Mine1 W0 lo w3.heap.size g c4 ⟨2, at', (0, 0, ⟨#[]⟩), ac, aA⟩ (m0p, m0l, m0c) := ⟨_, rfl⟩
  rw [← hK] at K3
  have Kb : ∀ W W', Below w3.heap.size W W' → K W → K W' := fun W W' hb h => by rw [hK] at h ⊢; exact h.upto hb
  have Kz : ∀ W, K W → w3.heap.size ≤ W.heap.size := fun W h => by rw [hK] at h; exact h.hz
  have hlog : lo ≤ w3.heap.size := by omega
  have Kc : Hid (∀ W, K W → Below W0.heap.size W0 W ∧ RN W (.slice m0p m0l m0c) aA ∧ SpO W lo w3.heap.size (.slice (some ⟨g, 0, none⟩) 1 c4) [⟨2, at', (0, 0, ⟨#[]⟩), ac, aA⟩] ∧ OpAt W g 0 (2, at', (0, 0, ⟨#[]⟩), ac, m0p, m0l, m0c)) := fun W h => by rw [hK] at h; exact ⟨h.b0, h.sa.RN, h.sp, h.op⟩
  clear hK sp rm0 om0 d3 hg1 hg2
  obtain ⟨p0, p1, p2, p3, p4, p5, p6⟩ := (Kc.out _ K3).2.2.2
  simp only [slV, Nat.zero_add] at p0 p1 p2 p3 p4 p5 p6
  have cc := HOf.out _ (.slice m0p m0l m0c) (Kc.out _ K3).1 (Kc.out _ K3).2.1
  go_wp2_with fail
  refine cc.mono ?_; rintro r w4 ⟨v1, rfl, o1, h4⟩
  have K4 := Kb _ _ (h4.mono (Kz _ K3)) K3
  obtain ⟨pP, cP', hs⟩ := own_slice o1
  obtain rfl : v1 = (.slice pP aA.length cP') := hs
  obtain ⟨L1, hL1⟩ : ∃ L, w3.heap.size = L := ⟨_, rfl⟩
  rw [hL1] at o1
  have HP4 : Hid (OwnA w4 L1 (.slice pP aA.length cP') aA) := o1
  have h34 : L1 ≤ w4.heap.size := by rw [← hL1]; exact h4.size
  have hPl : Hid (∀ k, Value.ownBlock (.slice pP aA.length cP') = some k → k < w4.heap.size) := fun k hk => by
    obtain ⟨_, cur, h2⟩ := owns_block o1 k hk
    exact (Array.getElem?_eq_some_iff.1 h2).1
  clear cc h4 K3 p0 p1 p2 p3 p4 p5 p6 o1
  obtain ⟨p0, p1, p2, p3, p4, p5, p6⟩ := (Kc.out _ K4).2.2.2
  simp only [slV, Nat.zero_add] at p0 p1 p2 p3 p4 p5 p6
  have cc := HOf.out _ (.slice m0p m0l m0c) (Kc.out _ K4).1 (Kc.out _ K4).2.1
  go_wp2_with fail
  refine cc.mono ?_; rintro r w5 ⟨v2, rfl, o2, h5⟩
  have K5 := Kb _ _ (h5.mono (Kz _ K4)) K4
  obtain ⟨pQ, cQ, hs⟩ := own_slice o2
  obtain rfl : v2 = (.slice pQ aA.length cQ) := hs
  obtain ⟨L2, hL2⟩ : ∃ L, w4.heap.size = L := ⟨_, rfl⟩
  rw [hL2] at o2 hPl h34
  have HPQ5 : Hid (OwnA w5 L1 (.slice pP aA.length cP') aA ∧ OwnA w5 L2 (.slice pQ aA.length cQ) aA) := ⟨owns_below HP4.out h5, o2⟩
  have h25 : L2 ≤ w5.heap.size := by rw [← hL2]; exact h5.size
  clear cc h5 K4 p0 p1 p2 p3 p4 p5 p6 o2 HP4 hL2
  obtain ⟨p0, p1, p2, p3, p4, p5, p6⟩ := X0.below (Kc.out _ K5).1
  simp only at p0 p1 p2 p3 p4 p5 p6
  have cr := HRf.out _ (Kc.out _ K5).1
  go_wp2_with fail
  refine cr.mono ?_; rintro r w6 ⟨rfl, h6⟩
  have K6 := Kb _ _ (h6.mono (Kz _ K5)) K5
  have h26 : L2 ≤ w6.heap.size := Nat.le_trans h25 h6.size
  have HPQ6 : Hid (OwnA w6 L1 (.slice pP aA.length cP') aA ∧ OwnA w6 L2 (.slice pQ aA.length cQ) aA) := ⟨owns_below HPQ5.out.1 h6, owns_below HPQ5.out.2 h6⟩
  clear HPQ5
  clear cr h6 h25 K5 p0 p1 p2 p3 p4 p5 p6
  obtain ⟨p0, p1, p2, p3, p4, p5, p6⟩ := X0.below (Kc.out _ K6).1
  simp only at p0 p1 p2 p3 p4 p5 p6
  have cr := HRL.out w6
  go_wp2_with fail
  refine cr.mono ?_; rintro r w7 ⟨rfl, h7⟩
  have K7 := Kb _ _ (h7.mono (Kz _ K6)) K6
  have HPQ7 : Hid (OwnA w7 L1 (.slice pP aA.length cP') aA ∧ OwnA w7 L2 (.slice pQ aA.length cQ) aA) := ⟨owns_below HPQ6.out.1 h7, owns_below HPQ6.out.2 h7⟩
  clear HPQ6
  clear cr K6 p0 p1 p2 p3 p4 p5 p6
  have h27 : L2 ≤ w7.heap.size := Nat.le_trans h26 h7.size
  clear h7 h26
  have as1 := as_e_i
  have as2 := as_b_e
  have as3 := as_e_e
  go_upto_region 25 with fail
  have ba8 : Below w7.heap.size w7 (w7.alloc (.cells #[.slice pP aA.length cP', .string at', .iface 111 (.agg #[])] 72)) := (Below.refl _ _).alloc (Nat.le_refl _) _
  obtain ⟨W8, hW8⟩ : ∃ W, W = w7.alloc (.cells #[.slice pP aA.length cP', .string at', .iface 111 (.agg #[])] 72) := ⟨_, rfl⟩
  obtain ⟨B9, hB9⟩ : ∃ B, B = w7.heap.size := ⟨_, rfl⟩
  have e0 : W8.cell? ⟨B9, 0, none⟩ = some (.slice pP aA.length cP') := by rw [hW8, hB9]; simp
  have e1 : W8.cell? ⟨B9, 1, none⟩ = some (.string at') := by rw [hW8, hB9]; simp
  have e2 : W8.cell? ⟨B9, 2, none⟩ = some (.iface 111 (.agg #[])) := by rw [hW8, hB9]; simp
  have K8 : K W8 := by rw [hW8]; exact Kb _ _ (ba8.mono (Kz _ K7)) K7
  have HPQ8 : Hid (OwnA W8 L1 (.slice pP aA.length cP') aA ∧ OwnA W8 L2 (.slice pQ aA.length cQ) aA) := by rw [hW8]; exact ⟨owns_below HPQ7.out.1 ba8, owns_below HPQ7.out.2 ba8⟩
  have h2B : L2 ≤ B9 := by rw [hB9]; exact h27
  rw [show w7.alloc (.cells #[.slice pP aA.length cP', .string at', .iface 111 (.agg #[])] 72) = W8 from hW8.symm, ← hB9]
  clear hW8 hB9 ba8 K7 HPQ7 h27
  have q1 := beq_key (x := at') (y := at') true (decide_eq_true rfl)
  have hne := neq_pl (0, 0, ⟨#[]⟩) (0, 0, ⟨#[]⟩) false (by rw [samP_self]; rfl)
  have gd := fun op x' y' w => guard_pl op x' y' (0, 0, ⟨#[]⟩) (0, 0, ⟨#[]⟩) w
  obtain ⟨G, hG⟩ : ∃ G : World → Prop, G = fun W => Below W8.heap.size W8 W := ⟨_, rfl⟩
  have HG : G W8 := by rw [hG]; exact Below.refl _ _
  have Gb : ∀ W W', Below W.heap.size W W' → G W → G W' := fun W W' hb h => by rw [hG] at h ⊢; exact h.trans (hb.mono h.size)
  have Gd : ∀ W, G W → G W.drew := fun W h => Gb _ _ (Below.refl _ _).drew h
  have Gl : Hid (∀ W, G W → Below W8.heap.size W8 W) := fun W h => by rw [hG] at h; exact h
  have Ga : ∀ W, G W → RN W (.slice pP aA.length cP') aA ∧ RN W (.slice pa la ca) aA := fun W h => by
    rw [hG] at h
    exact ⟨(own_RN HPQ8.out.1).below h, (HR.out.below (Kc.out _ K8).1).below h⟩
  have Gs : ∀ W, G W → (W.cell? ⟨B9, 0, none⟩ = some (.slice pP aA.length cP') ∧ W.cell? ⟨B9, 1, none⟩ = some (.string at') ∧ W.cell? ⟨B9, 2, none⟩ = some (.iface 111 (.agg #[]))) ∧ (W.cell? ⟨w.heap.size, 0, none⟩ = some (.int .i64 2) ∧ W.cell? ⟨w.heap.size, 1, none⟩ = some (.string at') ∧ W.cell? ⟨w.heap.size, 2, none⟩ = some (.int .i64 0) ∧ W.cell? ⟨w.heap.size, 3, none⟩ = some (.int .i64 0) ∧ W.cell? ⟨w.heap.size, 4, none⟩ = some (.string ⟨#[]⟩) ∧ W.cell? ⟨w.heap.size, 5, none⟩ = some (.int .i64 ac) ∧ W.cell? ⟨w.heap.size, 6, none⟩ = some (.slice pa la ca)) := fun W h => by
    rw [hG] at h
    obtain ⟨a0, a1, a2, a3, a4, a5, a6⟩ := (X0.below (Kc.out _ K8).1).below h
    exact ⟨⟨(h.cell (lt_of_cell e0)).trans e0, (h.cell (lt_of_cell e1)).trans e1, (h.cell (lt_of_cell e2)).trans e2⟩, ⟨a0, a1, a2, a3, a4, a5, a6⟩⟩
  clear hG
  have G1 := Gd _ HG
  have T1 := Gs _ G1
  go_region_held3 (fun w' => ((w'.cell? ⟨B9, 0, none⟩ = some (.slice pP aA.length cP') ∧ w'.cell? ⟨B9, 1, none⟩ = some (.string at') ∧ w'.cell? ⟨B9, 2, none⟩ = some (.iface 111 (.agg #[]))) ∧ (w'.cell? ⟨w.heap.size, 0, none⟩ = some (.int .i64 2) ∧ w'.cell? ⟨w.heap.size, 1, none⟩ = some (.string at') ∧ w'.cell? ⟨w.heap.size, 2, none⟩ = some (.int .i64 0) ∧ w'.cell? ⟨w.heap.size, 3, none⟩ = some (.int .i64 0) ∧ w'.cell? ⟨w.heap.size, 4, none⟩ = some (.string ⟨#[]⟩) ∧ w'.cell? ⟨w.heap.size, 5, none⟩ = some (.int .i64 ac) ∧ w'.cell? ⟨w.heap.size, 6, none⟩ = some (.slice pa la ca))) ∧ G w')
    (first | exact ⟨by with_reducible first | assumption | exact T1, by with_reducible first | assumption | exact G1⟩)
    (first
      | (go_at_call 116; refine (plain_n W8.drew).mono ?_; rintro r wA ⟨rfl, hA'⟩; have GA := Gb _ _ hA' G1; have TA := Gs _ GA)
      | (go_at_call 115; refine (kind_n wA).mono ?_; rintro r wB ⟨rfl, hB'⟩; have GB := Gb _ _ hB' GA; have TB := Gs _ GB)
      | (go_at_call 30; refine (HSA.out wB _ _ (Ga _ GB).1 (Ga _ GB).2).mono ?_; rintro r w9 ⟨rfl, hC'⟩; have GC := Gb _ _ hC' GB; have TC := Gs _ GC))
  have h9 := Gl.out _ GC
  have K9 := Kb _ _ (h9.mono (Kz _ K8)) K8
  have HPQ9 : Hid (OwnA w9 L1 (.slice pP aA.length cP') aA ∧ OwnA w9 L2 (.slice pQ aA.length cQ) aA) := ⟨owns_below HPQ8.out.1 h9, owns_below HPQ8.out.2 h9⟩
  clear TC TB TA T1 G1 GA GB GC hA' hB' hC' HG Gb Gd Gl Ga Gs hne gd q1
  have hc0 := (h9.cell (lt_of_cell e0)).trans e0
  have hB9s : B9 < w9.heap.size := lt_of_cell hc0
  obtain ⟨l, h', hli, hlh, hhB, hown⟩ := own_li HPQ9.out.1 hPl.out
  obtain ⟨na, hna⟩ : ∃ n, aA.length = n := ⟨_, rfl⟩
  have HLi : Hid (LiA w9 l h' (.slice pP na cP') na) := by rw [hna] at hli; exact hli
  have hnl : na ≤ 1048576 := by omega
  have HWl : Hid (∀ k, l ≤ k → k < h' → L1 ≤ k) := fun k h1 h2 => (owns_block HPQ9.out.1 k (hown k h1 h2)).1
  have HCe : Hid (∀ wr, Out l h' w9 wr → wr.cell? ⟨B9, 0, none⟩ = some (.slice pP na cP')) := fun wr u => by
    rw [World.cell?_of_block (a := ⟨B9, 0, none⟩) (u.block B9 hB9s (Or.inr (by omega))), hc0, hna]
  rw [hna] at hc0
  clear h9 K8 HPQ8 e0 e1 e2 hli hown
  go_wp2_with fail
  go_loopw [12, 147] (fun _ i wr => ∃ (k : Nat), k ≤ na ∧ i = .int .i64 k ∧ Out l h' w9 wr) (fun _ i _ => na - (RowKit.intOf i).toNat)
  case atStart => exact ⟨0, Nat.zero_le _, rfl, Out.refl _ _ _⟩
  case round =>
    clear hc0
    obtain ⟨k, hk, rfl, ho⟩ := hrel
    have hc0 := HCe.out _ ho
    by_cases hlt : k < na
    · have hltI : (k : Int) < na := by omega
      obtain ⟨ga, rfl, hg1, hg2, hgc⟩ := (HLi.out.out ho (Or.inl (Nat.le_refl _))).place (by omega)
      obtain ⟨⟨u0, e0⟩, f0⟩ := hgc (k * 4) (by omega)
      obtain ⟨⟨u1, e1⟩, f1⟩ := hgc (k * 4 + 1) (by omega)
      obtain ⟨⟨u2, e2⟩, f2⟩ := hgc (k * 4 + 2) (by omega)
      obtain ⟨⟨u3', e3⟩, f3⟩ := hgc (k * 4 + 3) (by omega)
      have HGa : Hid (l ≤ ga ∧ ga < h') := ⟨hg1, hg2⟩
      have HOO : Hid (Out l h' w9 wr) := ho
      clear hgc hg1 hg2 ho
      go_wp2_with fail
      go_roundw
      case rel => exact ⟨k + 1, by omega, by go_num, out_set4 HOO.out HGa.out.1 HGa.out.2 _ _ _ _ _ _ _ _⟩
      case measure => simp [RowKit.intOf]; omega
    · have hltI : ¬ (k : Int) < na := by omega
      have Kr := Kb _ _ (ho.below' (Kz _ K9) (fun k h1 h2 => by have := HWl.out k h1 h2; omega)) K9
      have cs := HSp.out wr lo w3.heap.size _ (Kc.out _ Kr).2.2.1
      have HQr : Hid (OwnA wr L2 (.slice pQ aA.length cQ) aA) := ho.own hhB HPQ9.out.2
      clear ho
      go_wp2_with fail
      refine cs.mono ?_; rintro r w10 ⟨rfl, u10⟩
      have bW : Below W0.heap.size W0 w10 := (Kc.out _ Kr).1.trans ((u10.below (by have := Kz _ Kr; omega)).mono hlo)
      have bF := b0.trans (bW.mono b0.size)
      have HQ10 : Hid (OwnA w10 L2 (.slice pQ aA.length cQ) aA) := u10.own (by omega) HQr.out
      obtain ⟨J, hJ⟩ : ∃ J : World → Prop, J = fun W => Below w10.heap.size w10 W := ⟨_, rfl⟩
      have HJ : J w10 := by rw [hJ]; exact Below.refl _ _
      have Jb : ∀ W W', Below W.heap.size W W' → J W → J W' := fun W W' hb h => by rw [hJ] at h ⊢; exact h.trans (hb.mono h.size)
      have Jd : ∀ W, J W → J W.drew := fun W h => Jb _ _ (Below.refl _ _).drew h
      have Jq : ∀ W, J W → RN W (.slice pQ na cQ) aA := fun W h => by rw [hJ] at h; rw [← hna]; exact (own_RN HQ10.out).below h
      have Jv : ∀ W, J W → RN W (.slice pa la ca) aA := fun W h => by rw [hJ] at h; exact (HR.out.below bW).below h
      have Jl : Hid (∀ W, J W → Below w.heap.size w W) := fun W h => by rw [hJ] at h; exact bF.trans (h.mono bF.size)
      have Js : ∀ W, J W → (W.cell? ⟨w.heap.size, 0, none⟩ = some (.int .i64 2) ∧ W.cell? ⟨w.heap.size, 1, none⟩ = some (.string at') ∧ W.cell? ⟨w.heap.size, 2, none⟩ = some (.int .i64 0) ∧ W.cell? ⟨w.heap.size, 3, none⟩ = some (.int .i64 0) ∧ W.cell? ⟨w.heap.size, 4, none⟩ = some (.string ⟨#[]⟩) ∧ W.cell? ⟨w.heap.size, 5, none⟩ = some (.int .i64 ac) ∧ W.cell? ⟨w.heap.size, 6, none⟩ = some (.slice pa la ca)) := fun W h => by
        rw [hJ] at h
        obtain ⟨a0, a1, a2, a3, a4, a5, a6⟩ := (X0.below bW).below h
        exact ⟨a0, a1, a2, a3, a4, a5, a6⟩
      clear hJ cs u10 Kr HQr HQ10 bW bF hna
      go_upto_region 34 with fail
      have S1 := Js _ (Jd _ HJ)
      have J1 := Jd _ HJ
      go_region_held3 (fun w' => (w'.cell? ⟨w.heap.size, 0, none⟩ = some (.int .i64 2) ∧ w'.cell? ⟨w.heap.size, 1, none⟩ = some (.string at') ∧ w'.cell? ⟨w.heap.size, 2, none⟩ = some (.int .i64 0) ∧ w'.cell? ⟨w.heap.size, 3, none⟩ = some (.int .i64 0) ∧ w'.cell? ⟨w.heap.size, 4, none⟩ = some (.string ⟨#[]⟩) ∧ w'.cell? ⟨w.heap.size, 5, none⟩ = some (.int .i64 ac) ∧ w'.cell? ⟨w.heap.size, 6, none⟩ = some (.slice pa la ca)) ∧ J w')
        (first | exact ⟨by with_reducible first | assumption | exact S1, by with_reducible first | assumption | exact J1⟩)
        (first
          | (go_at_call 107; refine (elen_any _ _ _ w10.drew).mono ?_; rintro r wL ⟨rfl, hL⟩; have JL := Jb _ _ hL J1; have SL := Js _ JL)
          | (go_at_call 108; refine (HIO.out wL _ (Jq _ JL)).mono ?_; rintro r wO ⟨vO, rfl, oO, hO⟩; obtain ⟨pO, cO, rfl⟩ := own_slice oO; have JO := Jb _ _ hO JL; have SO := Js _ JO; have RO : Hid (RN wO (.slice pO aA.length cO) aA) := own_RN oO; clear oO)
          | (go_at_call 25; refine (HSR.out wO _ _ RO.out (Jv _ JO)).mono ?_; rintro r wS ⟨rfl, hS⟩; have JS := Jb _ _ hS JO; have SS := Js _ JS)
          | (go_at_call 36; refine (HAt.out wS _ (Jq _ JS)).mono ?_; rintro r wT ⟨vT, rfl, oT, hT⟩; obtain ⟨pT, cT, rfl⟩ := own_slice oT; have JT := Jb _ _ hT JS; have ST := Js _ JT; have RT : Hid (RN wT (.slice pT aA.length cT) aA) := own_RN oT; clear oT)
          | (go_at_call 30; refine (HSA.out wT _ _ RT.out (Jv _ JT)).mono ?_; rintro r wU ⟨rfl, hU⟩; have JU := Jb _ _ hU JT; have SU := Js _ JU))
      go_wp2
      go_ret
      exact ⟨rfl, Jl.out _ JU⟩
end Go.Proofs.YtecmdlecfddeeaaDoor
