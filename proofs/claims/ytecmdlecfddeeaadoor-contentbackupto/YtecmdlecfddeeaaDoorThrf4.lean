/- Of three operations, the first two of which are joined, vellumlaw04.ContentThree answers true. -/
import Derived.Test.YtecmdlecfddeeaaDoorThre
import Derived.Deep.DeepCutAuto
namespace Go.Proofs.YtecmdlecfddeeaaDoor
open Go Go.RowKit Go.Lib
set_option linter.unusedVariables false

set_option maxHeartbeats 1000000 in
set_option maxRecDepth 100000 in
theorem three_7 {ad : Nat → Addr} (a b c : Op5) (va vb vc : Value) (w : World) (X Y : Op5) (e1 e2 : Nat)
    (cL : Calls Tryd.prog 9 #[] (bxT w a b c va vb vc) fun e w' => e = .returned (.bool true) ∧ Below (bxT w a b c va vb vc).heap.size (bxT w a b c va vb vc) w')
    (ra : RN (bxT w a b c va vb vc) va a.A) (rb : RN (bxT w a b c va vb vc) vb b.A) (rc : RN (bxT w a b c va vb vc) vc c.A)
    (cJ : JC a va b vb (bxT w a b c va vb vc) X true .nilIface) (cK : JC b vb c vc (bxT w a b c va vb vc) Y false .nilIface)
    (CA CB CX : List C5) (hak : a.k = 1) (hbk : b.k = 1) (hCX : CX = CA ++ CB) (hl : ∀ e ∈ CX, e.2.2.2.length ≤ 4194304) (hn : CX.length ≤ 33554432)
    (kca : CCt a va (bxT w a b c va vb vc) CA) (kcb : CCt b vb (bxT w a b c va vb vc) CB) (kcx : ∀ s, CCt X s (bxT w a b c va vb vc) CX) :
    Calls Tryd.prog 7 #[opV a va, opV b vb, opV c vc] w fun r w' => r = .returned (.bool true) ∧ Below w.heap.size w w' := by
  have b0 := bxT_below w a b c va vb vc
  have X0 := bxT_0 w a b c va vb vc
  have X1 := bxT_1 w a b c va vb vc
  have X2 := bxT_2 w a b c va vb vc
  have HR : Hid (RN (bxT w a b c va vb vc) va a.A ∧ RN (bxT w a b c va vb vc) vb b.A ∧ RN (bxT w a b c va vb vc) vc c.A) := ⟨ra, rb, rc⟩
  have HJ : Hid (JC a va b vb (bxT w a b c va vb vc) X true .nilIface ∧ JC b vb c vc (bxT w a b c va vb vc) Y false .nilIface) := ⟨cJ, cK⟩
  have HC : Hid (CCt a va (bxT w a b c va vb vc) CA ∧ CCt b vb (bxT w a b c va vb vc) CB ∧ ∀ s, CCt X s (bxT w a b c va vb vc) CX) := ⟨kca, kcb, kcx⟩
  have HS : Hid (∀ W v v' D D', RowC W v D → RowC W v' D' → Are W D CX → Are W D' CX → Calls Tryd.prog 20 #[v, v'] W fun r w' => r = .returned (.bool true) ∧ Below W.heap.size W w') := fun W v v' D D' h1 h2 h3 h4 => sameCells_any v v' D D' CX W h1 h2 h3 h4 hl (by rw [forall2_len h3]; exact hn)
  have HE : Hid (CX = CA ++ CB ∧ CX.length ≤ 33554432) := ⟨hCX, hn⟩
  clear ra rb rc cJ cK hCX hl hn kca kcb kcx
  obtain ⟨ak, at', ⟨ax, an, au⟩, ac, aA⟩ := a
  obtain ⟨bk, bt, ⟨bx, bn, bu⟩, bc, bA⟩ := b
  obtain ⟨ck, ct, ⟨cx, cn, cu⟩, cc, cA⟩ := c
  obtain ⟨xk, xt, ⟨xx, xn, xu⟩, xc, xA⟩ := X
  obtain ⟨yk, yt, ⟨yx, yn, yu⟩, yc, yA⟩ := Y
  simp only at hak hbk
  subst hak
  subst hbk
  obtain ⟨W0, hW0⟩ : ∃ W0, W0 = bxT w ⟨1, at', (ax, an, au), ac, aA⟩ ⟨1, bt, (bx, bn, bu), bc, bA⟩ ⟨ck, ct, (cx, cn, cu), cc, cA⟩ va vb vc := ⟨_, rfl⟩
  go_enter Tryd.func7, Tryd.ntmps7
  go_wp2_with fail
  rw [← hW0] at cL b0 X0 X1 X2 HR HJ HC
  refine (hW0 ▸ cL : Calls Tryd.prog 9 #[] (bxT w ⟨1, at', (ax, an, au), ac, aA⟩ ⟨1, bt, (bx, bn, bu), bc, bA⟩ ⟨ck, ct, (cx, cn, cu), cc, cA⟩ va vb vc) fun e w' => e = .returned (.bool true) ∧ Below W0.heap.size W0 w').mono ?_; rintro r w1 ⟨rfl, d1⟩
  have b1 := b0.trans (d1.mono b0.size)
  obtain ⟨p0, p1, p2, p3, p4, p5, p6⟩ := X0.below d1
  obtain ⟨q0, q1, q2, q3, q4, q5, q6⟩ := X1.below d1
  simp only at p0 p1 p2 p3 p4 p5 p6 q0 q1 q2 q3 q4 q5 q6
  clear cL hW0
  go_wp2_with fail
  refine (HJ.out.1 _ d1 (HR.out.1.below d1) (HR.out.2.1.below d1)).mono ?_; rintro r w2 ⟨s1, rfl, o1, h2⟩
  obtain ⟨pX, cX, hs⟩ := own_slice o1
  obtain rfl : s1 = .slice pX xA.length cX := hs
  have o1 : OwnA w2 w1.heap.size (.slice pX xA.length cX) xA := o1
  clear p0 p1 p2 p3 p4 p5 p6 q0 q1 q2 q3 q4 q5 q6
  have ba : Below w2.heap.size w2 (w2.alloc (.cells (opC ⟨xk, xt, (xx, xn, xu), xc, xA⟩ (.slice pX xA.length cX)) 26)) := (Below.refl _ _).alloc (Nat.le_refl _) _
  have d2 := d1.trans (h2.mono d1.size)
  have d3 := d2.trans (ba.mono d2.size)
  have Z3 : BoxO (w2.alloc (.cells (opC ⟨xk, xt, (xx, xn, xu), xc, xA⟩ (.slice pX xA.length cX)) 26)) w2.heap.size ⟨xk, xt, (xx, xn, xu), xc, xA⟩ (.slice pX xA.length cX) := BoxO.new w2 _ _
  have HX : Hid (RN (w2.alloc (.cells (opC ⟨xk, xt, (xx, xn, xu), xc, xA⟩ (.slice pX xA.length cX)) 26)) (.slice pX xA.length cX) xA) := (own_RN o1).below ba
  obtain ⟨q0, q1, q2, q3, q4, q5, q6⟩ := X1.below d3
  obtain ⟨r0, r1, r2, r3, r4, r5, r6⟩ := X2.below d3
  simp only [opC] at q0 q1 q2 q3 q4 q5 q6 r0 r1 r2 r3 r4 r5 r6 d3 ba
  have cK := HJ.out.2 _ d3 (HR.out.2.1.below d3) (HR.out.2.2.below d3)
  clear o1 h2 d1 b1 d2
  go_wp2_with fail
  refine cK.mono ?_; rintro r w4 ⟨s2, rfl, o2, h4⟩
  obtain ⟨pY, cY, hs⟩ := own_slice o2
  obtain rfl : s2 = .slice pY yA.length cY := hs
  have o2 : OwnA w4 _ (.slice pY yA.length cY) yA := o2
  clear cK q0 q1 q2 q3 q4 q5 q6 r0 r1 r2 r3 r4 r5 r6 ba
  have bb : Below w4.heap.size w4 (w4.alloc (.cells (opC ⟨yk, yt, (yx, yn, yu), yc, yA⟩ (.slice pY yA.length cY)) 26)) := (Below.refl _ _).alloc (Nat.le_refl _) _
  have d4 := d3.trans (h4.mono d3.size)
  have d5 := d4.trans (bb.mono d4.size)
  have b5 := b0.trans (d5.mono b0.size)
  have b35 : Below (w2.alloc (.cells (opC ⟨xk, xt, (xx, xn, xu), xc, xA⟩ (.slice pX xA.length cX)) 26)).heap.size (w2.alloc (.cells (opC ⟨xk, xt, (xx, xn, xu), xc, xA⟩ (.slice pX xA.length cX)) 26)) (w4.alloc (.cells (opC ⟨yk, yt, (yx, yn, yu), yc, yA⟩ (.slice pY yA.length cY)) 26)) := h4.trans (bb.mono h4.size)
  have V3 := Z3.below b35
  have HX5 : Hid (RN (w4.alloc (.cells (opC ⟨yk, yt, (yx, yn, yu), yc, yA⟩ (.slice pY yA.length cY)) 26)) (.slice pX xA.length cX) xA) := HX.out.below b35
  have V4 : BoxO (w4.alloc (.cells (opC ⟨yk, yt, (yx, yn, yu), yc, yA⟩ (.slice pY yA.length cY)) 26)) w4.heap.size ⟨yk, yt, (yx, yn, yu), yc, yA⟩ (.slice pY yA.length cY) := BoxO.new w4 _ _
  have HY5 : Hid (RN (w4.alloc (.cells (opC ⟨yk, yt, (yx, yn, yu), yc, yA⟩ (.slice pY yA.length cY)) 26)) (.slice pY yA.length cY) yA) := (own_RN o2).below bb
  obtain ⟨W5, hW5⟩ : ∃ W, W = w4.alloc (.cells (opC ⟨yk, yt, (yx, yn, yu), yc, yA⟩ (.slice pY yA.length cY)) 26) := ⟨_, rfl⟩
  rw [← hW5] at V3 V4 HX5 HY5 d5 b5
  obtain ⟨p0, p1, p2, p3, p4, p5, p6⟩ := X0.below d5
  simp only at p0 p1 p2 p3 p4 p5 p6
  have ca := HC.out.1 _ d5 (HR.out.1.below d5)
  obtain ⟨B2, hB2⟩ : ∃ B, B = w2.heap.size := ⟨_, rfl⟩
  obtain ⟨B4, hB4⟩ : ∃ B, B = w4.heap.size := ⟨_, rfl⟩
  rw [← hB2] at V3
  rw [← hB4] at V4
  clear Z3 HX bb d4 d3 h4 o2 b35 HJ
  go_upto_region 8 with fail
  rw [show w4.alloc (.cells #[.int .i64 yk, .string yt, .int .i64 yx, .int .i64 yn, .string yu, .int .i64 yc, .slice pY yA.length cY] 26) = W5 from hW5.symm, ← hB2, ← hB4]
  clear hW5 hB2 hB4
  go_wp2_with fail
  refine ca.mono ?_; rintro r w6 ⟨vp, Dp, rfl, op, ap, h6⟩
  obtain ⟨pp, cp, rfl⟩ := own_slice op
  have d6 := d5.trans (h6.mono d5.size)
  have HP6 : Hid (RowC w6 (.slice pp Dp.length cp) Dp ∧ Are w6 Dp CA) := ⟨own_rowC op, ap.are⟩
  have HX6 : Hid (RN w6 (.slice pX xA.length cX) xA ∧ RN w6 (.slice pY yA.length cY) yA) := ⟨HX5.out.below h6, HY5.out.below h6⟩
  have U3 := V3.below h6
  have U4 := V4.below h6
  obtain ⟨q0, q1, q2, q3, q4, q5, q6⟩ := X1.below d6
  simp only at q0 q1 q2 q3 q4 q5 q6
  have cb := HC.out.2.1 _ d6 (HR.out.2.1.below d6)
  clear p0 p1 p2 p3 p4 p5 p6 ca h6 op ap V3 V4 HX5 HY5 d5 b5
  go_wp2_with fail
  refine cb.mono ?_; rintro r w7 ⟨vq, Dq, rfl, oq, aq, h7⟩
  obtain ⟨pq, cq, rfl⟩ := own_slice oq
  have d7 := d6.trans (h7.mono d6.size)
  have HP7 : Hid ((RowC w7 (.slice pp Dp.length cp) Dp ∧ Are w7 Dp CA) ∧ RowC w7 (.slice pq Dq.length cq) Dq ∧ Are w7 Dq CB) := ⟨⟨HP6.out.1.below h7, HP6.out.2.below h7⟩, own_rowC oq, aq.are⟩
  have HX7 : Hid (RN w7 (.slice pX xA.length cX) xA ∧ RN w7 (.slice pY yA.length cY) yA) := ⟨HX6.out.1.below h7, HX6.out.2.below h7⟩
  have V4 := U4.below h7
  have HV3 : Hid (BoxO w7 B2 ⟨xk, xt, (xx, xn, xu), xc, xA⟩ (.slice pX xA.length cX)) := U3.below h7
  obtain ⟨r0, r1, r2, r3, r4, r5, r6⟩ := HV3.out
  simp only at r0 r1 r2 r3 r4 r5 r6
  have cx := HC.out.2.2 _ _ d7 HX7.out.1
  clear q0 q1 q2 q3 q4 q5 q6 cb h7 oq aq U3 U4 HP6 HX6 d6
  go_wp2_with fail
  refine cx.mono ?_; rintro r w8 ⟨vz, Dz, rfl, oz, az, h8⟩
  obtain ⟨pz, cz, rfl⟩ := own_slice oz
  have d8 := d7.trans (h8.mono d7.size)
  have HP8 : Hid ((RowC w8 (.slice pp Dp.length cp) Dp ∧ Are w8 Dp CA) ∧ (RowC w8 (.slice pq Dq.length cq) Dq ∧ Are w8 Dq CB) ∧ RowC w8 (.slice pz Dz.length cz) Dz ∧ Are w8 Dz CX) := ⟨⟨HP7.out.1.1.below h8, HP7.out.1.2.below h8⟩, ⟨HP7.out.2.1.below h8, HP7.out.2.2.below h8⟩, own_rowC oz, az.are⟩
  have HX8 : Hid (RN w8 (.slice pX xA.length cX) xA ∧ RN w8 (.slice pY yA.length cY) yA) := ⟨HX7.out.1.below h8, HX7.out.2.below h8⟩
  have U3 := HV3.out.below h8
  have U4 := V4.below h8
  have p0 := (X0.below d8).d0
  have q0 := (X1.below d8).d0
  simp only at p0 q0
  clear r0 r1 r2 r3 r4 r5 r6 cx h8 oz az V4 HV3 HP7 HX7 d7
  have bE : Below w8.heap.size w8 (w8.alloc (.cells #[] 47)) := (Below.refl _ _).alloc (Nat.le_refl _) _
  have oE : Hid (OwnC (w8.alloc (.cells #[] 47)) w8.heap.size (.slice (some ⟨w8.heap.size, 0, none⟩) 0 0) []) := own_emptyC w8 _ (Nat.le_refl _)
  have HPe : Hid (RowC (w8.alloc (.cells #[] 47)) (.slice pp Dp.length cp) Dp) := HP8.out.1.1.below bE
  have lP : Hid (Dp.length + Dq.length ≤ 33554432) := by
    have h1 := forall2_len HP8.out.1.2
    have h2 := forall2_len HP8.out.2.1.2
    have h3 := HE.out.2
    rw [HE.out.1, List.length_append] at h3
    show _ ≤ _
    omega
  have l1 : Hid (([] : List CV).length + Dp.length ≤ 33554432) := by have := lP.out; show _ ≤ _; simp only [List.length_nil]; omega
  have l2 : Hid (([] ++ Dp : List CV).length + Dq.length ≤ 33554432) := by have := lP.out; show _ ≤ _; simpa using this
  go_wp2_with (first
    | (at_builtin; have h5 := HPe.out; clear h5; refine wpList_strike (by simp [Region.wanted, yielded]) ?_; refine wpList_append_cells rfl (.tmp 98) (.tmp 99) rfl w8.heap.size (.slice (some ⟨w8.heap.size, 0, none⟩) 0 0) [] rfl oE.out _ Dp rfl HPe.out l1.out bE.size ?_; intro v9 w9 own9 gr9; have b9 := bE.grown gr9 bE.size (fun k hk => by simp only [Value.ownBlock, Option.some.injEq] at hk; omega); have O9 : Hid (OwnC w9 w8.heap.size v9 ([] ++ Dp) ∧ RowC w9 (.slice pq Dq.length cq) Dq) := ⟨own9, HP8.out.2.1.1.below b9⟩; clear own9 gr9 bE oE HPe)
    | (at_builtin; refine wpList_strike (by simp [Region.wanted, yielded]) ?_; refine wpList_append_cells rfl (.tmp 100) (.tmp 101) rfl w8.heap.size v9 ([] ++ Dp) rfl O9.out.1 _ Dq rfl O9.out.2 l2.out b9.size ?_; intro v10 w10 own10 gr10; have b10 := b9.grown gr10 b9.size (fun k hk => (owns_block O9.out.1 k hk).1); obtain ⟨p10, c10, e10⟩ := own_slice own10; obtain ⟨n10, hn10⟩ : ∃ n, ([] ++ Dp ++ Dq : List CV).length = n := ⟨_, rfl⟩; rw [hn10] at e10; subst e10; have O10 : Hid (RowC w10 (.slice p10 n10 c10) (Dp ++ Dq) ∧ RowC w10 (.slice pz Dz.length cz) Dz ∧ Are w10 (Dp ++ Dq) CX ∧ Are w10 Dz CX) := ⟨(by have := own_rowC own10; rwa [List.nil_append] at this), HP8.out.2.2.1.below b10, (by rw [HE.out.1]; exact forall2_append (HP8.out.1.2.below b10) (HP8.out.2.1.2.below b10)), HP8.out.2.2.2.below b10⟩; clear own10 gr10 O9 b9 hn10))
  refine (HS.out _ _ _ _ _ O10.out.2.1 O10.out.1 O10.out.2.2.2 O10.out.2.2.1).mono ?_; rintro r w11 ⟨rfl, h11⟩
  have h12 := b10.trans (h11.mono b10.size)
  have d12 := d8.trans (h12.mono d8.size)
  clear b10 h11 O10 HS HP8 U3 U4 HX8 lP l1 l2 p0 q0
  go_wp2
  go_ret
  exact ⟨rfl, b0.trans (d12.mono b0.size)⟩

set_option maxHeartbeats 1000000 in
set_option maxRecDepth 100000 in
theorem three_8 {ad : Nat → Addr} (a b c : Op5) (va vb vc : Value) (w : World) (X Y : Op5) (e1 e2 : Nat)
    (cL : Calls Tryd.prog 9 #[] (bxT w a b c va vb vc) fun e w' => e = .returned (.bool true) ∧ Below (bxT w a b c va vb vc).heap.size (bxT w a b c va vb vc) w')
    (ra : RN (bxT w a b c va vb vc) va a.A) (rb : RN (bxT w a b c va vb vc) vb b.A) (rc : RN (bxT w a b c va vb vc) vc c.A)
    (cJ : JC a va b vb (bxT w a b c va vb vc) X true .nilIface) (cK : JC b vb c vc (bxT w a b c va vb vc) Y true .nilIface)
    (CA CB CX : List C5) (hak : a.k = 1) (hbk : b.k = 1) (hCX : CX = CA ++ CB) (hl : ∀ e ∈ CX, e.2.2.2.length ≤ 4194304) (hn : CX.length ≤ 33554432)
    (kca : CCt a va (bxT w a b c va vb vc) CA) (kcb : CCt b vb (bxT w a b c va vb vc) CB) (kcx : ∀ s, CCt X s (bxT w a b c va vb vc) CX)
    (Z : Op5) (hZ : Z.A.length ≤ 4194304) (cXC : ∀ s, JC X s c vc (bxT w a b c va vb vc) Z true .nilIface) (cAY : ∀ s, JC a va Y s (bxT w a b c va vb vc) Z true .nilIface) :
    Calls Tryd.prog 7 #[opV a va, opV b vb, opV c vc] w fun r w' => r = .returned (.bool true) ∧ Below w.heap.size w w' := by
  have b0 := bxT_below w a b c va vb vc
  have X0 := bxT_0 w a b c va vb vc
  have X1 := bxT_1 w a b c va vb vc
  have X2 := bxT_2 w a b c va vb vc
  have HR : Hid (RN (bxT w a b c va vb vc) va a.A ∧ RN (bxT w a b c va vb vc) vb b.A ∧ RN (bxT w a b c va vb vc) vc c.A) := ⟨ra, rb, rc⟩
  have HJ : Hid (JC a va b vb (bxT w a b c va vb vc) X true .nilIface ∧ JC b vb c vc (bxT w a b c va vb vc) Y true .nilIface) := ⟨cJ, cK⟩
  have HC : Hid (CCt a va (bxT w a b c va vb vc) CA ∧ CCt b vb (bxT w a b c va vb vc) CB ∧ ∀ s, CCt X s (bxT w a b c va vb vc) CX) := ⟨kca, kcb, kcx⟩
  have HS : Hid (∀ W v v' D D', RowC W v D → RowC W v' D' → Are W D CX → Are W D' CX → Calls Tryd.prog 20 #[v, v'] W fun r w' => r = .returned (.bool true) ∧ Below W.heap.size W w') := fun W v v' D D' h1 h2 h3 h4 => sameCells_any v v' D D' CX W h1 h2 h3 h4 hl (by rw [forall2_len h3]; exact hn)
  have HE : Hid (CX = CA ++ CB ∧ CX.length ≤ 33554432) := ⟨hCX, hn⟩
  have HQ : Hid ((∀ s, JC X s c vc (bxT w a b c va vb vc) Z true .nilIface) ∧ ∀ s, JC a va Y s (bxT w a b c va vb vc) Z true .nilIface) := ⟨cXC, cAY⟩
  have HZ : Hid (∀ W s s', RN W s Z.A → RN W s' Z.A → Calls Tryd.prog 28 #[opV Z s, opV Z s'] W fun r w' => r = .returned (.bool true) ∧ Below W.heap.size W w') := fun W s s' h h' => by
    have := sameC_any Z Z s s' W h.row h'.row hZ hZ
    rwa [decide_eq_true rfl] at this
  clear ra rb rc cJ cK hCX hl hn kca kcb kcx cXC cAY hZ
  obtain ⟨ak, at', ⟨ax, an, au⟩, ac, aA⟩ := a
  obtain ⟨bk, bt, ⟨bx, bn, bu⟩, bc, bA⟩ := b
  obtain ⟨ck, ct, ⟨cx, cn, cu⟩, cc, cA⟩ := c
  obtain ⟨xk, xt, ⟨xx, xn, xu⟩, xc, xA⟩ := X
  obtain ⟨yk, yt, ⟨yx, yn, yu⟩, yc, yA⟩ := Y
  simp only at hak hbk
  subst hak
  subst hbk
  obtain ⟨zk, zt, ⟨zx, zn, zu⟩, zc, zA⟩ := Z
  obtain ⟨W0, hW0⟩ : ∃ W0, W0 = bxT w ⟨1, at', (ax, an, au), ac, aA⟩ ⟨1, bt, (bx, bn, bu), bc, bA⟩ ⟨ck, ct, (cx, cn, cu), cc, cA⟩ va vb vc := ⟨_, rfl⟩
  go_enter Tryd.func7, Tryd.ntmps7
  go_wp2_with fail
  rw [← hW0] at cL b0 X0 X1 X2 HR HJ HC HQ
  refine (hW0 ▸ cL : Calls Tryd.prog 9 #[] (bxT w ⟨1, at', (ax, an, au), ac, aA⟩ ⟨1, bt, (bx, bn, bu), bc, bA⟩ ⟨ck, ct, (cx, cn, cu), cc, cA⟩ va vb vc) fun e w' => e = .returned (.bool true) ∧ Below W0.heap.size W0 w').mono ?_; rintro r w1 ⟨rfl, d1⟩
  have b1 := b0.trans (d1.mono b0.size)
  obtain ⟨p0, p1, p2, p3, p4, p5, p6⟩ := X0.below d1
  obtain ⟨q0, q1, q2, q3, q4, q5, q6⟩ := X1.below d1
  simp only at p0 p1 p2 p3 p4 p5 p6 q0 q1 q2 q3 q4 q5 q6
  clear cL hW0
  go_wp2_with fail
  refine (HJ.out.1 _ d1 (HR.out.1.below d1) (HR.out.2.1.below d1)).mono ?_; rintro r w2 ⟨s1, rfl, o1, h2⟩
  obtain ⟨pX, cX, hs⟩ := own_slice o1
  obtain rfl : s1 = .slice pX xA.length cX := hs
  have o1 : OwnA w2 w1.heap.size (.slice pX xA.length cX) xA := o1
  clear p0 p1 p2 p3 p4 p5 p6 q0 q1 q2 q3 q4 q5 q6
  have ba : Below w2.heap.size w2 (w2.alloc (.cells (opC ⟨xk, xt, (xx, xn, xu), xc, xA⟩ (.slice pX xA.length cX)) 26)) := (Below.refl _ _).alloc (Nat.le_refl _) _
  have d2 := d1.trans (h2.mono d1.size)
  have d3 := d2.trans (ba.mono d2.size)
  have Z3 : BoxO (w2.alloc (.cells (opC ⟨xk, xt, (xx, xn, xu), xc, xA⟩ (.slice pX xA.length cX)) 26)) w2.heap.size ⟨xk, xt, (xx, xn, xu), xc, xA⟩ (.slice pX xA.length cX) := BoxO.new w2 _ _
  have HX : Hid (RN (w2.alloc (.cells (opC ⟨xk, xt, (xx, xn, xu), xc, xA⟩ (.slice pX xA.length cX)) 26)) (.slice pX xA.length cX) xA) := (own_RN o1).below ba
  obtain ⟨q0, q1, q2, q3, q4, q5, q6⟩ := X1.below d3
  obtain ⟨r0, r1, r2, r3, r4, r5, r6⟩ := X2.below d3
  simp only [opC] at q0 q1 q2 q3 q4 q5 q6 r0 r1 r2 r3 r4 r5 r6 d3 ba
  have cK := HJ.out.2 _ d3 (HR.out.2.1.below d3) (HR.out.2.2.below d3)
  clear o1 h2 d1 b1 d2
  go_wp2_with fail
  refine cK.mono ?_; rintro r w4 ⟨s2, rfl, o2, h4⟩
  obtain ⟨pY, cY, hs⟩ := own_slice o2
  obtain rfl : s2 = .slice pY yA.length cY := hs
  have o2 : OwnA w4 _ (.slice pY yA.length cY) yA := o2
  clear cK q0 q1 q2 q3 q4 q5 q6 r0 r1 r2 r3 r4 r5 r6 ba
  have bb : Below w4.heap.size w4 (w4.alloc (.cells (opC ⟨yk, yt, (yx, yn, yu), yc, yA⟩ (.slice pY yA.length cY)) 26)) := (Below.refl _ _).alloc (Nat.le_refl _) _
  have d4 := d3.trans (h4.mono d3.size)
  have d5 := d4.trans (bb.mono d4.size)
  have b5 := b0.trans (d5.mono b0.size)
  have b35 : Below (w2.alloc (.cells (opC ⟨xk, xt, (xx, xn, xu), xc, xA⟩ (.slice pX xA.length cX)) 26)).heap.size (w2.alloc (.cells (opC ⟨xk, xt, (xx, xn, xu), xc, xA⟩ (.slice pX xA.length cX)) 26)) (w4.alloc (.cells (opC ⟨yk, yt, (yx, yn, yu), yc, yA⟩ (.slice pY yA.length cY)) 26)) := h4.trans (bb.mono h4.size)
  have V3 := Z3.below b35
  have HX5 : Hid (RN (w4.alloc (.cells (opC ⟨yk, yt, (yx, yn, yu), yc, yA⟩ (.slice pY yA.length cY)) 26)) (.slice pX xA.length cX) xA) := HX.out.below b35
  have V4 : BoxO (w4.alloc (.cells (opC ⟨yk, yt, (yx, yn, yu), yc, yA⟩ (.slice pY yA.length cY)) 26)) w4.heap.size ⟨yk, yt, (yx, yn, yu), yc, yA⟩ (.slice pY yA.length cY) := BoxO.new w4 _ _
  have HY5 : Hid (RN (w4.alloc (.cells (opC ⟨yk, yt, (yx, yn, yu), yc, yA⟩ (.slice pY yA.length cY)) 26)) (.slice pY yA.length cY) yA) := (own_RN o2).below bb
  obtain ⟨W5, hW5⟩ : ∃ W, W = w4.alloc (.cells (opC ⟨yk, yt, (yx, yn, yu), yc, yA⟩ (.slice pY yA.length cY)) 26) := ⟨_, rfl⟩
  rw [← hW5] at V3 V4 HX5 HY5 d5 b5
  obtain ⟨p0, p1, p2, p3, p4, p5, p6⟩ := X0.below d5
  simp only at p0 p1 p2 p3 p4 p5 p6
  have ca := HC.out.1 _ d5 (HR.out.1.below d5)
  obtain ⟨B2, hB2⟩ : ∃ B, B = w2.heap.size := ⟨_, rfl⟩
  obtain ⟨B4, hB4⟩ : ∃ B, B = w4.heap.size := ⟨_, rfl⟩
  rw [← hB2] at V3
  rw [← hB4] at V4
  clear Z3 HX bb d4 d3 h4 o2 b35 HJ
  go_upto_region 8 with fail
  rw [show w4.alloc (.cells #[.int .i64 yk, .string yt, .int .i64 yx, .int .i64 yn, .string yu, .int .i64 yc, .slice pY yA.length cY] 26) = W5 from hW5.symm, ← hB2, ← hB4]
  clear hW5 hB2 hB4
  go_wp2_with fail
  refine ca.mono ?_; rintro r w6 ⟨vp, Dp, rfl, op, ap, h6⟩
  obtain ⟨pp, cp, rfl⟩ := own_slice op
  have d6 := d5.trans (h6.mono d5.size)
  have HP6 : Hid (RowC w6 (.slice pp Dp.length cp) Dp ∧ Are w6 Dp CA) := ⟨own_rowC op, ap.are⟩
  have HX6 : Hid (RN w6 (.slice pX xA.length cX) xA ∧ RN w6 (.slice pY yA.length cY) yA) := ⟨HX5.out.below h6, HY5.out.below h6⟩
  have U3 := V3.below h6
  have U4 := V4.below h6
  obtain ⟨q0, q1, q2, q3, q4, q5, q6⟩ := X1.below d6
  simp only at q0 q1 q2 q3 q4 q5 q6
  have cb := HC.out.2.1 _ d6 (HR.out.2.1.below d6)
  clear p0 p1 p2 p3 p4 p5 p6 ca h6 op ap V3 V4 HX5 HY5 d5 b5
  go_wp2_with fail
  refine cb.mono ?_; rintro r w7 ⟨vq, Dq, rfl, oq, aq, h7⟩
  obtain ⟨pq, cq, rfl⟩ := own_slice oq
  have d7 := d6.trans (h7.mono d6.size)
  have HP7 : Hid ((RowC w7 (.slice pp Dp.length cp) Dp ∧ Are w7 Dp CA) ∧ RowC w7 (.slice pq Dq.length cq) Dq ∧ Are w7 Dq CB) := ⟨⟨HP6.out.1.below h7, HP6.out.2.below h7⟩, own_rowC oq, aq.are⟩
  have HX7 : Hid (RN w7 (.slice pX xA.length cX) xA ∧ RN w7 (.slice pY yA.length cY) yA) := ⟨HX6.out.1.below h7, HX6.out.2.below h7⟩
  have V4 := U4.below h7
  have HV3 : Hid (BoxO w7 B2 ⟨xk, xt, (xx, xn, xu), xc, xA⟩ (.slice pX xA.length cX)) := U3.below h7
  obtain ⟨r0, r1, r2, r3, r4, r5, r6⟩ := HV3.out
  simp only at r0 r1 r2 r3 r4 r5 r6
  have cx := HC.out.2.2 _ _ d7 HX7.out.1
  clear q0 q1 q2 q3 q4 q5 q6 cb h7 oq aq U3 U4 HP6 HX6 d6
  go_wp2_with fail
  refine cx.mono ?_; rintro r w8 ⟨vz, Dz, rfl, oz, az, h8⟩
  obtain ⟨pz, cz, rfl⟩ := own_slice oz
  have d8 := d7.trans (h8.mono d7.size)
  have HP8 : Hid ((RowC w8 (.slice pp Dp.length cp) Dp ∧ Are w8 Dp CA) ∧ (RowC w8 (.slice pq Dq.length cq) Dq ∧ Are w8 Dq CB) ∧ RowC w8 (.slice pz Dz.length cz) Dz ∧ Are w8 Dz CX) := ⟨⟨HP7.out.1.1.below h8, HP7.out.1.2.below h8⟩, ⟨HP7.out.2.1.below h8, HP7.out.2.2.below h8⟩, own_rowC oz, az.are⟩
  have HX8 : Hid (RN w8 (.slice pX xA.length cX) xA ∧ RN w8 (.slice pY yA.length cY) yA) := ⟨HX7.out.1.below h8, HX7.out.2.below h8⟩
  have U3 := HV3.out.below h8
  have U4 := V4.below h8
  have p0 := (X0.below d8).d0
  have q0 := (X1.below d8).d0
  simp only at p0 q0
  clear r0 r1 r2 r3 r4 r5 r6 cx h8 oz az V4 HV3 HP7 HX7 d7
  have bE : Below w8.heap.size w8 (w8.alloc (.cells #[] 47)) := (Below.refl _ _).alloc (Nat.le_refl _) _
  have oE : Hid (OwnC (w8.alloc (.cells #[] 47)) w8.heap.size (.slice (some ⟨w8.heap.size, 0, none⟩) 0 0) []) := own_emptyC w8 _ (Nat.le_refl _)
  have HPe : Hid (RowC (w8.alloc (.cells #[] 47)) (.slice pp Dp.length cp) Dp) := HP8.out.1.1.below bE
  have lP : Hid (Dp.length + Dq.length ≤ 33554432) := by
    have h1 := forall2_len HP8.out.1.2
    have h2 := forall2_len HP8.out.2.1.2
    have h3 := HE.out.2
    rw [HE.out.1, List.length_append] at h3
    show _ ≤ _
    omega
  have l1 : Hid (([] : List CV).length + Dp.length ≤ 33554432) := by have := lP.out; show _ ≤ _; simp only [List.length_nil]; omega
  have l2 : Hid (([] ++ Dp : List CV).length + Dq.length ≤ 33554432) := by have := lP.out; show _ ≤ _; simpa using this
  go_wp2_with (first
    | (at_builtin; have h5 := HPe.out; clear h5; refine wpList_strike (by simp [Region.wanted, yielded]) ?_; refine wpList_append_cells rfl (.tmp 98) (.tmp 99) rfl w8.heap.size (.slice (some ⟨w8.heap.size, 0, none⟩) 0 0) [] rfl oE.out _ Dp rfl HPe.out l1.out bE.size ?_; intro v9 w9 own9 gr9; have b9 := bE.grown gr9 bE.size (fun k hk => by simp only [Value.ownBlock, Option.some.injEq] at hk; omega); have O9 : Hid (OwnC w9 w8.heap.size v9 ([] ++ Dp) ∧ RowC w9 (.slice pq Dq.length cq) Dq) := ⟨own9, HP8.out.2.1.1.below b9⟩; clear own9 gr9 bE oE HPe)
    | (at_builtin; refine wpList_strike (by simp [Region.wanted, yielded]) ?_; refine wpList_append_cells rfl (.tmp 100) (.tmp 101) rfl w8.heap.size v9 ([] ++ Dp) rfl O9.out.1 _ Dq rfl O9.out.2 l2.out b9.size ?_; intro v10 w10 own10 gr10; have b10 := b9.grown gr10 b9.size (fun k hk => (owns_block O9.out.1 k hk).1); obtain ⟨p10, c10, e10⟩ := own_slice own10; obtain ⟨n10, hn10⟩ : ∃ n, ([] ++ Dp ++ Dq : List CV).length = n := ⟨_, rfl⟩; rw [hn10] at e10; subst e10; have O10 : Hid (RowC w10 (.slice p10 n10 c10) (Dp ++ Dq) ∧ RowC w10 (.slice pz Dz.length cz) Dz ∧ Are w10 (Dp ++ Dq) CX ∧ Are w10 Dz CX) := ⟨(by have := own_rowC own10; rwa [List.nil_append] at this), HP8.out.2.2.1.below b10, (by rw [HE.out.1]; exact forall2_append (HP8.out.1.2.below b10) (HP8.out.2.1.2.below b10)), HP8.out.2.2.2.below b10⟩; clear own10 gr10 O9 b9 hn10))
  refine (HS.out _ _ _ _ _ O10.out.2.1 O10.out.1 O10.out.2.2.2 O10.out.2.2.1).mono ?_; rintro r w11 ⟨rfl, h11⟩
  have h12 := b10.trans (h11.mono b10.size)
  have d12 := d8.trans (h12.mono d8.size)
  have HX12 : Hid (RN w11 (.slice pX xA.length cX) xA ∧ RN w11 (.slice pY yA.length cY) yA) := ⟨HX8.out.1.below h12, HX8.out.2.below h12⟩
  have HV4 : Hid (BoxO w11 B4 ⟨yk, yt, (yx, yn, yu), yc, yA⟩ (.slice pY yA.length cY)) := U4.below h12
  obtain ⟨r0, r1, r2, r3, r4, r5, r6⟩ := U3.below h12
  obtain ⟨q0, q1, q2, q3, q4, q5, q6⟩ := X2.below d12
  simp only at r0 r1 r2 r3 r4 r5 r6 q0 q1 q2 q3 q4 q5 q6
  have cj := HQ.out.1 _ _ d12 HX12.out.1 (HR.out.2.2.below d12)
  clear b10 h11 O10 HS HP8 U3 U4 HX8 lP l1 l2 p0 d8 h12
  go_wp2_with fail
  refine cj.mono ?_; rintro r w13 ⟨s3, rfl, o3, h13⟩
  obtain ⟨pZ, cZ, hs⟩ := own_slice o3
  obtain rfl : s3 = .slice pZ zA.length cZ := hs
  have o3 : OwnA w13 _ (.slice pZ zA.length cZ) zA := o3
  have d13 := d12.trans (h13.mono d12.size)
  have bc : Below w13.heap.size w13 (w13.alloc (.cells (opC ⟨zk, zt, (zx, zn, zu), zc, zA⟩ (.slice pZ zA.length cZ)) 26)) := (Below.refl _ _).alloc (Nat.le_refl _) _
  have d14 := d13.trans (bc.mono d13.size)
  have hh := h13.trans (bc.mono h13.size)
  have V5 : BoxO (w13.alloc (.cells (opC ⟨zk, zt, (zx, zn, zu), zc, zA⟩ (.slice pZ zA.length cZ)) 26)) w13.heap.size ⟨zk, zt, (zx, zn, zu), zc, zA⟩ (.slice pZ zA.length cZ) := BoxO.new w13 _ _
  have HZ13 : Hid (RN (w13.alloc (.cells (opC ⟨zk, zt, (zx, zn, zu), zc, zA⟩ (.slice pZ zA.length cZ)) 26)) (.slice pZ zA.length cZ) zA) := (own_RN o3).below bc
  have ck := HQ.out.2 _ _ d14 (HR.out.1.below d14) (HX12.out.2.below hh)
  clear q0 q1 q2 q3 q4 q5 q6 r0 r1 r2 r3 r4 r5 r6 cj
  obtain ⟨p0, p1, p2, p3, p4, p5, p6⟩ := X0.below d14
  obtain ⟨q0, q1, q2, q3, q4, q5, q6⟩ := HV4.out.below hh
  simp only [opC] at p0 p1 p2 p3 p4 p5 p6 q0 q1 q2 q3 q4 q5 q6 d14 hh bc
  clear o3 h13 d12 d13 HX12 HV4
  go_wp2_with fail
  refine ck.mono ?_; rintro r w15 ⟨s4, rfl, o4, h15⟩
  obtain ⟨pS, cS, hs⟩ := own_slice o4
  obtain rfl : s4 = .slice pS zA.length cS := hs
  have o4 : OwnA w15 _ (.slice pS zA.length cS) zA := o4
  have d15 := d14.trans (h15.mono d14.size)
  have be : Below w15.heap.size w15 (w15.alloc (.cells (opC ⟨zk, zt, (zx, zn, zu), zc, zA⟩ (.slice pS zA.length cS)) 26)) := (Below.refl _ _).alloc (Nat.le_refl _) _
  have cz := HZ.out (w15.alloc (.cells (opC ⟨zk, zt, (zx, zn, zu), zc, zA⟩ (.slice pS zA.length cS)) 26)) _ _ ((HZ13.out.below h15).below be) ((own_RN o4).below be)
  obtain ⟨r0, r1, r2, r3, r4, r5, r6⟩ := (V5.below h15).below be
  have b16 := b0.trans ((d15.trans (be.mono d15.size)).mono b0.size)
  simp only [opC] at r0 r1 r2 r3 r4 r5 r6 b16
  clear ck p0 p1 p2 p3 p4 p5 p6 q0 q1 q2 q3 q4 q5 q6 V5 HZ13 o4 h15 d14 d15 be hh bc
  go_wp2_with fail
  refine cz.mono ?_; rintro r w17 ⟨rfl, h17⟩
  go_wp2
  go_ret
  exact ⟨rfl, b16.trans (h17.mono b16.size)⟩
end Go.Proofs.YtecmdlecfddeeaaDoor
