/- Of an operation that can be cut vellumlaw04.ContentBack answers true: the walk. -/
import Derived.Test.YtecmdlecfddeeaaDoorBw
namespace Go.Proofs.YtecmdlecfddeeaaDoor
open Go Go.RowKit Go.Lib
set_option linter.unusedVariables false

set_option maxHeartbeats 1000000 in
set_option maxRecDepth 100000 in
theorem back_3 {ad : Nat → Addr} (o : Op5) (va : Value) (x : Int) (w : World) (K m : Nat) (X Y : Op5)
    (cL : Calls Tryd.prog 9 #[] (bxO w o va) fun e w' => e = .returned (.bool true) ∧ Below (bxO w o va).heap.size (bxO w o va) w')
    (ra : RN (bxO w o va) va o.A) (hK : 2 ≤ K) (hK2 : K ≤ 33554432) (hx : -9223372036854775808 ≤ x ∧ x ≤ 9223372036854775807) (hm : wrap64 (1 + wrap64 ((IntKind.u64.wrap x).tmod ((K : Int) - 1))) = m) (h1 : 1 ≤ m) (h2 : m < K)
    (cN : LC o va (bxO w o va) K .nilIface) (cC : KC o va m (bxO w o va) X Y)
    (cX : ∀ s, LC X s (bxO w o va) m .nilIface) (cY : ∀ s, LC Y s (bxO w o va) (K - m) .nilIface)
    (cJ : ∀ s s', JC X s Y s' (bxO w o va) o true .nilIface) (hO : o.A.length ≤ 4194304)
    (CA CB CX : List C5) (hCX : CX = CA ++ CB) (hl : ∀ e ∈ CX, e.2.2.2.length ≤ 4194304) (hn : CX.length ≤ 33554432) (hA : CA.length = m)
    (kcx : CCt o va (bxO w o va) CX) (kca : ∀ s, CCt X s (bxO w o va) CA) (kcb : ∀ s, CCt Y s (bxO w o va) CB) :
    Calls Tryd.prog 6 #[opV o va, .int .i64 x] w fun r w' => r = .returned (.bool true) ∧ Below w.heap.size w w' := by
  have b0 := bxO_below w o va
  have X0 : BoxO (bxO w o va) w.heap.size o va := BoxO.new w o va
  have HR : Hid (RN (bxO w o va) va o.A) := ra
  have HN : Hid (LC o va (bxO w o va) K .nilIface) := cN
  have HK : Hid (KC o va m (bxO w o va) X Y ∧ (∀ s, LC X s (bxO w o va) m .nilIface) ∧ (∀ s, LC Y s (bxO w o va) (K - m) .nilIface) ∧ ∀ s s', JC X s Y s' (bxO w o va) o true .nilIface) := ⟨cC, cX, cY, cJ⟩
  have HC : Hid (CCt o va (bxO w o va) CX ∧ (∀ s, CCt X s (bxO w o va) CA) ∧ ∀ s, CCt Y s (bxO w o va) CB) := ⟨kcx, kca, kcb⟩
  have HS : Hid (∀ W v v' D D', RowC W v D → RowC W v' D' → Are W D CX → Are W D' CX → Calls Tryd.prog 20 #[v, v'] W fun r w' => r = .returned (.bool true) ∧ Below W.heap.size W w') := fun W v v' D D' h1 h2 h3 h4 => sameCells_any v v' D D' CX W h1 h2 h3 h4 hl (by rw [forall2_len h3]; exact hn)
  have HE : Hid (CX = CA ++ CB ∧ CX.length ≤ 33554432 ∧ CA.length = m) := ⟨hCX, hn, hA⟩
  have HZ : Hid (∀ W s s', RN W s o.A → RN W s' o.A → Calls Tryd.prog 28 #[opV o s, opV o s'] W fun r w' => r = .returned (.bool true) ∧ Below W.heap.size W w') := fun W s s' h h' => by
    have := sameC_any o o s s' W h.row h'.row hO hO
    rwa [decide_eq_true rfl] at this
  clear ra cN cC cX cY cJ hCX hl hn kca kcb kcx hO hA
  obtain ⟨ak, at', ⟨ax, an, au⟩, ac, aA⟩ := o
  obtain ⟨xk, xt, ⟨xx, xn, xu⟩, xc, xA⟩ := X
  obtain ⟨yk, yt, ⟨yx, yn, yu⟩, yc, yA⟩ := Y
  obtain ⟨W0, hW0⟩ : ∃ W0, W0 = bxO w ⟨ak, at', (ax, an, au), ac, aA⟩ va := ⟨_, rfl⟩
  go_enter Tryd.func6, Tryd.ntmps6
  go_wp2_with fail
  rw [← hW0] at cL b0 X0 HR HN HK HC
  refine (hW0 ▸ cL : Calls Tryd.prog 9 #[] (bxO w ⟨ak, at', (ax, an, au), ac, aA⟩ va) fun e w' => e = .returned (.bool true) ∧ Below W0.heap.size W0 w').mono ?_; rintro r w1 ⟨rfl, d1⟩
  obtain ⟨p0, p1, p2, p3, p4, p5, p6⟩ := X0.below d1
  simp only at p0 p1 p2 p3 p4 p5 p6
  have c1 := HN.out _ d1 (HR.out.below d1)
  clear cL hW0
  go_wp2_with fail
  refine c1.mono ?_; rintro r w2 ⟨rfl, h2'⟩
  have d2 := d1.trans (h2'.mono d1.size)
  clear c1 h2' p0 p1 p2 p3 p4 p5 p6 d1 HN
  obtain ⟨p0, p1, p2, p3, p4, p5, p6⟩ := X0.below d2
  simp only at p0 p1 p2 p3 p4 p5 p6
  go_upto_region 7 with fail
  rw [hm]
  have ck := HK.out.1 _ d2 (HR.out.below d2)
  go_wp2_with fail
  refine ck.mono ?_; rintro r w3 ⟨s1, s2, rfl, o1, o2, h3⟩
  obtain ⟨pX, cX, rfl, _⟩ := o1.row.val
  obtain ⟨pY, cY, rfl, _⟩ := o2.row.val
  have d3 := d2.trans (h3.mono d2.size)
  clear ck h3 p0 p1 p2 p3 p4 p5 p6 d2
  have ba : Below w3.heap.size w3 ((w3.alloc (.cells (opC ⟨xk, xt, (xx, xn, xu), xc, xA⟩ (.slice pX xA.length cX)) 26)).alloc (.cells (opC ⟨yk, yt, (yx, yn, yu), yc, yA⟩ (.slice pY yA.length cY)) 26)) := ((Below.refl _ _).alloc (Nat.le_refl _) _).alloc (by simp) _
  have HX : Hid (RN ((w3.alloc (.cells (opC ⟨xk, xt, (xx, xn, xu), xc, xA⟩ (.slice pX xA.length cX)) 26)).alloc (.cells (opC ⟨yk, yt, (yx, yn, yu), yc, yA⟩ (.slice pY yA.length cY)) 26)) (.slice pX xA.length cX) xA ∧ RN ((w3.alloc (.cells (opC ⟨xk, xt, (xx, xn, xu), xc, xA⟩ (.slice pX xA.length cX)) 26)).alloc (.cells (opC ⟨yk, yt, (yx, yn, yu), yc, yA⟩ (.slice pY yA.length cY)) 26)) (.slice pY yA.length cY) yA) := ⟨o1.below ba, o2.below ba⟩
  have V3 : BoxO ((w3.alloc (.cells (opC ⟨xk, xt, (xx, xn, xu), xc, xA⟩ (.slice pX xA.length cX)) 26)).alloc (.cells (opC ⟨yk, yt, (yx, yn, yu), yc, yA⟩ (.slice pY yA.length cY)) 26)) w3.heap.size ⟨xk, xt, (xx, xn, xu), xc, xA⟩ (.slice pX xA.length cX) := (BoxO.new w3 _ _).below ((Below.refl _ _).alloc (Nat.le_refl _) _)
  have V4 : BoxO ((w3.alloc (.cells (opC ⟨xk, xt, (xx, xn, xu), xc, xA⟩ (.slice pX xA.length cX)) 26)).alloc (.cells (opC ⟨yk, yt, (yx, yn, yu), yc, yA⟩ (.slice pY yA.length cY)) 26)) (w3.heap.size + 1) ⟨yk, yt, (yx, yn, yu), yc, yA⟩ (.slice pY yA.length cY) := by
    have h1 := BoxO.new (w3.alloc (.cells (opC ⟨xk, xt, (xx, xn, xu), xc, xA⟩ (.slice pX xA.length cX)) 26)) ⟨yk, yt, (yx, yn, yu), yc, yA⟩ (.slice pY yA.length cY)
    rwa [World.size_alloc] at h1
  have d5 := d3.trans (ba.mono d3.size)
  obtain ⟨W5, hW5⟩ : ∃ W, W = (w3.alloc (.cells (opC ⟨xk, xt, (xx, xn, xu), xc, xA⟩ (.slice pX xA.length cX)) 26)).alloc (.cells (opC ⟨yk, yt, (yx, yn, yu), yc, yA⟩ (.slice pY yA.length cY)) 26) := ⟨_, rfl⟩
  rw [← hW5] at HX V3 V4 d5
  obtain ⟨B3, hB3⟩ : ∃ B, B = w3.heap.size := ⟨_, rfl⟩
  obtain ⟨B4, hB4⟩ : ∃ B, B = w3.heap.size + 1 := ⟨_, rfl⟩
  rw [← hB3] at V3
  rw [← hB4] at V4
  clear ba o1 o2 d3
  go_upto_region 8 with fail
  rw [show (w3.alloc (.cells #[.int .i64 xk, .string xt, .int .i64 xx, .int .i64 xn, .string xu, .int .i64 xc, .slice pX xA.length cX] 26)).alloc (.cells #[.int .i64 yk, .string yt, .int .i64 yx, .int .i64 yn, .string yu, .int .i64 yc, .slice pY yA.length cY] 26) = W5 from hW5.symm, ← hB4, ← hB3]
  clear hW5 hB3 hB4
  have HV : Hid (BoxO W5 B3 ⟨xk, xt, (xx, xn, xu), xc, xA⟩ (.slice pX xA.length cX) ∧ BoxO W5 B4 ⟨yk, yt, (yx, yn, yu), yc, yA⟩ (.slice pY yA.length cY)) := ⟨V3, V4⟩
  clear V3 V4
  obtain ⟨p0, p1, p2, p3, p4, p5, p6⟩ := HV.out.1
  simp only at p0 p1 p2 p3 p4 p5 p6
  have c6 := HK.out.2.1 _ _ d5 HX.out.1
  obtain ⟨kr, hkr⟩ : ∃ r : Nat, K - m = r := ⟨_, rfl⟩
  have hKm : (K : Int) - (m : Int) = (kr : Int) := by omega
  go_wp2_with fail
  refine c6.mono ?_; rintro r w6 ⟨rfl, h6⟩
  have d6 := d5.trans (h6.mono d5.size)
  have HX6 : Hid (RN w6 (.slice pX xA.length cX) xA ∧ RN w6 (.slice pY yA.length cY) yA) := ⟨HX.out.1.below h6, HX.out.2.below h6⟩
  have HV6 : Hid (BoxO w6 B3 ⟨xk, xt, (xx, xn, xu), xc, xA⟩ (.slice pX xA.length cX) ∧ BoxO w6 B4 ⟨yk, yt, (yx, yn, yu), yc, yA⟩ (.slice pY yA.length cY)) := ⟨HV.out.1.below h6, HV.out.2.below h6⟩
  clear c6 h6 p0 p1 p2 p3 p4 p5 p6 d5 HX HV
  obtain ⟨q0, q1, q2, q3, q4, q5, q6⟩ := HV6.out.2
  simp only at q0 q1 q2 q3 q4 q5 q6
  have c7 := HK.out.2.2.1 _ _ d6 HX6.out.2
  rw [hkr] at c7
  go_wp2_with fail
  refine c7.mono ?_; rintro r w7 ⟨rfl, h7⟩
  have d7 := d6.trans (h7.mono d6.size)
  have HX7 : Hid (RN w7 (.slice pX xA.length cX) xA ∧ RN w7 (.slice pY yA.length cY) yA) := ⟨HX6.out.1.below h7, HX6.out.2.below h7⟩
  have HV7 : Hid (BoxO w7 B3 ⟨xk, xt, (xx, xn, xu), xc, xA⟩ (.slice pX xA.length cX) ∧ BoxO w7 B4 ⟨yk, yt, (yx, yn, yu), yc, yA⟩ (.slice pY yA.length cY)) := ⟨HV6.out.1.below h7, HV6.out.2.below h7⟩
  clear c7 h7 q0 q1 q2 q3 q4 q5 q6 d6 HX6 HV6
  obtain ⟨p0, p1, p2, p3, p4, p5, p6⟩ := HV7.out.1
  simp only at p0 p1 p2 p3 p4 p5 p6
  obtain ⟨q0, q1, q2, q3, q4, q5, q6⟩ := HV7.out.2
  simp only at q0 q1 q2 q3 q4 q5 q6
  have cj := HK.out.2.2.2 _ _ _ d7 HX7.out.1 HX7.out.2
  clear HK hkr
  go_wp2_with fail
  refine cj.mono ?_; rintro r w8 ⟨s3, rfl, o3, h8⟩
  obtain ⟨pZ, cZ, hs⟩ := own_slice o3
  obtain rfl : s3 = (.slice pZ aA.length cZ) := hs
  have d8 := d7.trans (h8.mono d7.size)
  have bc : Below w8.heap.size w8 (w8.alloc (.cells (opC ⟨ak, at', (ax, an, au), ac, aA⟩ (.slice pZ aA.length cZ)) 26)) := (Below.refl _ _).alloc (Nat.le_refl _) _
  have d9 := d8.trans (bc.mono d8.size)
  have hh := h8.trans (bc.mono h8.size)
  have HX9 : Hid ((RN (w8.alloc (.cells (opC ⟨ak, at', (ax, an, au), ac, aA⟩ (.slice pZ aA.length cZ)) 26)) (.slice pX xA.length cX) xA ∧ RN (w8.alloc (.cells (opC ⟨ak, at', (ax, an, au), ac, aA⟩ (.slice pZ aA.length cZ)) 26)) (.slice pY yA.length cY) yA) ∧ (BoxO (w8.alloc (.cells (opC ⟨ak, at', (ax, an, au), ac, aA⟩ (.slice pZ aA.length cZ)) 26)) B3 ⟨xk, xt, (xx, xn, xu), xc, xA⟩ (.slice pX xA.length cX) ∧ BoxO (w8.alloc (.cells (opC ⟨ak, at', (ax, an, au), ac, aA⟩ (.slice pZ aA.length cZ)) 26)) B4 ⟨yk, yt, (yx, yn, yu), yc, yA⟩ (.slice pY yA.length cY))) := ⟨⟨HX7.out.1.below hh, HX7.out.2.below hh⟩, ⟨HV7.out.1.below hh, HV7.out.2.below hh⟩⟩
  clear p0 p1 p2 p3 p4 p5 p6 q0 q1 q2 q3 q4 q5 q6
  obtain ⟨p0, p1, p2, p3, p4, p5, p6⟩ := X0.below d9
  simp only [opC] at p0 p1 p2 p3 p4 p5 p6
  obtain ⟨q0, q1, q2, q3, q4, q5, q6⟩ := (BoxO.new w8 ⟨ak, at', (ax, an, au), ac, aA⟩ (.slice pZ aA.length cZ))
  simp only [opC] at q0 q1 q2 q3 q4 q5 q6
  have cz := HZ.out (w8.alloc (.cells (opC ⟨ak, at', (ax, an, au), ac, aA⟩ (.slice pZ aA.length cZ)) 26)) _ _ ((own_RN o3).below bc) (HR.out.below d9)
  simp only [opC] at d9 hh bc cz
  clear cj o3 h8 bc hh d8 d7 HX7 HV7
  go_wp2_with fail
  refine cz.mono ?_; rintro r w10 ⟨rfl, h10⟩
  have d10 := d9.trans (h10.mono d9.size)
  have HX10 : Hid (RN w10 (.slice pX xA.length cX) xA ∧ RN w10 (.slice pY yA.length cY) yA) := ⟨HX9.out.1.1.below h10, HX9.out.1.2.below h10⟩
  have HV10 : Hid (BoxO w10 B3 ⟨xk, xt, (xx, xn, xu), xc, xA⟩ (.slice pX xA.length cX) ∧ BoxO w10 B4 ⟨yk, yt, (yx, yn, yu), yc, yA⟩ (.slice pY yA.length cY)) := ⟨HX9.out.2.1.below h10, HX9.out.2.2.below h10⟩
  clear p0 p1 p2 p3 p4 p5 p6 q0 q1 q2 q3 q4 q5 q6 cz h10 d9 HX9 HZ
  obtain ⟨p0, p1, p2, p3, p4, p5, p6⟩ := X0.below d10
  simp only at p0 p1 p2 p3 p4 p5 p6
  have ca := HC.out.1 _ d10 (HR.out.below d10)
  go_wp2_with fail
  refine ca.mono ?_; rintro r w11 ⟨vz, Dz, rfl, oz, az, h11⟩
  obtain ⟨pz, cz, rfl⟩ := own_slice oz
  have d11 := d10.trans (h11.mono d10.size)
  have HX11 : Hid (RN w11 (.slice pX xA.length cX) xA ∧ RN w11 (.slice pY yA.length cY) yA) := ⟨HX10.out.1.below h11, HX10.out.2.below h11⟩
  have HV11 : Hid (BoxO w11 B3 ⟨xk, xt, (xx, xn, xu), xc, xA⟩ (.slice pX xA.length cX) ∧ BoxO w11 B4 ⟨yk, yt, (yx, yn, yu), yc, yA⟩ (.slice pY yA.length cY)) := ⟨HV10.out.1.below h11, HV10.out.2.below h11⟩
  have HP11 : Hid (RowC w11 (.slice pz Dz.length cz) Dz ∧ Are w11 Dz CX) := ⟨own_rowC oz, az.are⟩
  clear p0 p1 p2 p3 p4 p5 p6 ca h11 oz az HX10 HV10 d10
  obtain ⟨p0, p1, p2, p3, p4, p5, p6⟩ := HV11.out.1
  simp only at p0 p1 p2 p3 p4 p5 p6
  have cb := HC.out.2.1 _ _ d11 HX11.out.1
  go_wp2_with fail
  refine cb.mono ?_; rintro r w12 ⟨vp, Dp, rfl, op, ap, h12⟩
  obtain ⟨pp, cp, rfl⟩ := own_slice op
  have d12 := d11.trans (h12.mono d11.size)
  have HX12 : Hid (RN w12 (.slice pX xA.length cX) xA ∧ RN w12 (.slice pY yA.length cY) yA) := ⟨HX11.out.1.below h12, HX11.out.2.below h12⟩
  have HV12 : Hid (BoxO w12 B3 ⟨xk, xt, (xx, xn, xu), xc, xA⟩ (.slice pX xA.length cX) ∧ BoxO w12 B4 ⟨yk, yt, (yx, yn, yu), yc, yA⟩ (.slice pY yA.length cY)) := ⟨HV11.out.1.below h12, HV11.out.2.below h12⟩
  have hlp : Dp.length = m := (forall2_len ap).trans HE.out.2.2
  have HP12 : Hid ((RowC w12 (.slice pz Dz.length cz) Dz ∧ Are w12 Dz CX) ∧ RowC w12 (.slice pp m cp) Dp ∧ Are w12 Dp CA) := ⟨⟨HP11.out.1.below h12, HP11.out.2.below h12⟩, (by have := own_rowC op; rwa [hlp] at this), ap.are⟩
  rw [hlp]
  have HLp : Hid (Dp.length = m) := hlp
  clear p0 p1 p2 p3 p4 p5 p6 cb h12 op ap HX11 HV11 d11 hlp HP11
  obtain ⟨p0, p1, p2, p3, p4, p5, p6⟩ := HV12.out.2
  simp only at p0 p1 p2 p3 p4 p5 p6
  have cc := HC.out.2.2 _ _ d12 HX12.out.2
  go_wp2_with fail
  refine cc.mono ?_; rintro r w13 ⟨vq, Dq, rfl, oq, aq, h13⟩
  obtain ⟨pq, cq, rfl⟩ := own_slice oq
  have d13 := d12.trans (h13.mono d12.size)
  have HP8 : Hid ((RowC w13 (.slice pp m cp) Dp ∧ Are w13 Dp CA) ∧ (RowC w13 (.slice pq Dq.length cq) Dq ∧ Are w13 Dq CB) ∧ RowC w13 (.slice pz Dz.length cz) Dz ∧ Are w13 Dz CX) := ⟨⟨HP12.out.2.1.below h13, HP12.out.2.2.below h13⟩, ⟨own_rowC oq, aq.are⟩, HP12.out.1.1.below h13, HP12.out.1.2.below h13⟩
  clear p0 p1 p2 p3 p4 p5 p6 cc h13 oq aq HX12 HV12 d12 HP12
  have bE : Below w13.heap.size w13 (w13.alloc (.cells #[] 47)) := (Below.refl _ _).alloc (Nat.le_refl _) _
  have oE : Hid (OwnC (w13.alloc (.cells #[] 47)) w13.heap.size (.slice (some ⟨w13.heap.size, 0, none⟩) 0 0) []) := own_emptyC w13 _ (Nat.le_refl _)
  have HPe : Hid (RowC (w13.alloc (.cells #[] 47)) (.slice pp m cp) Dp) := HP8.out.1.1.below bE
  have lP : Hid (Dp.length + Dq.length ≤ 33554432) := by
    have h1 := forall2_len HP8.out.1.2
    have h2 := forall2_len HP8.out.2.1.2
    have h3 := HE.out.2.1
    rw [HE.out.1, List.length_append] at h3
    show _ ≤ _
    omega
  have l1 : Hid (([] : List CV).length + Dp.length ≤ 33554432) := by have := lP.out; show _ ≤ _; simp only [List.length_nil]; omega
  have l2 : Hid (([] ++ Dp : List CV).length + Dq.length ≤ 33554432) := by have := lP.out; show _ ≤ _; simpa using this
  go_wp2_with (first
    | (at_builtin; refine wpList_strike (by simp [Region.wanted, yielded]) ?_; refine wpList_append_cells rfl (.tmp 136) (.tmp 137) rfl w13.heap.size (.slice (some ⟨w13.heap.size, 0, none⟩) 0 0) [] rfl oE.out _ Dp rfl HPe.out l1.out bE.size ?_; intro v9 w9 own9 gr9; have b9 := bE.grown gr9 bE.size (fun k hk => by simp only [Value.ownBlock, Option.some.injEq] at hk; omega); have O9 : Hid (OwnC w9 w13.heap.size v9 ([] ++ Dp) ∧ RowC w9 (.slice pq Dq.length cq) Dq) := ⟨own9, HP8.out.2.1.1.below b9⟩; clear own9 gr9 bE oE HPe)
    | (at_builtin; refine wpList_strike (by simp [Region.wanted, yielded]) ?_; refine wpList_append_cells rfl (.tmp 138) (.tmp 139) rfl w13.heap.size v9 ([] ++ Dp) rfl O9.out.1 _ Dq rfl O9.out.2 l2.out b9.size ?_; intro v10 w10 own10 gr10; have b10 := b9.grown gr10 b9.size (fun k hk => (owns_block O9.out.1 k hk).1); obtain ⟨p10, c10, e10⟩ := own_slice own10; obtain ⟨n10, hn10⟩ : ∃ n, ([] ++ Dp ++ Dq : List CV).length = n := ⟨_, rfl⟩; rw [hn10] at e10; subst e10; have O10 : Hid (RowC w10 (.slice p10 n10 c10) (Dp ++ Dq) ∧ RowC w10 (.slice pz Dz.length cz) Dz ∧ Are w10 (Dp ++ Dq) CX ∧ Are w10 Dz CX) := ⟨(by have := own_rowC own10; rwa [List.nil_append] at this), HP8.out.2.2.1.below b10, (by rw [HE.out.1]; exact forall2_append (HP8.out.1.2.below b10) (HP8.out.2.1.2.below b10)), HP8.out.2.2.2.below b10⟩; clear own10 gr10 O9 b9 hn10))
  refine (HS.out _ _ _ _ _ O10.out.2.1 O10.out.1 O10.out.2.2.2 O10.out.2.2.1).mono ?_; rintro r w11 ⟨rfl, h11⟩
  have h12 := b10.trans (h11.mono b10.size)
  have d14 := d13.trans (h12.mono d13.size)
  clear b10 h11 O10 HS HP8 lP l1 l2
  go_wp2
  go_ret
  exact ⟨rfl, b0.trans (d14.mono b0.size)⟩
end Go.Proofs.YtecmdlecfddeeaaDoor
