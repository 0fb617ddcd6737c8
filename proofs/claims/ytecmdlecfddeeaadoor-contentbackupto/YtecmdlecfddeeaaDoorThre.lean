/- Of all operations vellumlaw04.ContentThree answers true: the walks. -/
import Derived.Test.YtecmdlecfddeeaaDoorPw
namespace Go.Proofs.YtecmdlecfddeeaaDoor
open Go Go.RowKit Go.Lib
set_option linter.unusedVariables false

abbrev bxT (w : World) (a b c : Op5) (va vb vc : Value) : World := ((w.alloc (.cells (opC a va) 26)).alloc (.cells (opC b vb) 26)).alloc (.cells (opC c vc) 26)
theorem bxT_below (w : World) (a b c : Op5) (va vb vc : Value) : Below w.heap.size w (bxT w a b c va vb vc) := (((Below.refl w.heap.size w).alloc (Nat.le_refl _) _).alloc (by simp) _).alloc (by simp; omega) _
theorem bxT_0 (w : World) (a b c : Op5) (va vb vc : Value) : BoxO (bxT w a b c va vb vc) w.heap.size a va := ((BoxO.new w a va).below ((Below.refl _ _).alloc (Nat.le_refl _) _)).below ((Below.refl _ _).alloc (Nat.le_refl _) _)
theorem bxT_1 (w : World) (a b c : Op5) (va vb vc : Value) : BoxO (bxT w a b c va vb vc) (w.heap.size + 1) b vb := by
  have h1 := BoxO.new (w.alloc (.cells (opC a va) 26)) b vb
  rw [World.size_alloc] at h1
  exact h1.below ((Below.refl _ _).alloc (Nat.le_refl _) _)
theorem bxT_2 (w : World) (a b c : Op5) (va vb vc : Value) : BoxO (bxT w a b c va vb vc) (w.heap.size + 1 + 1) c vc := by
  have h1 := BoxO.new ((w.alloc (.cells (opC a va) 26)).alloc (.cells (opC b vb) 26)) c vc
  rw [World.size_alloc, World.size_alloc] at h1
  exact h1
/-- What Join answers of two, from a world on. -/
def JC (o : Op5) (s : Value) (o' : Op5) (s' : Value) (W0 : World) (X : Op5) (B : Bool) (E : Value) : Prop :=
  ∀ W, Below W0.heap.size W0 W → RN W s o.A → RN W s' o'.A → Calls Tryd.prog 26 #[opV o s, opV o' s'] W fun r w' => ∃ s1, r = .returned (.tuple #[opV X s1, .bool B, E]) ∧ OwnA w' W.heap.size s1 X.A ∧ Below W.heap.size W w'
/-- What Cells answers, from a world on. -/
def CCt (o : Op5) (s : Value) (W0 : World) (C : List C5) : Prop :=
  ∀ W, Below W0.heap.size W0 W → RN W s o.A → Calls Tryd.prog 13 #[opV o s] W fun r w' => ∃ v' D, r = .returned (.tuple #[v', .nilIface]) ∧ OwnC w' W.heap.size v' D ∧ AreO w' W.heap.size D C ∧ Below W.heap.size W w'

set_option maxHeartbeats 4000000 in
set_option maxRecDepth 100000 in
theorem three_1 {ad : Nat → Addr} (a b c : Op5) (va vb vc : Value) (w : World) (X Y : Op5) (e1 e2 : Nat)
    (cL : Calls Tryd.prog 9 #[] (bxT w a b c va vb vc) fun e w' => e = .returned (.bool true) ∧ Below (bxT w a b c va vb vc).heap.size (bxT w a b c va vb vc) w')
    (ra : RN (bxT w a b c va vb vc) va a.A) (rb : RN (bxT w a b c va vb vc) vb b.A) (rc : RN (bxT w a b c va vb vc) vc c.A)
    (cJ : JC a va b vb (bxT w a b c va vb vc) X false (errV ad e1)) (cK : JC b vb c vc (bxT w a b c va vb vc) Y false .nilIface) :
    Calls Tryd.prog 7 #[opV a va, opV b vb, opV c vc] w fun r w' => r = .returned (.bool true) ∧ Below w.heap.size w w' := by
  have b0 := bxT_below w a b c va vb vc
  have X0 := bxT_0 w a b c va vb vc
  have X1 := bxT_1 w a b c va vb vc
  have X2 := bxT_2 w a b c va vb vc
  have HR : Hid (RN (bxT w a b c va vb vc) va a.A ∧ RN (bxT w a b c va vb vc) vb b.A ∧ RN (bxT w a b c va vb vc) vc c.A) := ⟨ra, rb, rc⟩
  have HJ : Hid (JC a va b vb (bxT w a b c va vb vc) X false (errV ad e1) ∧ JC b vb c vc (bxT w a b c va vb vc) Y false .nilIface) := ⟨cJ, cK⟩
  clear ra rb rc cJ cK
  obtain ⟨ak, at', ⟨ax, an, au⟩, ac, aA⟩ := a
  obtain ⟨bk, bt, ⟨bx, bn, bu⟩, bc, bA⟩ := b
  obtain ⟨ck, ct, ⟨cx, cn, cu⟩, cc, cA⟩ := c
  obtain ⟨xk, xt, ⟨xx, xn, xu⟩, xc, xA⟩ := X
  obtain ⟨yk, yt, ⟨yx, yn, yu⟩, yc, yA⟩ := Y
  obtain ⟨W0, hW0⟩ : ∃ W0, W0 = bxT w ⟨ak, at', (ax, an, au), ac, aA⟩ ⟨bk, bt, (bx, bn, bu), bc, bA⟩ ⟨ck, ct, (cx, cn, cu), cc, cA⟩ va vb vc := ⟨_, rfl⟩
  go_enter Tryd.func7, Tryd.ntmps7
  go_wp2_with fail
  rw [← hW0] at cL b0 X0 X1 X2 HR HJ
  refine (hW0 ▸ cL : Calls Tryd.prog 9 #[] (bxT w ⟨ak, at', (ax, an, au), ac, aA⟩ ⟨bk, bt, (bx, bn, bu), bc, bA⟩ ⟨ck, ct, (cx, cn, cu), cc, cA⟩ va vb vc) fun e w' => e = .returned (.bool true) ∧ Below W0.heap.size W0 w').mono ?_; rintro r w1 ⟨rfl, d1⟩
  have b1 := b0.trans (d1.mono b0.size)
  obtain ⟨p0, p1, p2, p3, p4, p5, p6⟩ := X0.below d1
  obtain ⟨q0, q1, q2, q3, q4, q5, q6⟩ := X1.below d1
  simp only at p0 p1 p2 p3 p4 p5 p6 q0 q1 q2 q3 q4 q5 q6
  clear cL hW0
  go_wp2_with fail
  refine (HJ.out.1 _ d1 (HR.out.1.below d1) (HR.out.2.1.below d1)).mono ?_; rintro r w2 ⟨s1, rfl, o1, h2⟩
  obtain ⟨pX, cX, hs⟩ := own_slice o1
  obtain rfl : s1 = .slice pX xA.length cX := hs
  have o1 : OwnA w2 w1.heap.size (.slice pX xA.length cX) xA := o1
  clear p0 p1 p2 p3 p4 p5 p6 q0 q1 q2 q3 q4 q5 q6
  have ba : Below w2.heap.size w2 (w2.alloc (.cells (opC ⟨xk, xt, (xx, xn, xu), xc, xA⟩ (.slice pX xA.length cX)) 26)) := (Below.refl _ _).alloc (Nat.le_refl _) _
  have d2 := d1.trans (h2.mono d1.size)
  have d3 := d2.trans (ba.mono d2.size)
  have Z3 : BoxO (w2.alloc (.cells (opC ⟨xk, xt, (xx, xn, xu), xc, xA⟩ (.slice pX xA.length cX)) 26)) w2.heap.size ⟨xk, xt, (xx, xn, xu), xc, xA⟩ (.slice pX xA.length cX) := BoxO.new w2 _ _
  have HX : Hid (RN (w2.alloc (.cells (opC ⟨xk, xt, (xx, xn, xu), xc, xA⟩ (.slice pX xA.length cX)) 26)) (.slice pX xA.length cX) xA) := (own_RN o1).below ba
  obtain ⟨q0, q1, q2, q3, q4, q5, q6⟩ := X1.below d3
  obtain ⟨r0, r1, r2, r3, r4, r5, r6⟩ := X2.below d3
  simp only [opC] at q0 q1 q2 q3 q4 q5 q6 r0 r1 r2 r3 r4 r5 r6 d3 ba
  have cK := HJ.out.2 _ d3 (HR.out.2.1.below d3) (HR.out.2.2.below d3)
  clear o1 h2 d1 b1 d2
  go_wp2_with fail
  refine cK.mono ?_; rintro r w4 ⟨s2, rfl, o2, h4⟩
  obtain ⟨pY, cY, hs⟩ := own_slice o2
  obtain rfl : s2 = .slice pY yA.length cY := hs
  have o2 : OwnA w4 _ (.slice pY yA.length cY) yA := o2
  clear cK q0 q1 q2 q3 q4 q5 q6 r0 r1 r2 r3 r4 r5 r6 ba
  have bb : Below w4.heap.size w4 (w4.alloc (.cells (opC ⟨yk, yt, (yx, yn, yu), yc, yA⟩ (.slice pY yA.length cY)) 26)) := (Below.refl _ _).alloc (Nat.le_refl _) _
  have d4 := d3.trans (h4.mono d3.size)
  have d5 := d4.trans (bb.mono d4.size)
  have b5 := b0.trans (d5.mono b0.size)
  clear Z3 HX bb d4 d5 d3 h4 o2 X0 X1 X2 HR HJ b0
  simp only [opC] at b5
  go_wp2
  go_ret
  exact ⟨rfl, b5⟩

set_option maxHeartbeats 4000000 in
set_option maxRecDepth 100000 in
theorem three_2 {ad : Nat → Addr} (a b c : Op5) (va vb vc : Value) (w : World) (X Y : Op5) (e1 e2 : Nat)
    (cL : Calls Tryd.prog 9 #[] (bxT w a b c va vb vc) fun e w' => e = .returned (.bool true) ∧ Below (bxT w a b c va vb vc).heap.size (bxT w a b c va vb vc) w')
    (ra : RN (bxT w a b c va vb vc) va a.A) (rb : RN (bxT w a b c va vb vc) vb b.A) (rc : RN (bxT w a b c va vb vc) vc c.A)
    (cJ : JC a va b vb (bxT w a b c va vb vc) X false (errV ad e1)) (cK : JC b vb c vc (bxT w a b c va vb vc) Y true .nilIface) :
    Calls Tryd.prog 7 #[opV a va, opV b vb, opV c vc] w fun r w' => r = .returned (.bool true) ∧ Below w.heap.size w w' := by
  have b0 := bxT_below w a b c va vb vc
  have X0 := bxT_0 w a b c va vb vc
  have X1 := bxT_1 w a b c va vb vc
  have X2 := bxT_2 w a b c va vb vc
  have HR : Hid (RN (bxT w a b c va vb vc) va a.A ∧ RN (bxT w a b c va vb vc) vb b.A ∧ RN (bxT w a b c va vb vc) vc c.A) := ⟨ra, rb, rc⟩
  have HJ : Hid (JC a va b vb (bxT w a b c va vb vc) X false (errV ad e1) ∧ JC b vb c vc (bxT w a b c va vb vc) Y true .nilIface) := ⟨cJ, cK⟩
  clear ra rb rc cJ cK
  obtain ⟨ak, at', ⟨ax, an, au⟩, ac, aA⟩ := a
  obtain ⟨bk, bt, ⟨bx, bn, bu⟩, bc, bA⟩ := b
  obtain ⟨ck, ct, ⟨cx, cn, cu⟩, cc, cA⟩ := c
  obtain ⟨xk, xt, ⟨xx, xn, xu⟩, xc, xA⟩ := X
  obtain ⟨yk, yt, ⟨yx, yn, yu⟩, yc, yA⟩ := Y
  obtain ⟨W0, hW0⟩ : ∃ W0, W0 = bxT w ⟨ak, at', (ax, an, au), ac, aA⟩ ⟨bk, bt, (bx, bn, bu), bc, bA⟩ ⟨ck, ct, (cx, cn, cu), cc, cA⟩ va vb vc := ⟨_, rfl⟩
  go_enter Tryd.func7, Tryd.ntmps7
  go_wp2_with fail
  rw [← hW0] at cL b0 X0 X1 X2 HR HJ
  refine (hW0 ▸ cL : Calls Tryd.prog 9 #[] (bxT w ⟨ak, at', (ax, an, au), ac, aA⟩ ⟨bk, bt, (bx, bn, bu), bc, bA⟩ ⟨ck, ct, (cx, cn, cu), cc, cA⟩ va vb vc) fun e w' => e = .returned (.bool true) ∧ Below W0.heap.size W0 w').mono ?_; rintro r w1 ⟨rfl, d1⟩
  have b1 := b0.trans (d1.mono b0.size)
  obtain ⟨p0, p1, p2, p3, p4, p5, p6⟩ := X0.below d1
  obtain ⟨q0, q1, q2, q3, q4, q5, q6⟩ := X1.below d1
  simp only at p0 p1 p2 p3 p4 p5 p6 q0 q1 q2 q3 q4 q5 q6
  clear cL hW0
  go_wp2_with fail
  refine (HJ.out.1 _ d1 (HR.out.1.below d1) (HR.out.2.1.below d1)).mono ?_; rintro r w2 ⟨s1, rfl, o1, h2⟩
  obtain ⟨pX, cX, hs⟩ := own_slice o1
  obtain rfl : s1 = .slice pX xA.length cX := hs
  have o1 : OwnA w2 w1.heap.size (.slice pX xA.length cX) xA := o1
  clear p0 p1 p2 p3 p4 p5 p6 q0 q1 q2 q3 q4 q5 q6
  have ba : Below w2.heap.size w2 (w2.alloc (.cells (opC ⟨xk, xt, (xx, xn, xu), xc, xA⟩ (.slice pX xA.length cX)) 26)) := (Below.refl _ _).alloc (Nat.le_refl _) _
  have d2 := d1.trans (h2.mono d1.size)
  have d3 := d2.trans (ba.mono d2.size)
  have Z3 : BoxO (w2.alloc (.cells (opC ⟨xk, xt, (xx, xn, xu), xc, xA⟩ (.slice pX xA.length cX)) 26)) w2.heap.size ⟨xk, xt, (xx, xn, xu), xc, xA⟩ (.slice pX xA.length cX) := BoxO.new w2 _ _
  have HX : Hid (RN (w2.alloc (.cells (opC ⟨xk, xt, (xx, xn, xu), xc, xA⟩ (.slice pX xA.length cX)) 26)) (.slice pX xA.length cX) xA) := (own_RN o1).below ba
  obtain ⟨q0, q1, q2, q3, q4, q5, q6⟩ := X1.below d3
  obtain ⟨r0, r1, r2, r3, r4, r5, r6⟩ := X2.below d3
  simp only [opC] at q0 q1 q2 q3 q4 q5 q6 r0 r1 r2 r3 r4 r5 r6 d3 ba
  have cK := HJ.out.2 _ d3 (HR.out.2.1.below d3) (HR.out.2.2.below d3)
  clear o1 h2 d1 b1 d2
  go_wp2_with fail
  refine cK.mono ?_; rintro r w4 ⟨s2, rfl, o2, h4⟩
  obtain ⟨pY, cY, hs⟩ := own_slice o2
  obtain rfl : s2 = .slice pY yA.length cY := hs
  have o2 : OwnA w4 _ (.slice pY yA.length cY) yA := o2
  clear cK q0 q1 q2 q3 q4 q5 q6 r0 r1 r2 r3 r4 r5 r6 ba
  have bb : Below w4.heap.size w4 (w4.alloc (.cells (opC ⟨yk, yt, (yx, yn, yu), yc, yA⟩ (.slice pY yA.length cY)) 26)) := (Below.refl _ _).alloc (Nat.le_refl _) _
  have d4 := d3.trans (h4.mono d3.size)
  have d5 := d4.trans (bb.mono d4.size)
  have b5 := b0.trans (d5.mono b0.size)
  clear Z3 HX bb d4 d5 d3 h4 o2 X0 X1 X2 HR HJ b0
  simp only [opC] at b5
  go_wp2
  go_ret
  exact ⟨rfl, b5⟩

set_option maxHeartbeats 4000000 in
set_option maxRecDepth 100000 in
theorem three_3 {ad : Nat → Addr} (a b c : Op5) (va vb vc : Value) (w : World) (X Y : Op5) (e1 e2 : Nat)
    (cL : Calls Tryd.prog 9 #[] (bxT w a b c va vb vc) fun e w' => e = .returned (.bool true) ∧ Below (bxT w a b c va vb vc).heap.size (bxT w a b c va vb vc) w')
    (ra : RN (bxT w a b c va vb vc) va a.A) (rb : RN (bxT w a b c va vb vc) vb b.A) (rc : RN (bxT w a b c va vb vc) vc c.A)
    (cJ : JC a va b vb (bxT w a b c va vb vc) X false .nilIface) (cK : JC b vb c vc (bxT w a b c va vb vc) Y false (errV ad e2)) :
    Calls Tryd.prog 7 #[opV a va, opV b vb, opV c vc] w fun r w' => r = .returned (.bool true) ∧ Below w.heap.size w w' := by
  have b0 := bxT_below w a b c va vb vc
  have X0 := bxT_0 w a b c va vb vc
  have X1 := bxT_1 w a b c va vb vc
  have X2 := bxT_2 w a b c va vb vc
  have HR : Hid (RN (bxT w a b c va vb vc) va a.A ∧ RN (bxT w a b c va vb vc) vb b.A ∧ RN (bxT w a b c va vb vc) vc c.A) := ⟨ra, rb, rc⟩
  have HJ : Hid (JC a va b vb (bxT w a b c va vb vc) X false .nilIface ∧ JC b vb c vc (bxT w a b c va vb vc) Y false (errV ad e2)) := ⟨cJ, cK⟩
  clear ra rb rc cJ cK
  obtain ⟨ak, at', ⟨ax, an, au⟩, ac, aA⟩ := a
  obtain ⟨bk, bt, ⟨bx, bn, bu⟩, bc, bA⟩ := b
  obtain ⟨ck, ct, ⟨cx, cn, cu⟩, cc, cA⟩ := c
  obtain ⟨xk, xt, ⟨xx, xn, xu⟩, xc, xA⟩ := X
  obtain ⟨yk, yt, ⟨yx, yn, yu⟩, yc, yA⟩ := Y
  obtain ⟨W0, hW0⟩ : ∃ W0, W0 = bxT w ⟨ak, at', (ax, an, au), ac, aA⟩ ⟨bk, bt, (bx, bn, bu), bc, bA⟩ ⟨ck, ct, (cx, cn, cu), cc, cA⟩ va vb vc := ⟨_, rfl⟩
  go_enter Tryd.func7, Tryd.ntmps7
  go_wp2_with fail
  rw [← hW0] at cL b0 X0 X1 X2 HR HJ
  refine (hW0 ▸ cL : Calls Tryd.prog 9 #[] (bxT w ⟨ak, at', (ax, an, au), ac, aA⟩ ⟨bk, bt, (bx, bn, bu), bc, bA⟩ ⟨ck, ct, (cx, cn, cu), cc, cA⟩ va vb vc) fun e w' => e = .returned (.bool true) ∧ Below W0.heap.size W0 w').mono ?_; rintro r w1 ⟨rfl, d1⟩
  have b1 := b0.trans (d1.mono b0.size)
  obtain ⟨p0, p1, p2, p3, p4, p5, p6⟩ := X0.below d1
  obtain ⟨q0, q1, q2, q3, q4, q5, q6⟩ := X1.below d1
  simp only at p0 p1 p2 p3 p4 p5 p6 q0 q1 q2 q3 q4 q5 q6
  clear cL hW0
  go_wp2_with fail
  refine (HJ.out.1 _ d1 (HR.out.1.below d1) (HR.out.2.1.below d1)).mono ?_; rintro r w2 ⟨s1, rfl, o1, h2⟩
  obtain ⟨pX, cX, hs⟩ := own_slice o1
  obtain rfl : s1 = .slice pX xA.length cX := hs
  have o1 : OwnA w2 w1.heap.size (.slice pX xA.length cX) xA := o1
  clear p0 p1 p2 p3 p4 p5 p6 q0 q1 q2 q3 q4 q5 q6
  have ba : Below w2.heap.size w2 (w2.alloc (.cells (opC ⟨xk, xt, (xx, xn, xu), xc, xA⟩ (.slice pX xA.length cX)) 26)) := (Below.refl _ _).alloc (Nat.le_refl _) _
  have d2 := d1.trans (h2.mono d1.size)
  have d3 := d2.trans (ba.mono d2.size)
  have Z3 : BoxO (w2.alloc (.cells (opC ⟨xk, xt, (xx, xn, xu), xc, xA⟩ (.slice pX xA.length cX)) 26)) w2.heap.size ⟨xk, xt, (xx, xn, xu), xc, xA⟩ (.slice pX xA.length cX) := BoxO.new w2 _ _
  have HX : Hid (RN (w2.alloc (.cells (opC ⟨xk, xt, (xx, xn, xu), xc, xA⟩ (.slice pX xA.length cX)) 26)) (.slice pX xA.length cX) xA) := (own_RN o1).below ba
  obtain ⟨q0, q1, q2, q3, q4, q5, q6⟩ := X1.below d3
  obtain ⟨r0, r1, r2, r3, r4, r5, r6⟩ := X2.below d3
  simp only [opC] at q0 q1 q2 q3 q4 q5 q6 r0 r1 r2 r3 r4 r5 r6 d3 ba
  have cK := HJ.out.2 _ d3 (HR.out.2.1.below d3) (HR.out.2.2.below d3)
  clear o1 h2 d1 b1 d2
  go_wp2_with fail
  refine cK.mono ?_; rintro r w4 ⟨s2, rfl, o2, h4⟩
  obtain ⟨pY, cY, hs⟩ := own_slice o2
  obtain rfl : s2 = .slice pY yA.length cY := hs
  have o2 : OwnA w4 _ (.slice pY yA.length cY) yA := o2
  clear cK q0 q1 q2 q3 q4 q5 q6 r0 r1 r2 r3 r4 r5 r6 ba
  have bb : Below w4.heap.size w4 (w4.alloc (.cells (opC ⟨yk, yt, (yx, yn, yu), yc, yA⟩ (.slice pY yA.length cY)) 26)) := (Below.refl _ _).alloc (Nat.le_refl _) _
  have d4 := d3.trans (h4.mono d3.size)
  have d5 := d4.trans (bb.mono d4.size)
  have b5 := b0.trans (d5.mono b0.size)
  clear Z3 HX bb d4 d5 d3 h4 o2 X0 X1 X2 HR HJ b0
  simp only [opC] at b5
  go_wp2
  go_ret
  exact ⟨rfl, b5⟩

set_option maxHeartbeats 4000000 in
set_option maxRecDepth 100000 in
theorem three_4 {ad : Nat → Addr} (a b c : Op5) (va vb vc : Value) (w : World) (X Y : Op5) (e1 e2 : Nat)
    (cL : Calls Tryd.prog 9 #[] (bxT w a b c va vb vc) fun e w' => e = .returned (.bool true) ∧ Below (bxT w a b c va vb vc).heap.size (bxT w a b c va vb vc) w')
    (ra : RN (bxT w a b c va vb vc) va a.A) (rb : RN (bxT w a b c va vb vc) vb b.A) (rc : RN (bxT w a b c va vb vc) vc c.A)
    (cJ : JC a va b vb (bxT w a b c va vb vc) X true .nilIface) (cK : JC b vb c vc (bxT w a b c va vb vc) Y false (errV ad e2)) :
    Calls Tryd.prog 7 #[opV a va, opV b vb, opV c vc] w fun r w' => r = .returned (.bool true) ∧ Below w.heap.size w w' := by
  have b0 := bxT_below w a b c va vb vc
  have X0 := bxT_0 w a b c va vb vc
  have X1 := bxT_1 w a b c va vb vc
  have X2 := bxT_2 w a b c va vb vc
  have HR : Hid (RN (bxT w a b c va vb vc) va a.A ∧ RN (bxT w a b c va vb vc) vb b.A ∧ RN (bxT w a b c va vb vc) vc c.A) := ⟨ra, rb, rc⟩
  have HJ : Hid (JC a va b vb (bxT w a b c va vb vc) X true .nilIface ∧ JC b vb c vc (bxT w a b c va vb vc) Y false (errV ad e2)) := ⟨cJ, cK⟩
  clear ra rb rc cJ cK
  obtain ⟨ak, at', ⟨ax, an, au⟩, ac, aA⟩ := a
  obtain ⟨bk, bt, ⟨bx, bn, bu⟩, bc, bA⟩ := b
  obtain ⟨ck, ct, ⟨cx, cn, cu⟩, cc, cA⟩ := c
  obtain ⟨xk, xt, ⟨xx, xn, xu⟩, xc, xA⟩ := X
  obtain ⟨yk, yt, ⟨yx, yn, yu⟩, yc, yA⟩ := Y
  obtain ⟨W0, hW0⟩ : ∃ W0, W0 = bxT w ⟨ak, at', (ax, an, au), ac, aA⟩ ⟨bk, bt, (bx, bn, bu), bc, bA⟩ ⟨ck, ct, (cx, cn, cu), cc, cA⟩ va vb vc := ⟨_, rfl⟩
  go_enter Tryd.func7, Tryd.ntmps7
  go_wp2_with fail
  rw [← hW0] at cL b0 X0 X1 X2 HR HJ
  refine (hW0 ▸ cL : Calls Tryd.prog 9 #[] (bxT w ⟨ak, at', (ax, an, au), ac, aA⟩ ⟨bk, bt, (bx, bn, bu), bc, bA⟩ ⟨ck, ct, (cx, cn, cu), cc, cA⟩ va vb vc) fun e w' => e = .returned (.bool true) ∧ Below W0.heap.size W0 w').mono ?_; rintro r w1 ⟨rfl, d1⟩
  have b1 := b0.trans (d1.mono b0.size)
  obtain ⟨p0, p1, p2, p3, p4, p5, p6⟩ := X0.below d1
  obtain ⟨q0, q1, q2, q3, q4, q5, q6⟩ := X1.below d1
  simp only at p0 p1 p2 p3 p4 p5 p6 q0 q1 q2 q3 q4 q5 q6
  clear cL hW0
  go_wp2_with fail
  refine (HJ.out.1 _ d1 (HR.out.1.below d1) (HR.out.2.1.below d1)).mono ?_; rintro r w2 ⟨s1, rfl, o1, h2⟩
  obtain ⟨pX, cX, hs⟩ := own_slice o1
  obtain rfl : s1 = .slice pX xA.length cX := hs
  have o1 : OwnA w2 w1.heap.size (.slice pX xA.length cX) xA := o1
  clear p0 p1 p2 p3 p4 p5 p6 q0 q1 q2 q3 q4 q5 q6
  have ba : Below w2.heap.size w2 (w2.alloc (.cells (opC ⟨xk, xt, (xx, xn, xu), xc, xA⟩ (.slice pX xA.length cX)) 26)) := (Below.refl _ _).alloc (Nat.le_refl _) _
  have d2 := d1.trans (h2.mono d1.size)
  have d3 := d2.trans (ba.mono d2.size)
  have Z3 : BoxO (w2.alloc (.cells (opC ⟨xk, xt, (xx, xn, xu), xc, xA⟩ (.slice pX xA.length cX)) 26)) w2.heap.size ⟨xk, xt, (xx, xn, xu), xc, xA⟩ (.slice pX xA.length cX) := BoxO.new w2 _ _
  have HX : Hid (RN (w2.alloc (.cells (opC ⟨xk, xt, (xx, xn, xu), xc, xA⟩ (.slice pX xA.length cX)) 26)) (.slice pX xA.length cX) xA) := (own_RN o1).below ba
  obtain ⟨q0, q1, q2, q3, q4, q5, q6⟩ := X1.below d3
  obtain ⟨r0, r1, r2, r3, r4, r5, r6⟩ := X2.below d3
  simp only [opC] at q0 q1 q2 q3 q4 q5 q6 r0 r1 r2 r3 r4 r5 r6 d3 ba
  have cK := HJ.out.2 _ d3 (HR.out.2.1.below d3) (HR.out.2.2.below d3)
  clear o1 h2 d1 b1 d2
  go_wp2_with fail
  refine cK.mono ?_; rintro r w4 ⟨s2, rfl, o2, h4⟩
  obtain ⟨pY, cY, hs⟩ := own_slice o2
  obtain rfl : s2 = .slice pY yA.length cY := hs
  have o2 : OwnA w4 _ (.slice pY yA.length cY) yA := o2
  clear cK q0 q1 q2 q3 q4 q5 q6 r0 r1 r2 r3 r4 r5 r6 ba
  have bb : Below w4.heap.size w4 (w4.alloc (.cells (opC ⟨yk, yt, (yx, yn, yu), yc, yA⟩ (.slice pY yA.length cY)) 26)) := (Below.refl _ _).alloc (Nat.le_refl _) _
  have d4 := d3.trans (h4.mono d3.size)
  have d5 := d4.trans (bb.mono d4.size)
  have b5 := b0.trans (d5.mono b0.size)
  clear Z3 HX bb d4 d5 d3 h4 o2 X0 X1 X2 HR HJ b0
  simp only [opC] at b5
  go_wp2
  go_ret
  exact ⟨rfl, b5⟩

set_option maxHeartbeats 4000000 in
set_option maxRecDepth 100000 in
theorem three_5 {ad : Nat → Addr} (a b c : Op5) (va vb vc : Value) (w : World) (X Y : Op5) (e1 e2 : Nat)
    (cL : Calls Tryd.prog 9 #[] (bxT w a b c va vb vc) fun e w' => e = .returned (.bool true) ∧ Below (bxT w a b c va vb vc).heap.size (bxT w a b c va vb vc) w')
    (ra : RN (bxT w a b c va vb vc) va a.A) (rb : RN (bxT w a b c va vb vc) vb b.A) (rc : RN (bxT w a b c va vb vc) vc c.A)
    (cJ : JC a va b vb (bxT w a b c va vb vc) X false (errV ad e1)) (cK : JC b vb c vc (bxT w a b c va vb vc) Y false (errV ad e2)) :
    Calls Tryd.prog 7 #[opV a va, opV b vb, opV c vc] w fun r w' => r = .returned (.bool true) ∧ Below w.heap.size w w' := by
  have b0 := bxT_below w a b c va vb vc
  have X0 := bxT_0 w a b c va vb vc
  have X1 := bxT_1 w a b c va vb vc
  have X2 := bxT_2 w a b c va vb vc
  have HR : Hid (RN (bxT w a b c va vb vc) va a.A ∧ RN (bxT w a b c va vb vc) vb b.A ∧ RN (bxT w a b c va vb vc) vc c.A) := ⟨ra, rb, rc⟩
  have HJ : Hid (JC a va b vb (bxT w a b c va vb vc) X false (errV ad e1) ∧ JC b vb c vc (bxT w a b c va vb vc) Y false (errV ad e2)) := ⟨cJ, cK⟩
  clear ra rb rc cJ cK
  obtain ⟨ak, at', ⟨ax, an, au⟩, ac, aA⟩ := a
  obtain ⟨bk, bt, ⟨bx, bn, bu⟩, bc, bA⟩ := b
  obtain ⟨ck, ct, ⟨cx, cn, cu⟩, cc, cA⟩ := c
  obtain ⟨xk, xt, ⟨xx, xn, xu⟩, xc, xA⟩ := X
  obtain ⟨yk, yt, ⟨yx, yn, yu⟩, yc, yA⟩ := Y
  obtain ⟨W0, hW0⟩ : ∃ W0, W0 = bxT w ⟨ak, at', (ax, an, au), ac, aA⟩ ⟨bk, bt, (bx, bn, bu), bc, bA⟩ ⟨ck, ct, (cx, cn, cu), cc, cA⟩ va vb vc := ⟨_, rfl⟩
  go_enter Tryd.func7, Tryd.ntmps7
  go_wp2_with fail
  rw [← hW0] at cL b0 X0 X1 X2 HR HJ
  refine (hW0 ▸ cL : Calls Tryd.prog 9 #[] (bxT w ⟨ak, at', (ax, an, au), ac, aA⟩ ⟨bk, bt, (bx, bn, bu), bc, bA⟩ ⟨ck, ct, (cx, cn, cu), cc, cA⟩ va vb vc) fun e w' => e = .returned (.bool true) ∧ Below W0.heap.size W0 w').mono ?_; rintro r w1 ⟨rfl, d1⟩
  have b1 := b0.trans (d1.mono b0.size)
  obtain ⟨p0, p1, p2, p3, p4, p5, p6⟩ := X0.below d1
  obtain ⟨q0, q1, q2, q3, q4, q5, q6⟩ := X1.below d1
  simp only at p0 p1 p2 p3 p4 p5 p6 q0 q1 q2 q3 q4 q5 q6
  clear cL hW0
  go_wp2_with fail
  refine (HJ.out.1 _ d1 (HR.out.1.below d1) (HR.out.2.1.below d1)).mono ?_; rintro r w2 ⟨s1, rfl, o1, h2⟩
  obtain ⟨pX, cX, hs⟩ := own_slice o1
  obtain rfl : s1 = .slice pX xA.length cX := hs
  have o1 : OwnA w2 w1.heap.size (.slice pX xA.length cX) xA := o1
  clear p0 p1 p2 p3 p4 p5 p6 q0 q1 q2 q3 q4 q5 q6
  have ba : Below w2.heap.size w2 (w2.alloc (.cells (opC ⟨xk, xt, (xx, xn, xu), xc, xA⟩ (.slice pX xA.length cX)) 26)) := (Below.refl _ _).alloc (Nat.le_refl _) _
  have d2 := d1.trans (h2.mono d1.size)
  have d3 := d2.trans (ba.mono d2.size)
  have Z3 : BoxO (w2.alloc (.cells (opC ⟨xk, xt, (xx, xn, xu), xc, xA⟩ (.slice pX xA.length cX)) 26)) w2.heap.size ⟨xk, xt, (xx, xn, xu), xc, xA⟩ (.slice pX xA.length cX) := BoxO.new w2 _ _
  have HX : Hid (RN (w2.alloc (.cells (opC ⟨xk, xt, (xx, xn, xu), xc, xA⟩ (.slice pX xA.length cX)) 26)) (.slice pX xA.length cX) xA) := (own_RN o1).below ba
  obtain ⟨q0, q1, q2, q3, q4, q5, q6⟩ := X1.below d3
  obtain ⟨r0, r1, r2, r3, r4, r5, r6⟩ := X2.below d3
  simp only [opC] at q0 q1 q2 q3 q4 q5 q6 r0 r1 r2 r3 r4 r5 r6 d3 ba
  have cK := HJ.out.2 _ d3 (HR.out.2.1.below d3) (HR.out.2.2.below d3)
  clear o1 h2 d1 b1 d2
  go_wp2_with fail
  refine cK.mono ?_; rintro r w4 ⟨s2, rfl, o2, h4⟩
  obtain ⟨pY, cY, hs⟩ := own_slice o2
  obtain rfl : s2 = .slice pY yA.length cY := hs
  have o2 : OwnA w4 _ (.slice pY yA.length cY) yA := o2
  clear cK q0 q1 q2 q3 q4 q5 q6 r0 r1 r2 r3 r4 r5 r6 ba
  have bb : Below w4.heap.size w4 (w4.alloc (.cells (opC ⟨yk, yt, (yx, yn, yu), yc, yA⟩ (.slice pY yA.length cY)) 26)) := (Below.refl _ _).alloc (Nat.le_refl _) _
  have d4 := d3.trans (h4.mono d3.size)
  have d5 := d4.trans (bb.mono d4.size)
  have b5 := b0.trans (d5.mono b0.size)
  clear Z3 HX bb d4 d5 d3 h4 o2 X0 X1 X2 HR HJ b0
  simp only [opC] at b5
  go_wp2
  go_ret
  exact ⟨rfl, b5⟩

set_option maxHeartbeats 4000000 in
set_option maxRecDepth 100000 in
theorem three_6 {ad : Nat → Addr} (a b c : Op5) (va vb vc : Value) (w : World) (X Y : Op5) (e1 e2 : Nat) (B2 : Bool)
    (cL : Calls Tryd.prog 9 #[] (bxT w a b c va vb vc) fun e w' => e = .returned (.bool true) ∧ Below (bxT w a b c va vb vc).heap.size (bxT w a b c va vb vc) w')
    (ra : RN (bxT w a b c va vb vc) va a.A) (rb : RN (bxT w a b c va vb vc) vb b.A) (rc : RN (bxT w a b c va vb vc) vc c.A)
    (cJ : JC a va b vb (bxT w a b c va vb vc) X false .nilIface) (cK : JC b vb c vc (bxT w a b c va vb vc) Y B2 .nilIface) :
    Calls Tryd.prog 7 #[opV a va, opV b vb, opV c vc] w fun r w' => r = .returned (.bool true) ∧ Below w.heap.size w w' := by
  have b0 := bxT_below w a b c va vb vc
  have X0 := bxT_0 w a b c va vb vc
  have X1 := bxT_1 w a b c va vb vc
  have X2 := bxT_2 w a b c va vb vc
  have HR : Hid (RN (bxT w a b c va vb vc) va a.A ∧ RN (bxT w a b c va vb vc) vb b.A ∧ RN (bxT w a b c va vb vc) vc c.A) := ⟨ra, rb, rc⟩
  have HJ : Hid (JC a va b vb (bxT w a b c va vb vc) X false .nilIface ∧ JC b vb c vc (bxT w a b c va vb vc) Y B2 .nilIface) := ⟨cJ, cK⟩
  clear ra rb rc cJ cK
  obtain ⟨ak, at', ⟨ax, an, au⟩, ac, aA⟩ := a
  obtain ⟨bk, bt, ⟨bx, bn, bu⟩, bc, bA⟩ := b
  obtain ⟨ck, ct, ⟨cx, cn, cu⟩, cc, cA⟩ := c
  obtain ⟨xk, xt, ⟨xx, xn, xu⟩, xc, xA⟩ := X
  obtain ⟨yk, yt, ⟨yx, yn, yu⟩, yc, yA⟩ := Y
  obtain ⟨W0, hW0⟩ : ∃ W0, W0 = bxT w ⟨ak, at', (ax, an, au), ac, aA⟩ ⟨bk, bt, (bx, bn, bu), bc, bA⟩ ⟨ck, ct, (cx, cn, cu), cc, cA⟩ va vb vc := ⟨_, rfl⟩
  go_enter Tryd.func7, Tryd.ntmps7
  go_wp2_with fail
  rw [← hW0] at cL b0 X0 X1 X2 HR HJ
  refine (hW0 ▸ cL : Calls Tryd.prog 9 #[] (bxT w ⟨ak, at', (ax, an, au), ac, aA⟩ ⟨bk, bt, (bx, bn, bu), bc, bA⟩ ⟨ck, ct, (cx, cn, cu), cc, cA⟩ va vb vc) fun e w' => e = .returned (.bool true) ∧ Below W0.heap.size W0 w').mono ?_; rintro r w1 ⟨rfl, d1⟩
  have b1 := b0.trans (d1.mono b0.size)
  obtain ⟨p0, p1, p2, p3, p4, p5, p6⟩ := X0.below d1
  obtain ⟨q0, q1, q2, q3, q4, q5, q6⟩ := X1.below d1
  simp only at p0 p1 p2 p3 p4 p5 p6 q0 q1 q2 q3 q4 q5 q6
  clear cL hW0
  go_wp2_with fail
  refine (HJ.out.1 _ d1 (HR.out.1.below d1) (HR.out.2.1.below d1)).mono ?_; rintro r w2 ⟨s1, rfl, o1, h2⟩
  obtain ⟨pX, cX, hs⟩ := own_slice o1
  obtain rfl : s1 = .slice pX xA.length cX := hs
  have o1 : OwnA w2 w1.heap.size (.slice pX xA.length cX) xA := o1
  clear p0 p1 p2 p3 p4 p5 p6 q0 q1 q2 q3 q4 q5 q6
  have ba : Below w2.heap.size w2 (w2.alloc (.cells (opC ⟨xk, xt, (xx, xn, xu), xc, xA⟩ (.slice pX xA.length cX)) 26)) := (Below.refl _ _).alloc (Nat.le_refl _) _
  have d2 := d1.trans (h2.mono d1.size)
  have d3 := d2.trans (ba.mono d2.size)
  have Z3 : BoxO (w2.alloc (.cells (opC ⟨xk, xt, (xx, xn, xu), xc, xA⟩ (.slice pX xA.length cX)) 26)) w2.heap.size ⟨xk, xt, (xx, xn, xu), xc, xA⟩ (.slice pX xA.length cX) := BoxO.new w2 _ _
  have HX : Hid (RN (w2.alloc (.cells (opC ⟨xk, xt, (xx, xn, xu), xc, xA⟩ (.slice pX xA.length cX)) 26)) (.slice pX xA.length cX) xA) := (own_RN o1).below ba
  obtain ⟨q0, q1, q2, q3, q4, q5, q6⟩ := X1.below d3
  obtain ⟨r0, r1, r2, r3, r4, r5, r6⟩ := X2.below d3
  simp only [opC] at q0 q1 q2 q3 q4 q5 q6 r0 r1 r2 r3 r4 r5 r6 d3 ba
  have cK := HJ.out.2 _ d3 (HR.out.2.1.below d3) (HR.out.2.2.below d3)
  clear o1 h2 d1 b1 d2
  go_wp2_with fail
  refine cK.mono ?_; rintro r w4 ⟨s2, rfl, o2, h4⟩
  obtain ⟨pY, cY, hs⟩ := own_slice o2
  obtain rfl : s2 = .slice pY yA.length cY := hs
  have o2 : OwnA w4 _ (.slice pY yA.length cY) yA := o2
  clear cK q0 q1 q2 q3 q4 q5 q6 r0 r1 r2 r3 r4 r5 r6 ba
  have bb : Below w4.heap.size w4 (w4.alloc (.cells (opC ⟨yk, yt, (yx, yn, yu), yc, yA⟩ (.slice pY yA.length cY)) 26)) := (Below.refl _ _).alloc (Nat.le_refl _) _
  have d4 := d3.trans (h4.mono d3.size)
  have d5 := d4.trans (bb.mono d4.size)
  have b5 := b0.trans (d5.mono b0.size)
  clear Z3 HX bb d4 d5 d3 h4 o2 X0 X1 X2 HR HJ b0
  simp only [opC] at b5
  go_wp2
  go_ret
  exact ⟨rfl, b5⟩
end Go.Proofs.YtecmdlecfddeeaaDoor
