/- Of all operations vellumlaw04.ContentJoins answers true: the walk. -/
import Derived.Test.YtecmdlecfddeeaaDoorCr
import Derived.Test.YtecmdlecfddeeaaDoorSb
import Derived.Test.YtecmdlecfddeeaaDoorKp
import Derived.Test.YtecmdlecfddeeaaDoorSpl
import Derived.Deep.DeepCutAuto
namespace Go.Proofs.YtecmdlecfddeeaaDoor
open Go Go.RowKit Go.Lib
set_option linter.unusedVariables false

abbrev bx2 (w : World) (a b : Op5) (va vb : Value) : World := (w.alloc (.cells (opC a va) 26)).alloc (.cells (opC b vb) 26)
theorem bx2_below (w : World) (a b : Op5) (va vb : Value) : Below w.heap.size w (bx2 w a b va vb) := ((Below.refl w.heap.size w).alloc (Nat.le_refl _) _).alloc (by simp) _
theorem bx2_0 (w : World) (a b : Op5) (va vb : Value) : BoxO (bx2 w a b va vb) w.heap.size a va := (BoxO.new w a va).below ((Below.refl _ _).alloc (Nat.le_refl _) _)
theorem bx2_1 (w : World) (a b : Op5) (va vb : Value) : BoxO (bx2 w a b va vb) (w.heap.size + 1) b vb := by
  have h1 := BoxO.new (w.alloc (.cells (opC a va) 26)) b vb
  rw [World.size_alloc] at h1
  exact h1
/-- Two operations laid one behind the other. -/
theorem re_two (w : World) (a b : Op5) (pa pb : Sl) (ra : RN w (slV pa) a.A) (rb : RN w (slV pb) b.A) :
    ReO (w.alloc (.cells #[.int .i64 a.k, .string a.t, .int .i64 a.v.1, .int .i64 a.v.2.1, .string a.v.2.2, .int .i64 a.c, slV pa, .int .i64 b.k, .string b.t, .int .i64 b.v.1, .int .i64 b.v.2.1, .string b.v.2.2, .int .i64 b.c, slV pb] 26)) (.slice (some ⟨w.heap.size, 0, none⟩) 2 2) [a, b] := by
  have bb : ∀ o, Below w.heap.size w (w.alloc o) := fun o => (Below.refl _ _).alloc (Nat.le_refl _) o
  refine ⟨[(a.k, a.t, a.v, a.c, pa), (b.k, b.t, b.v, b.c, pb)], ⟨_, _, rfl, Nat.le_refl _, fun h => (by cases h), fun j d hd => ⟨_, _, rfl, ?_⟩⟩, .cons ⟨rfl, rfl, rfl, rfl, ra.below (bb _)⟩ (.cons ⟨rfl, rfl, rfl, rfl, rb.below (bb _)⟩ .nil)⟩
  match j, hd with
  | 0, hd => simp at hd; subst hd; exact ⟨by simp, by simp, by simp, by simp, by simp, by simp, by simp⟩
  | 1, hd => simp at hd; subst hd; exact ⟨by simp, by simp, by simp, by simp, by simp, by simp, by simp⟩
  | j + 2, hd => simp at hd
/-- What Copy made of two. -/
theorem spO_two {w : World} {lo hi : Nat} {v : Value} {a b : Op5} (h : SpO w lo hi v [a, b]) :
    ∃ g c s0 s1, v = .slice (some ⟨g, 0, none⟩) 2 c ∧ lo ≤ g ∧ g < hi ∧ 2 ≤ c ∧ OpAt w g 0 (a.k, a.t, a.v, a.c, s0) ∧ OpAt w g 7 (b.k, b.t, b.v, b.c, s1) ∧ SpA w lo hi s0 a.A ∧ SpA w lo hi s1 b.A := by
  obtain ⟨g, c, D, rfl, h2, h3, h4, h5, h6⟩ := h
  match D, h6 with
  | _, .cons (a := d0) r0 (.cons (a := d1) r1 .nil) =>
    obtain ⟨k0, t0, v0, c0, s0⟩ := d0
    obtain ⟨k1, t1, v1, c1, s1⟩ := d1
    obtain ⟨rfl, rfl, rfl, rfl, q0⟩ := r0
    obtain ⟨rfl, rfl, rfl, rfl, q1⟩ := r1
    have hc : 2 ≤ c := by
      obtain ⟨p, c', he, hc, _, _⟩ := own_rowO h5
      simp only [Value.slice.injEq] at he
      obtain ⟨-, -, rfl⟩ := he
      simp at hc
      omega
    have o0 := own_opAt h5 0 _ rfl
    have o1 := own_opAt h5 1 _ rfl
    exact ⟨g, c, s0, s1, rfl, h2, h3, hc, o0, o1, q0, q1⟩

/-- What Join answers of two, from a world on. -/
def JD (o : Op5) (s : Value) (o' : Op5) (s' : Value) (W0 : World) (X : Op5) (B : Bool) (E : Value) : Prop :=
  ∀ W, Below W0.heap.size W0 W → RN W s o.A → RN W s' o'.A → Calls Tryd.prog 26 #[opV o s, opV o' s'] W fun r w' => ∃ s1, r = .returned (.tuple #[opV X s1, .bool B, E]) ∧ OwnA w' W.heap.size s1 X.A ∧ Below W.heap.size W w'
/-- What Copy answers, from a world on. -/
def PC (E : List Op5) : Prop := ∀ W v, ReO W v E → Calls Tryd.prog 11 #[v] W fun r w' => ∃ v', r = .returned v' ∧ SpO w' W.heap.size w'.heap.size v' E ∧ Below W.heap.size W w'

theorem BoxO.out {w w' : World} {lo hi B : Nat} {o : Op5} {s : Value} (h : BoxO w B o s) (u : Out lo hi w w') (hB : hi ≤ B) : BoxO w' B o s := by
  have e : ∀ i, w'.cell? ⟨B, i, none⟩ = w.cell? ⟨B, i, none⟩ := fun i => World.cell?_of_block (a := ⟨B, i, none⟩) (u.block B (lt_of_cell h.d0) (Or.inr hB))
  exact ⟨(e _).trans h.d0, (e _).trans h.d1, (e _).trans h.d2, (e _).trans h.d3, (e _).trans h.d4, (e _).trans h.d5, (e _).trans h.d6⟩
theorem BoxO.stored {w : World} {B : Nat} {o : Op5} {s : Value} (h : BoxO w B o s) (o' : Op5) (s' : Value) :
    BoxO (((((((w.setCell ⟨B, 0, none⟩ (.int .i64 o'.k)).setCell ⟨B, 1, none⟩ (.string o'.t)).setCell ⟨B, 2, none⟩ (.int .i64 o'.v.1)).setCell ⟨B, 3, none⟩ (.int .i64 o'.v.2.1)).setCell ⟨B, 4, none⟩ (.string o'.v.2.2)).setCell ⟨B, 5, none⟩ (.int .i64 o'.c)).setCell ⟨B, 6, none⟩ s') B o' s' := by
  have hs : ∀ (W : World) (i : Nat) (v : Value), (W.cell? ⟨B, i, none⟩).isSome = true → (W.setCell ⟨B, i, none⟩ v).cell? ⟨B, i, none⟩ = some v := fun W i v hi => World.cell?_setCell_same' _ _ _ hi
  have ho : ∀ (W : World) (i j : Nat) (v : Value), i ≠ j → (W.setCell ⟨B, j, none⟩ v).cell? ⟨B, i, none⟩ = W.cell? ⟨B, i, none⟩ := fun W i j v hij => World.cell?_setCell_other _ _ _ _ (fun e => by cases e; exact hij rfl)
  obtain ⟨d0, d1, d2, d3, d4, d5, d6⟩ := h
  refine ⟨?_, ?_, ?_, ?_, ?_, ?_, ?_⟩
  · rw [ho _ 0 6 _ (by decide), ho _ 0 5 _ (by decide), ho _ 0 4 _ (by decide), ho _ 0 3 _ (by decide), ho _ 0 2 _ (by decide), ho _ 0 1 _ (by decide)]; exact hs _ _ _ (by rw [d0]; rfl)
  · rw [ho _ 1 6 _ (by decide), ho _ 1 5 _ (by decide), ho _ 1 4 _ (by decide), ho _ 1 3 _ (by decide), ho _ 1 2 _ (by decide)]; exact hs _ _ _ (by rw [ho _ 1 0 _ (by decide), d1]; rfl)
  · rw [ho _ 2 6 _ (by decide), ho _ 2 5 _ (by decide), ho _ 2 4 _ (by decide), ho _ 2 3 _ (by decide)]; exact hs _ _ _ (by rw [ho _ 2 1 _ (by decide), ho _ 2 0 _ (by decide), d2]; rfl)
  · rw [ho _ 3 6 _ (by decide), ho _ 3 5 _ (by decide), ho _ 3 4 _ (by decide)]; exact hs _ _ _ (by rw [ho _ 3 2 _ (by decide), ho _ 3 1 _ (by decide), ho _ 3 0 _ (by decide), d3]; rfl)
  · rw [ho _ 4 6 _ (by decide), ho _ 4 5 _ (by decide)]; exact hs _ _ _ (by rw [ho _ 4 3 _ (by decide), ho _ 4 2 _ (by decide), ho _ 4 1 _ (by decide), ho _ 4 0 _ (by decide), d4]; rfl)
  · rw [ho _ 5 6 _ (by decide)]; exact hs _ _ _ (by rw [ho _ 5 4 _ (by decide), ho _ 5 3 _ (by decide), ho _ 5 2 _ (by decide), ho _ 5 1 _ (by decide), ho _ 5 0 _ (by decide), d5]; rfl)
  · exact hs _ _ _ (by rw [ho _ 6 5 _ (by decide), ho _ 6 4 _ (by decide), ho _ 6 3 _ (by decide), ho _ 6 2 _ (by decide), ho _ 6 1 _ (by decide), ho _ 6 0 _ (by decide), d6]; rfl)
set_option maxHeartbeats 400000 in
theorem zero_any (o : Op5) (s : Value) (w : World) (hR : RN w s o.A) (hl : o.A.length ≤ 4194304) :
    Calls Tryd.prog 29 #[opV o s] w fun r w' => r = .returned (.bool (decide (o = opZ))) ∧ Below w.heap.size w w' := by
  have b0 := (Below.refl w.heap.size w).alloc (Nat.le_refl _) (.cells (opC o s) 26)
  have c := from_below b0 (sameR_any o opZ s nilS _ (hR.below b0).row (RowA.nil _ _ _) hl (by simp))
  obtain ⟨p, l, k, rfl⟩ : ∃ p l c, s = .slice p l c := by obtain ⟨p, c, h, _⟩ := hR.row.val; exact ⟨_, _, _, h⟩
  generalize decide (o = opZ) = R at c ⊢
  clear hR hl
  obtain ⟨k, t, ⟨x, n, u⟩, c', A⟩ := o
  simp only [opC] at c b0
  go_enter Tryd.func29, Tryd.ntmps29
  go_wp2_with fail
  refine c.mono ?_; rintro r w2 ⟨rfl, hb2⟩
  go_wp2
  go_ret
  exact ⟨rfl, hb2⟩

/-- What stands of a copy of two, from its making on. -/
structure Mine2 (W0 : World) (lo hi : Nat) (v : Value) (a b : Op5) (s0 s1 : Sl) (w : World) : Prop where
  le : W0.heap.size ≤ hi
  b0 : Below W0.heap.size W0 w
  hz : hi ≤ w.heap.size
  sp : SpO w lo hi v [a, b]
  sa : SpA w lo hi s0 a.A
  sb : SpA w lo hi s1 b.A
theorem SpO.upto {w w' : World} {lo hi : Nat} {v : Value} {E : List Op5} (h : SpO w lo hi v E) (b : Below hi w w') : SpO w' lo hi v E := by
  obtain ⟨g, c, D, h1, h2, h3, h4, h5, h6⟩ := h
  exact ⟨g, c, D, h1, h2, h3, h4, owns_same h5 fun k hk => b.block k (by simp only [Value.ownBlock, Option.some.injEq] at hk; omega), h6.upto b (Nat.le_refl _)⟩
theorem Mine2.upto {W0 w w' : World} {lo hi : Nat} {v : Value} {a b : Op5} {s0 s1 : Sl} (h : Mine2 W0 lo hi v a b s0 s1 w) (hb : Below hi w w') : Mine2 W0 lo hi v a b s0 s1 w' :=
  ⟨h.le, h.b0.trans (hb.mono h.le), Nat.le_trans h.hz hb.size, h.sp.upto hb, h.sa.upto hb (Nat.le_refl _), h.sb.upto hb (Nat.le_refl _)⟩

set_option maxHeartbeats 4000000 in
set_option maxRecDepth 100000 in
theorem joins_1 {ad : Nat → Addr} (a b : Op5) (va vb : Value) (w : World) (X : Op5) (B : Bool) (e : Nat)
    (cL : Calls Tryd.prog 9 #[] (bx2 w a b va vb) fun e w' => e = .returned (.bool true) ∧ Below (bx2 w a b va vb).heap.size (bx2 w a b va vb) w')
    (ra : RN (bx2 w a b va vb) va a.A) (rb : RN (bx2 w a b va vb) vb b.A) (cP : PC [a, b])
    (cJ : ∀ s s', JD a s b s' (bx2 w a b va vb) X B (errOf ad e)) (hX : X.A.length ≤ 4194304) (hXB : B = false → X = opZ)
    (cRJ : ∀ W, Below (bx2 w a b va vb).heap.size (bx2 w a b va vb) W → Calls Tryd.prog 27 #[opV a va, opV b vb] W fun r w' => ∃ s1, r = .returned (.tuple #[opV X s1, .bool B, .int .i64 e]) ∧ OwnA w' W.heap.size s1 X.A ∧ Below W.heap.size W w')
    (cN : ∀ W, Below (bx2 w a b va vb).heap.size (bx2 w a b va vb) W → Calls Tryd.prog 16 #[errOf ad e] W fun r w' => r = .returned (.int .i64 e) ∧ Below W.heap.size W w') (hla : a.A.length ≤ 1048576) (hlb : b.A.length ≤ 1048576) :
    Calls Tryd.prog 5 #[opV a va, opV b vb] w fun r w' => r = .returned (.bool true) ∧ Below w.heap.size w w' := by
  have b0 := bx2_below w a b va vb
  have X0 := bx2_0 w a b va vb
  have X1 := bx2_1 w a b va vb
  obtain ⟨pa, la, ca, rfl⟩ : ∃ p l c, va = .slice p l c := by obtain ⟨p, c, h, _⟩ := ra.row.val; exact ⟨_, _, _, h⟩
  obtain ⟨pb, lb, cb, rfl⟩ : ∃ p l c, vb = .slice p l c := by obtain ⟨p, c, h, _⟩ := rb.row.val; exact ⟨_, _, _, h⟩
  have HR : Hid (RN (bx2 w a b (.slice pa la ca) (.slice pb lb cb)) (.slice pa la ca) a.A ∧ RN (bx2 w a b (.slice pa la ca) (.slice pb lb cb)) (.slice pb lb cb) b.A) := ⟨ra, rb⟩
  have HP : Hid (PC [a, b]) := cP
  have HJ : Hid (∀ s s', JD a s b s' (bx2 w a b (.slice pa la ca) (.slice pb lb cb)) X B (errOf ad e)) := cJ
  have HRJ : Hid (∀ W, Below (bx2 w a b (.slice pa la ca) (.slice pb lb cb)).heap.size (bx2 w a b (.slice pa la ca) (.slice pb lb cb)) W → Calls Tryd.prog 27 #[opV a (.slice pa la ca), opV b (.slice pb lb cb)] W fun r w' => ∃ s1, r = .returned (.tuple #[opV X s1, .bool B, .int .i64 e]) ∧ OwnA w' W.heap.size s1 X.A ∧ Below W.heap.size W w') := cRJ
  have HN : Hid (∀ W, Below (bx2 w a b (.slice pa la ca) (.slice pb lb cb)).heap.size (bx2 w a b (.slice pa la ca) (.slice pb lb cb)) W → Calls Tryd.prog 16 #[errOf ad e] W fun r w' => r = .returned (.int .i64 e) ∧ Below W.heap.size W w') := cN
  obtain ⟨R, hR⟩ : ∃ R, decide (a = b) = R := ⟨_, rfl⟩
  have HSc : Hid (∀ W s s', RN W s a.A → RN W s' b.A → Calls Tryd.prog 28 #[opV a s, opV b s'] W fun r w' => r = .returned (.bool R) ∧ Below W.heap.size W w') := fun W s s' h h' => by
    have := sameC_any a b s s' W h.row h'.row (by omega) (by omega)
    rwa [hR] at this
  have HSr : Hid (∀ W s s', RN W s a.A → RN W s' b.A → Calls Tryd.prog 25 #[opV a s, opV b s'] W fun r w' => r = .returned (.bool R) ∧ Below W.heap.size W w') := fun W s s' h h' => by
    have := sameR_any a b s s' W h.row h'.row (by omega) (by omega)
    rwa [hR] at this
  have HSb : Hid (∀ W s s', RN W s b.A → RN W s' a.A → Calls Tryd.prog 28 #[opV b s, opV a s'] W fun r w' => r = .returned (.bool R) ∧ Below W.heap.size W w') := fun W s s' h h' => by
    have := sameC_any b a s s' W h.row h'.row (by omega) (by omega)
    rwa [show decide (b = a) = R by rw [← hR]; exact decide_eq_decide.2 ⟨Eq.symm, Eq.symm⟩] at this
  have HSa : Hid (∀ W s s', RN W s a.A → RN W s' a.A → Calls Tryd.prog 28 #[opV a s, opV a s'] W fun r w' => r = .returned (.bool true) ∧ Below W.heap.size W w') := fun W s s' h h' => by
    have := sameC_any a a s s' W h.row h'.row (by omega) (by omega)
    rwa [decide_eq_true rfl] at this
  have HSX : Hid (∀ W s s', RN W s X.A → RN W s' X.A → Calls Tryd.prog 25 #[opV X s, opV X s'] W fun r w' => r = .returned (.bool true) ∧ Below W.heap.size W w') := fun W s s' h h' => by
    have := sameR_any X X s s' W h.row h'.row (by omega) (by omega)
    rwa [decide_eq_true rfl] at this
  have HZX : Hid (∀ W s, B = false → RN W s X.A → Calls Tryd.prog 29 #[opV X s] W fun r w' => r = .returned (.bool true) ∧ Below W.heap.size W w') := fun W s hb h => by
    have := zero_any X s W h hX
    rwa [decide_eq_true (hXB hb)] at this
  have HKp : Hid (∀ W lo hi v v', SpO W lo hi v [a, b] → ReO W v' [a, b] → Calls Tryd.prog 17 #[v, v'] W fun r w' => r = .returned (.bool true) ∧ Below W.heap.size W w') := fun W lo hi v v' h h' => keptO_any v v' [a, b] lo hi W h h' (by simp) (fun e he => by simp at he; rcases he with rfl | rfl <;> omega)
  have HSp : Hid (∀ W lo hi v, SpO W lo hi v [a, b] → Calls Tryd.prog 22 #[v] W fun r w' => r = .returned (.tuple #[]) ∧ Out lo hi W w') := fun W lo hi v h => spoil_any v [a, b] lo hi W h (by simp) (fun e he => by simp at he; rcases he with rfl | rfl <;> omega)
  clear ra rb cP cJ cRJ cN hR hX hXB hla hlb
  obtain ⟨ak, at', ⟨ax, an, au⟩, ac, aA⟩ := a
  obtain ⟨bk, bt, ⟨bx, bn, bu⟩, bc, bA⟩ := b
  obtain ⟨xk, xt, ⟨xx, xn, xu⟩, xc, xA⟩ := X
  obtain ⟨W0, hW0⟩ : ∃ W0, W0 = bx2 w ⟨ak, at', (ax, an, au), ac, aA⟩ ⟨bk, bt, (bx, bn, bu), bc, bA⟩ (.slice pa la ca) (.slice pb lb cb) := ⟨_, rfl⟩
  obtain ⟨E, hE⟩ : ∃ E, errOf ad e = E := ⟨_, rfl⟩
  rw [hE] at HJ HN
  go_enter Tryd.func5, Tryd.ntmps5
  go_wp2_with fail
  rw [← hW0] at cL b0 X0 X1 HR HJ HRJ HN
  refine (hW0 ▸ cL : Calls Tryd.prog 9 #[] (bx2 w ⟨ak, at', (ax, an, au), ac, aA⟩ ⟨bk, bt, (bx, bn, bu), bc, bA⟩ (.slice pa la ca) (.slice pb lb cb)) fun e w' => e = .returned (.bool true) ∧ Below W0.heap.size W0 w').mono ?_; rintro r w1 ⟨rfl, d1⟩
  obtain ⟨p0, p1, p2, p3, p4, p5, p6⟩ := X0.below d1
  obtain ⟨q0, q1, q2, q3, q4, q5, q6⟩ := X1.below d1
  simp only at p0 p1 p2 p3 p4 p5 p6 q0 q1 q2 q3 q4 q5 q6
  have re := re_two w1 ⟨ak, at', (ax, an, au), ac, aA⟩ ⟨bk, bt, (bx, bn, bu), bc, bA⟩ (pa, la, ca) (pb, lb, cb) (HR.out.1.below d1) (HR.out.2.below d1)
  have cp := HP.out _ _ re
  have ba : ∀ o, Below w1.heap.size w1 (w1.alloc o) := fun o => (Below.refl _ _).alloc (Nat.le_refl _) o
  simp only [slV] at cp
  clear cL hW0 re
  go_wp2_with fail
  refine cp.mono ?_; rintro r w3 ⟨v5, rfl, sp, h3⟩
  have d3 := d1.trans (((ba _).trans (h3.mono (ba _).size)).mono d1.size)
  have hlo : W0.heap.size ≤ (w1.alloc (.cells #[.int .i64 ak, .string at', .int .i64 ax, .int .i64 an, .string au, .int .i64 ac, .slice pa la ca, .int .i64 bk, .string bt, .int .i64 bx, .int .i64 bn, .string bu, .int .i64 bc, .slice pb lb cb] 26)).heap.size := by have := d1.size; simp; omega
  obtain ⟨lo, hlo'⟩ : ∃ lo, (w1.alloc (.cells #[.int .i64 ak, .string at', .int .i64 ax, .int .i64 an, .string au, .int .i64 ac, .slice pa la ca, .int .i64 bk, .string bt, .int .i64 bx, .int .i64 bn, .string bu, .int .i64 bc, .slice pb lb cb] 26)).heap.size = lo := ⟨_, rfl⟩
  rw [hlo'] at sp hlo
  clear cp h3 ba hlo' d1 p0 p1 p2 p3 p4 p5 p6 q0 q1 q2 q3 q4 q5 q6
  obtain ⟨g, c5, s0, s1, rfl, hg1, hg2, hc5, om0, om1, rm0, rm1⟩ := spO_two sp
  obtain ⟨m0p, m0l, m0c⟩ := s0
  obtain ⟨m1p, m1l, m1c⟩ := s1
  have hz3 : W0.heap.size ≤ w3.heap.size := d3.size
  have HK : Mine2 W0 lo w3.heap.size (.slice (some ⟨g, 0, none⟩) 2 c5) ⟨ak, at', (ax, an, au), ac, aA⟩ ⟨bk, bt, (bx, bn, bu), bc, bA⟩ (m0p, m0l, m0c) (m1p, m1l, m1c) w3 := ⟨hz3, d3, Nat.le_refl _, sp, rm0, rm1⟩
  obtain ⟨p0, p1, p2, p3, p4, p5, p6⟩ := om0
  obtain ⟨q0, q1, q2, q3, q4, q5, q6⟩ := om1
  simp only [slV, Nat.zero_add, Nat.reduceAdd] at p0 p1 p2 p3 p4 p5 p6 q0 q1 q2 q3 q4 q5 q6
  obtain ⟨K, hK⟩ : ∃ K : World → Prop, K = Mine2 W0 lo w3.heap.size (.slice (some ⟨g, 0, none⟩) 2 c5) ⟨ak, at', (ax, an, au), ac, aA⟩ ⟨bk, bt, (bx, bn, bu), bc, bA⟩ (m0p, m0l, m0c) (m1p, m1l, m1c) := ⟨_, rfl⟩
  rw [← hK] at HK
  have Kb : ∀ W W', Below w3.heap.size W W' → K W → K W' := fun W W' hb h => by rw [hK] at h ⊢; exact h.upto hb
  have Kz : ∀ W, K W → w3.heap.size ≤ W.heap.size := fun W h => by rw [hK] at h; exact h.hz
  have Kd : ∀ W, K W → K W.drew := fun W h => Kb _ _ (Below.refl _ _).drew h
  have Ka : ∀ W o, K W → K (W.alloc o) := fun W o h => Kb _ _ ((Below.refl _ _).alloc (Kz W h) o) h
  have Kc : Hid (∀ W, K W → Below W0.heap.size W0 W ∧ RN W (.slice m0p m0l m0c) aA ∧ RN W (.slice m1p m1l m1c) bA ∧ SpO W lo w3.heap.size (.slice (some ⟨g, 0, none⟩) 2 c5) [⟨ak, at', (ax, an, au), ac, aA⟩, ⟨bk, bt, (bx, bn, bu), bc, bA⟩]) := fun W h => by rw [hK] at h; exact ⟨h.b0, h.sa.RN, h.sb.RN, h.sp⟩
  have cJ := fun W (h : K W) => HJ.out (.slice m0p m0l m0c) (.slice m1p m1l m1c) W (Kc.out W h).1 (Kc.out W h).2.1 (Kc.out W h).2.2.1
  have HU : Hid (∀ w', Below w3.heap.size w3 w' → (w'.cell? ⟨g, 0, none⟩ = some (.int .i64 ak) ∧ w'.cell? ⟨g, 1, none⟩ = some (.string at') ∧ w'.cell? ⟨g, 2, none⟩ = some (.int .i64 ax) ∧ w'.cell? ⟨g, 3, none⟩ = some (.int .i64 an) ∧ w'.cell? ⟨g, 4, none⟩ = some (.string au) ∧ w'.cell? ⟨g, 5, none⟩ = some (.int .i64 ac) ∧ w'.cell? ⟨g, 6, none⟩ = some (.slice m0p m0l m0c) ∧ w'.cell? ⟨g, 7, none⟩ = some (.int .i64 bk) ∧ w'.cell? ⟨g, 8, none⟩ = some (.string bt) ∧ w'.cell? ⟨g, 9, none⟩ = some (.int .i64 bx) ∧ w'.cell? ⟨g, 10, none⟩ = some (.int .i64 bn) ∧ w'.cell? ⟨g, 11, none⟩ = some (.string bu) ∧ w'.cell? ⟨g, 12, none⟩ = some (.int .i64 bc) ∧ w'.cell? ⟨g, 13, none⟩ = some (.slice m1p m1l m1c))) := fun w' hb => ⟨(hb.cell (lt_of_cell p0)).trans p0, (hb.cell (lt_of_cell p1)).trans p1, (hb.cell (lt_of_cell p2)).trans p2, (hb.cell (lt_of_cell p3)).trans p3, (hb.cell (lt_of_cell p4)).trans p4, (hb.cell (lt_of_cell p5)).trans p5, (hb.cell (lt_of_cell p6)).trans p6, (hb.cell (lt_of_cell q0)).trans q0, (hb.cell (lt_of_cell q1)).trans q1, (hb.cell (lt_of_cell q2)).trans q2, (hb.cell (lt_of_cell q3)).trans q3, (hb.cell (lt_of_cell q4)).trans q4, (hb.cell (lt_of_cell q5)).trans q5, (hb.cell (lt_of_cell q6)).trans q6⟩
  have Kl : Hid (∀ W, K W → Below w3.heap.size w3 W → True) := fun _ _ _ => trivial
  have BZ : BoxO (w3.alloc (.cells #[.int .i64 0, .string ⟨#[]⟩, .int .i64 0, .int .i64 0, .string ⟨#[]⟩, .int .i64 0, .slice none 0 0] 26)).drew w3.heap.size opZ nilS ∧ FrO (w3.alloc (.cells #[.int .i64 0, .string ⟨#[]⟩, .int .i64 0, .int .i64 0, .string ⟨#[]⟩, .int .i64 0, .slice none 0 0] 26)).drew w3.heap.size := ⟨(BoxO.new w3 opZ nilS).drew, (FrO.new w3 opZ nilS).drew⟩
  have b3z : Below w3.heap.size w3 (w3.alloc (.cells #[.int .i64 0, .string ⟨#[]⟩, .int .i64 0, .int .i64 0, .string ⟨#[]⟩, .int .i64 0, .slice none 0 0] 26)).drew := ((Below.refl _ _).alloc (Nat.le_refl _) _).drew
  have hsz : (w3.alloc (.cells #[.int .i64 0, .string ⟨#[]⟩, .int .i64 0, .int .i64 0, .string ⟨#[]⟩, .int .i64 0, .slice none 0 0] 26)).drew.heap.size = w3.heap.size + 1 := by simp
  clear hK sp rm0 rm1 d3 Kl
  go_upto_region 4 with fail
  go_cut [6, 7, 8] (fun x6 x7 x8 wx => ∃ B4 pX cX, x6 = .pointer (some ⟨B4, 0, none⟩) ∧ x7 = .bool B ∧ x8 = E ∧ BoxO wx B4 ⟨xk, xt, (xx, xn, xu), xc, xA⟩ (.slice pX xA.length cX) ∧ OwnA wx w3.heap.size (.slice pX xA.length cX) xA ∧ w3.heap.size ≤ B4 ∧ Below w3.heap.size w3 wx ∧ K wx)
  case first =>
    have MZ := fun o => HU.out (w3.alloc o) ((Below.refl _ _).alloc (Nat.le_refl _) o)
    have MZ2 := fun o => HU.out (w3.alloc o).drew ((Below.refl _ _).alloc (Nat.le_refl _) o).drew
    have MZ3 := HU.out w3.drew (Below.refl _ _).drew
    go_region_held3 (fun w' => (w'.cell? ⟨g, 0, none⟩ = some (.int .i64 ak) ∧ w'.cell? ⟨g, 1, none⟩ = some (.string at') ∧ w'.cell? ⟨g, 2, none⟩ = some (.int .i64 ax) ∧ w'.cell? ⟨g, 3, none⟩ = some (.int .i64 an) ∧ w'.cell? ⟨g, 4, none⟩ = some (.string au) ∧ w'.cell? ⟨g, 5, none⟩ = some (.int .i64 ac) ∧ w'.cell? ⟨g, 6, none⟩ = some (.slice m0p m0l m0c) ∧ w'.cell? ⟨g, 7, none⟩ = some (.int .i64 bk) ∧ w'.cell? ⟨g, 8, none⟩ = some (.string bt) ∧ w'.cell? ⟨g, 9, none⟩ = some (.int .i64 bx) ∧ w'.cell? ⟨g, 10, none⟩ = some (.int .i64 bn) ∧ w'.cell? ⟨g, 11, none⟩ = some (.string bu) ∧ w'.cell? ⟨g, 12, none⟩ = some (.int .i64 bc) ∧ w'.cell? ⟨g, 13, none⟩ = some (.slice m1p m1l m1c)) ∧ K w')
      (first | exact ⟨by with_reducible first | assumption | exact MA _ | exact MZ _ | exact MZ2 _ | exact MZ3 | exact MS _ _ _ _ _ _ _, by with_reducible first | assumption | exact Ka _ _ K4 | exact Kd _ HK | exact Ka _ _ HK | exact Kd _ (Ka _ _ HK) | exact KS _ _ _ _ _ _ _⟩)
      (first
        | (go_at_call 26; refine (cJ w3.drew (Kd _ HK)).mono ?_; rintro r w4 ⟨s3, rfl, o3, h4⟩; obtain ⟨pX, cX, hs⟩ := own_slice o3; obtain rfl : s3 = (.slice pX xA.length cX) := hs; have B4 : Below w3.heap.size w3 w4 := (Below.refl _ _).drew.trans h4; have mm := HU.out _ B4; have K4 := Kb _ _ (h4.mono (Nat.le_refl _)) (Kd _ HK); have MA := fun o => HU.out (w4.alloc o) (B4.alloc B4.size o); have o4 : Hid (OwnA w4 w3.heap.size (.slice pX xA.length cX) xA) := o3; clear o3)
        | (go_at_call 26; refine (cJ (w3.alloc (.cells #[.int .i64 0, .string ⟨#[]⟩, .int .i64 0, .int .i64 0, .string ⟨#[]⟩, .int .i64 0, .slice none 0 0] 26)).drew (Kd _ (Ka _ _ HK))).mono ?_; rintro r w4 ⟨s3, rfl, o3, h4⟩; obtain ⟨pX, cX, hs⟩ := own_slice o3; obtain rfl : s3 = (.slice pX xA.length cX) := hs; have B4 : Below w3.heap.size w3 w4 := b3z.trans (h4.mono b3z.size); have mm := HU.out _ B4; have K4 := Kb _ _ (h4.mono b3z.size) (Kd _ (Ka _ _ HK)); have o4 : Hid (OwnA w4 (w3.heap.size + 1) (.slice pX xA.length cX) xA) := (by rw [hsz] at o3; exact o3); have MS := fun u0 u1 u2 u3 u4 u5 u6 => HU.out _ (below_set7 B4 (Nat.le_refl _) u0 u1 u2 u3 u4 u5 u6); have KS := fun u0 u1 u2 u3 u4 u5 u6 => Kb _ _ (below_set7 (Below.refl w3.heap.size w4) (Nat.le_refl _) u0 u1 u2 u3 u4 u5 u6) K4; obtain ⟨z0', z1', z2', z3', z4', z5', z6'⟩ := BZ.1.below h4; obtain ⟨f0', f1', f2', f3', f4', f5', f6'⟩ := BZ.2.below BZ.1 h4; simp only [z0] at z0' z1' z2' z3' z4' z5' z6'; clear o3))
    · go_wp2_with fail
      go_meet
      case rel => exact ⟨w4.heap.size, pX, cX, rfl, rfl, rfl, BoxO.new w4 ⟨xk, xt, (xx, xn, xu), xc, xA⟩ _, owns_below o4.out ((Below.refl _ _).alloc (Nat.le_refl _) _), B4.size, B4.alloc B4.size _, Ka _ _ K4⟩
    · go_wp2_with fail
      go_meet
      case rel =>
        refine ⟨w3.heap.size, pX, cX, rfl, rfl, rfl, (BoxO.below BZ.1 h4).stored ⟨xk, xt, (xx, xn, xu), xc, xA⟩ _, ?_, Nat.le_refl _, below_set7 B4 (Nat.le_refl _) _ _ _ _ _ _ _, KS _ _ _ _ _ _ _⟩
        exact own_weaken (owns_same o4.out fun k hk => by
          have := (owns_block o4.out k hk).1
          exact heap_set7 _ (by omega) _ _ _ _ _ _ _) (Nat.le_succ _)
  case rest =>
    obtain ⟨B4, pX, cX, rfl, rfl, rfl, Z4, o4, hB4, b34, K4⟩ := hcut
    clear BZ b3z hsz cJ p0 p1 p2 p3 p4 p5 p6 q0 q1 q2 q3 q4 q5 q6 HK HJ
    have HO4 : Hid (OwnA wc w3.heap.size (.slice pX xA.length cX) xA) := o4
    clear o4
    obtain ⟨p0, p1, p2, p3, p4, p5, p6⟩ := X0.below (Kc.out _ K4).1
    simp only at p0 p1 p2 p3 p4 p5 p6
    obtain ⟨q0, q1, q2, q3, q4, q5, q6⟩ := X1.below (Kc.out _ K4).1
    simp only at q0 q1 q2 q3 q4 q5 q6
    have cR := HRJ.out _ (Kc.out _ K4).1
    go_wp2_with fail
    refine cR.mono ?_; rintro r w5 ⟨s5, rfl, o5, h5⟩
    obtain ⟨pY, cY, hs⟩ := own_slice o5
    obtain rfl : s5 = (.slice pY xA.length cY) := hs
    have bk5 : Below w5.heap.size w5 (w5.alloc (.cells #[.int .i64 xk, .string xt, .int .i64 xx, .int .i64 xn, .string xu, .int .i64 xc, .slice pY xA.length cY] 26)) := (Below.refl _ _).alloc (Nat.le_refl _) _
    obtain ⟨W5, hW5⟩ : ∃ W, W = w5.alloc (.cells #[.int .i64 xk, .string xt, .int .i64 xx, .int .i64 xn, .string xu, .int .i64 xc, .slice pY xA.length cY] 26) := ⟨_, rfl⟩
    obtain ⟨B5, hB5⟩ : ∃ B, B = w5.heap.size := ⟨_, rfl⟩
    have hh : Below wc.heap.size wc W5 := by rw [hW5]; exact h5.trans (bk5.mono h5.size)
    have K5 : K W5 := Kb _ _ (hh.mono (Kz _ K4)) K4
    have b35 : Below w3.heap.size w3 W5 := b34.trans (hh.mono (Kz _ K4))
    have HZ5 : Hid ((BoxO W5 B4 ⟨xk, xt, (xx, xn, xu), xc, xA⟩ (.slice pX xA.length cX) ∧ OwnA W5 w3.heap.size (.slice pX xA.length cX) xA) ∧ BoxO W5 B5 ⟨xk, xt, (xx, xn, xu), xc, xA⟩ (.slice pY xA.length cY) ∧ OwnA W5 w3.heap.size (.slice pY xA.length cY) xA) := by
      refine ⟨⟨Z4.below hh, owns_below HO4.out hh⟩, ?_, ?_⟩
      · rw [hW5, hB5]; exact BoxO.new w5 ⟨xk, xt, (xx, xn, xu), xc, xA⟩ (.slice pY xA.length cY)
      · rw [hW5]; exact own_weaken (owns_below o5 bk5) (Kz _ K4)
    have hB5' : w3.heap.size ≤ B5 := by rw [hB5]; exact Nat.le_trans (Kz _ K4) h5.size
    clear cR h5 o5 bk5 hh Z4 HO4 K4 b34 p0 p1 p2 p3 p4 p5 p6 q0 q1 q2 q3 q4 q5 q6
    go_upto_region 6 with fail
    rw [show w5.alloc (.cells #[.int .i64 xk, .string xt, .int .i64 xx, .int .i64 xn, .string xu, .int .i64 xc, .slice pY xA.length cY] 26) = W5 from hW5.symm, ← hB5]
    clear hW5 hB5
    obtain ⟨p0, p1, p2, p3, p4, p5, p6, q0, q1, q2, q3, q4, q5, q6⟩ := HU.out W5 b35
    have MZ3 := HU.out W5.drew b35.drew
    have cS := HSc.out W5.drew _ _ (Kc.out _ (Kd _ K5)).2.1 (Kc.out _ (Kd _ K5)).2.2.1
    have Kd5 := Kd _ K5
    have hzd : w3.heap.size ≤ W5.drew.heap.size := Kz _ Kd5
    go_region_held3 (fun w' => (w'.cell? ⟨g, 0, none⟩ = some (.int .i64 ak) ∧ w'.cell? ⟨g, 1, none⟩ = some (.string at') ∧ w'.cell? ⟨g, 2, none⟩ = some (.int .i64 ax) ∧ w'.cell? ⟨g, 3, none⟩ = some (.int .i64 an) ∧ w'.cell? ⟨g, 4, none⟩ = some (.string au) ∧ w'.cell? ⟨g, 5, none⟩ = some (.int .i64 ac) ∧ w'.cell? ⟨g, 6, none⟩ = some (.slice m0p m0l m0c) ∧ w'.cell? ⟨g, 7, none⟩ = some (.int .i64 bk) ∧ w'.cell? ⟨g, 8, none⟩ = some (.string bt) ∧ w'.cell? ⟨g, 9, none⟩ = some (.int .i64 bx) ∧ w'.cell? ⟨g, 10, none⟩ = some (.int .i64 bn) ∧ w'.cell? ⟨g, 11, none⟩ = some (.string bu) ∧ w'.cell? ⟨g, 12, none⟩ = some (.int .i64 bc) ∧ w'.cell? ⟨g, 13, none⟩ = some (.slice m1p m1l m1c)) ∧ K w')
      (first | exact ⟨by with_reducible first | assumption | exact MZ3 | exact mm, by with_reducible first | assumption | exact Kd5⟩)
      (first | (go_at_call 28; refine cS.mono ?_; rintro r w6 ⟨rfl, h6⟩; have K6 := Kb _ _ (h6.mono hzd) Kd5; have mm := HU.out w6 (b35.drew.trans (h6.mono hzd)); have HZ6 : Hid ((BoxO w6 B4 ⟨xk, xt, (xx, xn, xu), xc, xA⟩ (.slice pX xA.length cX) ∧ OwnA w6 w3.heap.size (.slice pX xA.length cX) xA) ∧ BoxO w6 B5 ⟨xk, xt, (xx, xn, xu), xc, xA⟩ (.slice pY xA.length cY) ∧ OwnA w6 w3.heap.size (.slice pY xA.length cY) xA) := ⟨⟨HZ5.out.1.1.drew.below h6, owns_below (owns_below HZ5.out.1.2 (Below.refl _ _).drew) h6⟩, HZ5.out.2.1.drew.below h6, owns_below (owns_below HZ5.out.2.2 (Below.refl _ _).drew) h6⟩))
    clear cS mm MZ3 h6 K5 Kd5 HZ5 p0 p1 p2 p3 p4 p5 p6 q0 q1 q2 q3 q4 q5 q6 b35
    have cn := HN.out _ (Kc.out _ K6).1
    go_wp2_with fail
    refine cn.mono ?_; rintro r w7 ⟨rfl, h7⟩
    have K7 := Kb _ _ (h7.mono (Kz _ K6)) K6
    have HZ7 : Hid ((BoxO w7 B4 ⟨xk, xt, (xx, xn, xu), xc, xA⟩ (.slice pX xA.length cX) ∧ OwnA w7 w3.heap.size (.slice pX xA.length cX) xA) ∧ BoxO w7 B5 ⟨xk, xt, (xx, xn, xu), xc, xA⟩ (.slice pY xA.length cY) ∧ OwnA w7 w3.heap.size (.slice pY xA.length cY) xA) := ⟨⟨HZ6.out.1.1.below h7, owns_below HZ6.out.1.2 h7⟩, HZ6.out.2.1.below h7, owns_below HZ6.out.2.2 h7⟩
    clear h7 K6 HZ6
    clear cn
    obtain ⟨p0, p1, p2, p3, p4, p5, p6⟩ := X0.below (Kc.out _ K7).1
    simp only at p0 p1 p2 p3 p4 p5 p6
    obtain ⟨q0, q1, q2, q3, q4, q5, q6⟩ := X1.below (Kc.out _ K7).1
    simp only at q0 q1 q2 q3 q4 q5 q6
    have cs := HSr.out _ _ _ (HR.out.1.below (Kc.out _ K7).1) (HR.out.2.below (Kc.out _ K7).1)
    go_wp2_with fail
    refine cs.mono ?_; rintro r w8 ⟨rfl, h8⟩
    have K8 := Kb _ _ (h8.mono (Kz _ K7)) K7
    have HZ8 : Hid ((BoxO w8 B4 ⟨xk, xt, (xx, xn, xu), xc, xA⟩ (.slice pX xA.length cX) ∧ OwnA w8 w3.heap.size (.slice pX xA.length cX) xA) ∧ BoxO w8 B5 ⟨xk, xt, (xx, xn, xu), xc, xA⟩ (.slice pY xA.length cY) ∧ OwnA w8 w3.heap.size (.slice pY xA.length cY) xA) := ⟨⟨HZ7.out.1.1.below h8, owns_below HZ7.out.1.2 h8⟩, HZ7.out.2.1.below h8, owns_below HZ7.out.2.2 h8⟩
    clear h8 K7 HZ7
    clear cs p0 p1 p2 p3 p4 p5 p6 q0 q1 q2 q3 q4 q5 q6
    obtain ⟨p0, p1, p2, p3, p4, p5, p6⟩ := X0.below (Kc.out _ K8).1
    simp only at p0 p1 p2 p3 p4 p5 p6
    obtain ⟨q0, q1, q2, q3, q4, q5, q6⟩ := X1.below (Kc.out _ K8).1
    simp only at q0 q1 q2 q3 q4 q5 q6
    have cs := HSb.out _ _ _ (HR.out.2.below (Kc.out _ K8).1) (HR.out.1.below (Kc.out _ K8).1)
    go_wp2_with fail
    refine cs.mono ?_; rintro r w9 ⟨rfl, h9⟩
    have K9 := Kb _ _ (h9.mono (Kz _ K8)) K8
    have HZ9 : Hid ((BoxO w9 B4 ⟨xk, xt, (xx, xn, xu), xc, xA⟩ (.slice pX xA.length cX) ∧ OwnA w9 w3.heap.size (.slice pX xA.length cX) xA) ∧ BoxO w9 B5 ⟨xk, xt, (xx, xn, xu), xc, xA⟩ (.slice pY xA.length cY) ∧ OwnA w9 w3.heap.size (.slice pY xA.length cY) xA) := ⟨⟨HZ8.out.1.1.below h9, owns_below HZ8.out.1.2 h9⟩, HZ8.out.2.1.below h9, owns_below HZ8.out.2.2 h9⟩
    clear h9 K8 HZ8
    clear cs p0 p1 p2 p3 p4 p5 p6 q0 q1 q2 q3 q4 q5 q6
    obtain ⟨p0, p1, p2, p3, p4, p5, p6⟩ := X0.below (Kc.out _ K9).1
    simp only at p0 p1 p2 p3 p4 p5 p6
    have cs := HSa.out _ _ _ (HR.out.1.below (Kc.out _ K9).1) (HR.out.1.below (Kc.out _ K9).1)
    go_wp2_with fail
    refine cs.mono ?_; rintro r w10 ⟨rfl, h10⟩
    have K10 := Kb _ _ (h10.mono (Kz _ K9)) K9
    have HZ10 : Hid ((BoxO w10 B4 ⟨xk, xt, (xx, xn, xu), xc, xA⟩ (.slice pX xA.length cX) ∧ OwnA w10 w3.heap.size (.slice pX xA.length cX) xA) ∧ BoxO w10 B5 ⟨xk, xt, (xx, xn, xu), xc, xA⟩ (.slice pY xA.length cY) ∧ OwnA w10 w3.heap.size (.slice pY xA.length cY) xA) := ⟨⟨HZ9.out.1.1.below h10, owns_below HZ9.out.1.2 h10⟩, HZ9.out.2.1.below h10, owns_below HZ9.out.2.2 h10⟩
    clear h10 K9 HZ9
    clear cs p0 p1 p2 p3 p4 p5 p6
    obtain ⟨p0, p1, p2, p3, p4, p5, p6⟩ := X0.below (Kc.out _ K10).1
    simp only at p0 p1 p2 p3 p4 p5 p6
    obtain ⟨q0, q1, q2, q3, q4, q5, q6⟩ := X1.below (Kc.out _ K10).1
    simp only at q0 q1 q2 q3 q4 q5 q6
    have re := re_two w10 ⟨ak, at', (ax, an, au), ac, aA⟩ ⟨bk, bt, (bx, bn, bu), bc, bA⟩ (pa, la, ca) (pb, lb, cb) (HR.out.1.below (Kc.out _ K10).1) (HR.out.2.below (Kc.out _ K10).1)
    have ba : Below w10.heap.size w10 (w10.alloc (.cells #[.int .i64 ak, .string at', .int .i64 ax, .int .i64 an, .string au, .int .i64 ac, .slice pa la ca, .int .i64 bk, .string bt, .int .i64 bx, .int .i64 bn, .string bu, .int .i64 bc, .slice pb lb cb] 26)) := (Below.refl _ _).alloc (Nat.le_refl _) _
    have ck := HKp.out _ lo w3.heap.size (.slice (some ⟨g, 0, none⟩) 2 c5) _ ((Kc.out _ K10).2.2.2.below ba) re
    clear re
    go_wp2_with fail
    refine ck.mono ?_; rintro r w11 ⟨rfl, h11'⟩
    have h11 := ba.trans (h11'.mono ba.size)
    have K11 := Kb _ _ (h11.mono (Kz _ K10)) K10
    have HZ11 : Hid ((BoxO w11 B4 ⟨xk, xt, (xx, xn, xu), xc, xA⟩ (.slice pX xA.length cX) ∧ OwnA w11 w3.heap.size (.slice pX xA.length cX) xA) ∧ BoxO w11 B5 ⟨xk, xt, (xx, xn, xu), xc, xA⟩ (.slice pY xA.length cY) ∧ OwnA w11 w3.heap.size (.slice pY xA.length cY) xA) := ⟨⟨HZ10.out.1.1.below h11, owns_below HZ10.out.1.2 h11⟩, HZ10.out.2.1.below h11, owns_below HZ10.out.2.2 h11⟩
    clear h11 K10 HZ10
    clear ck h11' ba p0 p1 p2 p3 p4 p5 p6 q0 q1 q2 q3 q4 q5 q6
    have cs := HSp.out _ lo w3.heap.size (.slice (some ⟨g, 0, none⟩) 2 c5) (Kc.out _ K11).2.2.2
    go_wp2_with fail
    refine cs.mono ?_; rintro r w12 ⟨rfl, u12⟩
    have b12 : Below w.heap.size w w12 := b0.trans (((Kc.out _ K11).1.trans ((u12.below (by have := Kz _ K11; omega)).mono hlo)).mono b0.size)
    have HZ12 : Hid ((BoxO w12 B4 ⟨xk, xt, (xx, xn, xu), xc, xA⟩ (.slice pX xA.length cX) ∧ RN w12 (.slice pX xA.length cX) xA) ∧ BoxO w12 B5 ⟨xk, xt, (xx, xn, xu), xc, xA⟩ (.slice pY xA.length cY) ∧ RN w12 (.slice pY xA.length cY) xA) := ⟨⟨HZ11.out.1.1.out u12 hB4, own_RN (u12.own (Nat.le_refl _) HZ11.out.1.2)⟩, HZ11.out.2.1.out u12 hB5', own_RN (u12.own (Nat.le_refl _) HZ11.out.2.2)⟩
    clear cs u12 HZ11 K11
    obtain ⟨p0, p1, p2, p3, p4, p5, p6⟩ := HZ12.out.1.1
    simp only at p0 p1 p2 p3 p4 p5 p6
    obtain ⟨q0, q1, q2, q3, q4, q5, q6⟩ := HZ12.out.2.1
    simp only at q0 q1 q2 q3 q4 q5 q6
    have cs := HSX.out _ _ _ HZ12.out.1.2 HZ12.out.2.2
    go_wp2_with fail
    refine cs.mono ?_; rintro r w13 ⟨rfl, h13⟩
    have b13 := b12.trans (h13.mono b12.size)
    have Z13 := HZ12.out.1.1.below h13
    have R13 := HZ12.out.1.2.below h13
    clear cs h13 HZ12 b12 p0 p1 p2 p3 p4 p5 p6 q0 q1 q2 q3 q4 q5 q6
    obtain ⟨p0, p1, p2, p3, p4, p5, p6⟩ := Z13
    simp only at p0 p1 p2 p3 p4 p5 p6
    cases B with
    | true =>
      go_wp2
      go_ret
      exact ⟨rfl, b13⟩
    | false =>
      have cz := HZX.out _ _ rfl R13
      go_wp2_with fail
      refine cz.mono ?_; rintro r w14 ⟨rfl, h14⟩
      go_wp2
      go_ret
      exact ⟨rfl, b13.trans (h14.mono b13.size)⟩
end Go.Proofs.YtecmdlecfddeeaaDoor
