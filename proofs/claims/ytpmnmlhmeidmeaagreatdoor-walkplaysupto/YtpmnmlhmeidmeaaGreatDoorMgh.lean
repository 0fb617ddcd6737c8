/- vellumref07's Walker in memory; Kind and Left. Next of vellumref07's Walker. Next of vellumref07's Walker, of a whole operation and of a part. Next of vellumref07's Walker, of a part. Next of vellumref07's Walker; the law's is and w2. A fixed delta lives. Both Walkers side by side. A slice of a Walker's calls (two numbers each) among the arguments. The errors' numbers: what vellumnum.list and vellumnum.Num answer where all nineteen sentinels lie as laid. Of all lists of operations and calls vellumlaw07.WalkPlays answers true. -/
import Derived.Test.YtpmnmlhmeidmeaaGreatDoorMgg
import Derived.Deep.RegionHeld3
import Derived.Test.YtpmnmlhmeidmeaaGreatDoorMgf
import Derived.Test.YtpmnmlhmeidmeaaGreatDoorOpp
import Derived.Test.YtpmnmlhmeidmeaaGreatDoorEr
import Derived.Deep.CutBlock
import Derived.Deep.CutRange

/- vellumref07's Walker in memory; Kind and Left. -/
namespace Go.Proofs.YtpmnmlhmeidmeaaGreatDoor
open Go Go.RowKit Go.Lib
set_option linter.unusedVariables false

theorem cell_blk {w w' : World} {b : Nat} (h : w'.heap[b]? = w.heap[b]?) (i : Nat) : w'.cell? ⟨b, i, none⟩ = w.cell? ⟨b, i, none⟩ := by
  unfold World.cell?
  rw [h]
/-- A list of pairs that lies in blocks of X. -/
def RNX (X : Nat → Prop) (w : World) (s : Value) (A : List A2) : Prop := RN w s A ∧ ∀ (j : Nat) (q : A2), A[j]? = some q → ∃ b off n c, s = .slice (some ⟨b, off, none⟩) n c ∧ X b ∧ PairAt w b (off + j * 4) q
/-- Blocks of X stay. -/
def KX (X : Nat → Prop) (w w' : World) : Prop := ∀ k, X k → k < w.heap.size → w'.heap[k]? = w.heap[k]?
theorem pair_lt {w : World} {b o : Nat} {q : A2} (h : PairAt w b o q) : b < w.heap.size := lt_of_cell h.c0
theorem pair_kx {X : Nat → Prop} {w w' : World} {b o : Nat} {q : A2} (h : PairAt w b o q) (hX : X b) (k : KX X w w') : PairAt w' b o q := by
  have e := cell_blk (k b hX (pair_lt h))
  exact ⟨(e _).trans h.c0, (e _).trans h.c1, (e _).trans h.c2, (e _).trans h.c3⟩
theorem RNX.of {X : Nat → Prop} {w : World} {s : Value} {A : List A2} (h : RN w s A) (hX : ∀ k, k < w.heap.size → X k) : RNX X w s A := by
  refine ⟨h, fun j q hq => ?_⟩
  obtain ⟨p, cap, rfl, hl, hc⟩ := h.row
  obtain ⟨b, off, rfl, hp⟩ := hc j q hq
  exact ⟨b, off, _, _, rfl, hX b (pair_lt hp), hp⟩
theorem RNX.own {X : Nat → Prop} {w : World} {B : Nat} {s : Value} {A : List A2} (h : OwnA w B s A) (hX : ∀ k, s.ownBlock = some k → X k) : RNX X w s A := by
  refine ⟨own_RN h, fun j q hq => ?_⟩
  obtain ⟨p, cap, rfl, hl, hc⟩ := (own_RN h).row
  obtain ⟨b, off, rfl, hp⟩ := hc j q hq
  exact ⟨b, off, _, _, rfl, hX b rfl, hp⟩
theorem RNX.kx {X : Nat → Prop} {w w' : World} {s : Value} {A : List A2} (h : RNX X w s A) (k : KX X w w') : RNX X w' s A := by
  obtain ⟨⟨⟨p, cap, rfl, hl, hc⟩, nz⟩, hx⟩ := h
  refine ⟨⟨⟨p, cap, rfl, hl, fun j q hq => ?_⟩, nz⟩, fun j q hq => ?_⟩
  · obtain ⟨b, off, n, c, e, hXb, hp⟩ := hx j q hq
    simp only [Value.slice.injEq] at e
    obtain ⟨rfl, _, _⟩ := e
    exact ⟨b, off, rfl, pair_kx hp hXb k⟩
  · obtain ⟨b, off, n, c, e, hXb, hp⟩ := hx j q hq
    exact ⟨b, off, n, c, e, hXb, pair_kx hp hXb k⟩
def RowX (X : Nat → Prop) (w : World) (v : Value) (D : List OV) : Prop :=
  ∃ p cap, v = .slice p D.length cap ∧ D.length ≤ cap ∧ (p = none → cap = 0) ∧ ∀ (j : Nat) (d : OV), D[j]? = some d → ∃ b off, p = some ⟨b, off, none⟩ ∧ X b ∧ OpAt w b (off + j * 7) d
theorem RowX.row {X : Nat → Prop} {w : World} {v : Value} {D : List OV} (h : RowX X w v D) : RowO w v D := by
  obtain ⟨p, cap, e, hl, hn, hc⟩ := h
  exact ⟨p, cap, e, hl, hn, fun j d hd => by obtain ⟨b, off, e, _, ho⟩ := hc j d hd; exact ⟨b, off, e, ho⟩⟩
theorem RowX.of {X : Nat → Prop} {w : World} {v : Value} {D : List OV} (h : RowO w v D) (hX : ∀ k, k < w.heap.size → X k) : RowX X w v D := by
  obtain ⟨p, cap, e, hl, hn, hc⟩ := h
  exact ⟨p, cap, e, hl, hn, fun j d hd => by obtain ⟨b, off, e, ho⟩ := hc j d hd; exact ⟨b, off, e, hX b ho.lt, ho⟩⟩
theorem RowX.own {X : Nat → Prop} {w : World} {B : Nat} {v : Value} {D : List OV} (h : OwnO w B v D) (hX : ∀ k, v.ownBlock = some k → X k) : RowX X w v D := by
  obtain ⟨p, cap, e, hl, hn, hc⟩ := own_rowO h
  subst e
  exact ⟨p, cap, rfl, hl, hn, fun j d hd => by obtain ⟨b, off, rfl, ho⟩ := hc j d hd; exact ⟨b, off, rfl, hX b rfl, ho⟩⟩
theorem RowX.kx {X : Nat → Prop} {w w' : World} {v : Value} {D : List OV} (h : RowX X w v D) (k : KX X w w') : RowX X w' v D := by
  obtain ⟨p, cap, e, hl, hn, hc⟩ := h
  exact ⟨p, cap, e, hl, hn, fun j d hd => by obtain ⟨b, off, e, hx, ho⟩ := hc j d hd; exact ⟨b, off, e, hx, ho.same (cell_blk (k b hx ho.lt))⟩⟩
def RedX (X : Nat → Prop) (w : World) (D : List OV) (E : List Op5) : Prop := All2 (fun (d : OV) (e : Op5) => d.1 = e.k ∧ d.2.1 = e.t ∧ d.2.2.1 = e.v ∧ d.2.2.2.1 = e.c ∧ RNX X w (slV d.2.2.2.2) e.A) D E
theorem RedX.re {X : Nat → Prop} {w : World} {D : List OV} {E : List Op5} (h : RedX X w D E) : ReD w D E := All2.imp (fun d e ⟨a, b, c, f, r⟩ => ⟨a, b, c, f, r.1⟩) h
theorem RedX.kx {X : Nat → Prop} {w w' : World} {D : List OV} {E : List Op5} (h : RedX X w D E) (k : KX X w w') : RedX X w' D E := All2.imp (fun d e ⟨a, b, c, f, r⟩ => ⟨a, b, c, f, r.kx k⟩) h
theorem RedX.of {X : Nat → Prop} {w : World} {D : List OV} {E : List Op5} (h : ReD w D E) (hX : ∀ k, k < w.heap.size → X k) : RedX X w D E := All2.imp (fun d e ⟨a, b, c, f, r⟩ => ⟨a, b, c, f, RNX.of r hX⟩) h
/-- A list of operations that lies in blocks of X. -/
def ReX (X : Nat → Prop) (w : World) (v : Value) (E : List Op5) : Prop := ∃ D, RowX X w v D ∧ RedX X w D E
theorem ReX.re {X : Nat → Prop} {w : World} {v : Value} {E : List Op5} (h : ReX X w v E) : ReO w v E := by
  obtain ⟨D, h1, h2⟩ := h
  exact ⟨D, h1.row, h2.re⟩
theorem ReX.of {X : Nat → Prop} {w : World} {v : Value} {E : List Op5} (h : ReO w v E) (hX : ∀ k, k < w.heap.size → X k) : ReX X w v E := by
  obtain ⟨D, h1, h2⟩ := h
  exact ⟨D, RowX.of h1 hX, RedX.of h2 hX⟩
theorem ReX.kx {X : Nat → Prop} {w w' : World} {v : Value} {E : List Op5} (h : ReX X w v E) (k : KX X w w') : ReX X w' v E := by
  obtain ⟨D, h1, h2⟩ := h
  exact ⟨D, h1.kx k, h2.kx k⟩
theorem KX.below {X : Nat → Prop} {w w' : World} (h : Below w.heap.size w w') : KX X w w' := fun k _ hk => h.block k hk
/-- Block q turns, no other. -/
structure FrQ (q : Nat) (w w' : World) : Prop where
  os : w'.os = w.os
  tape : w'.tape = w.tape
  output : w'.output = w.output
  size : w.heap.size ≤ w'.heap.size
  kept : ∀ k, k < w.heap.size → k ≠ q → w'.heap[k]? = w.heap[k]?
theorem FrQ.of_below {q : Nat} {w w' : World} (h : Below w.heap.size w w') : FrQ q w w' := ⟨h.os, h.tape, h.output, h.size, fun k hk _ => h.block k hk⟩
theorem FrQ.trans {q : Nat} {a b c : World} (h : FrQ q a b) (k : FrQ q b c) : FrQ q a c :=
  ⟨k.os.trans h.os, k.tape.trans h.tape, k.output.trans h.output, Nat.le_trans h.size k.size, fun i hi hn => (k.kept i (Nat.lt_of_lt_of_le hi h.size) hn).trans (h.kept i hi hn)⟩
theorem FrQ.set (q j : Nat) (w : World) (u : Value) : FrQ q w (w.setCell ⟨q, j, none⟩ u) := ⟨rfl, rfl, rfl, by simp [World.setCell], fun k _ hn => Below.heap_setCell _ _ _ _ hn⟩
theorem FrQ.kx {X : Nat → Prop} {q : Nat} {w w' : World} (h : FrQ q w w') (hq : ¬ X q) : KX X w w' := fun k hk hl => h.kept k hl (fun e => hq (e ▸ hk))
theorem FrQ.below {q B : Nat} {w w' : World} (h : FrQ q w w') (hq : B ≤ q) (hB : B ≤ w.heap.size) : Below B w w' := ⟨h.os, h.tape, h.output, h.size, fun k hk => h.kept k (by omega) (by omega)⟩
/-- The reference's Walker. -/
structure RfV (X : Nat → Prop) (w : World) (q : Nat) (R : List Op5) : Prop where
  nx : ¬ X q
  st : ∃ vs, w.heap[q]? = some (.cells #[vs] 55 (0, 0)) ∧ ReX X w vs R
theorem RfV.kept {X : Nat → Prop} {w w' : World} {q : Nat} {R : List Op5} (h : RfV X w q R) (k : KX X w w') (hq : w'.heap[q]? = w.heap[q]?) : RfV X w' q R := by
  obtain ⟨h1, vs, h2, h3⟩ := h
  exact ⟨h1, vs, hq.trans h2, h3.kx k⟩
theorem RfV.below {X : Nat → Prop} {w w' : World} {q : Nat} {R : List Op5} (h : RfV X w q R) (b : Below w.heap.size w w') : RfV X w' q R := by
  obtain ⟨vs, h2, h3⟩ := id h.st
  exact h.kept (KX.below b) (b.block _ (Array.getElem?_eq_some_iff.1 h2).1)
/-- The first of a list of operations. -/
theorem re_head {w : World} {v : Value} {x : Op5} {r : List Op5} (h : ReO w v (x :: r)) : ∃ b off cap d, v = .slice (some ⟨b, off, none⟩) (r.length + 1) cap ∧ r.length + 1 ≤ cap ∧ OpAt w b off d ∧ ovV d = opV x (slV d.2.2.2.2) ∧ RN w (slV d.2.2.2.2) x.A := by
  obtain ⟨D, ⟨p, cap, rfl, hl, _, hc⟩, hre⟩ := h
  cases hre with
  | cons h1 h2 =>
    rename_i d D'
    obtain ⟨b, off, rfl, ho⟩ := hc 0 d rfl
    rw [Nat.zero_mul, Nat.add_zero] at ho
    have e := forall2_len h2
    exact ⟨b, off, cap, d, by rw [List.length_cons, e], by rw [← e]; exact hl, ho, opV_of h1, h1.2.2.2.2⟩
set_option maxHeartbeats 2000000 in
set_option maxRecDepth 100000 in
theorem refKind7_any {X : Nat → Prop} {q : Nat} {R : List Op5} (w : World) (h : RfV X w q R) :
    Calls Tryz.prog 27 #[.pointer (some ⟨q, 0, none⟩)] w fun r w' => r = .returned (.int .i64 (kind7 R)) ∧ Below w.heap.size w w' := by
  obtain ⟨vs, h2, h3⟩ := h.st
  have c0 : w.cell? ⟨q, 0, none⟩ = some vs := by rw [cell_of_heap h2]; rfl
  have hre := h3.re
  clear h h2 h3
  cases R with
  | nil =>
    obtain ⟨D, ⟨p, cap, rfl, _⟩, hre⟩ := hre
    have hl := forall2_len hre
    have e0 : D.length = 0 := hl
    rw [e0] at c0
    have e1 : ((0 : Int) == 0) = true := rfl
    clear hre hl e0
    go_enter Tryz.func27, Tryz.ntmps27
    go_wp2
    go_ret
    exact ⟨rfl, Below.refl _ _⟩
  | cons x r =>
    obtain ⟨b, off, cap, d, rfl, hc, ho, hd, _⟩ := re_head hre
    have hk : d.1 = x.k := by
      have := hd
      simp only [Value.agg.injEq, ovV, ovC, opV] at this
      simp at this
      exact this.1
    obtain ⟨d0, _⟩ := ho
    rw [hk] at d0
    obtain ⟨n, hn⟩ : ∃ n, r.length + 1 = n := ⟨_, rfl⟩
    have hl : (0 : Int) < (n : Int) := by omega
    have e0 : ((n : Int) == 0) = false := beq_eq_false_iff_ne.2 (by omega)
    rw [hn] at c0 hc
    clear hre hd hn hk
    go_enter Tryz.func27, Tryz.ntmps27
    go_wp2
    go_ret
    exact ⟨rfl, Below.refl _ _⟩
set_option maxHeartbeats 2000000 in
set_option maxRecDepth 100000 in
theorem refLeft7_any {X : Nat → Prop} {q : Nat} {R : List Op5} {N T K : Nat} (w : World) (h : RfV X w q R) (hR : Rst R N T K) (hT : T ≤ 8388608) :
    Calls Tryz.prog 29 #[.pointer (some ⟨q, 0, none⟩)] w fun r w' => r = .returned (.int .i64 (left7 R)) ∧ Below w.heap.size w w' := by
  obtain ⟨vs, h2, h3⟩ := h.st
  have c0 : w.cell? ⟨q, 0, none⟩ = some vs := by rw [cell_of_heap h2]; rfl
  have hre := h3.re
  clear h h2 h3
  cases R with
  | nil =>
    obtain ⟨D, ⟨p, cap, rfl, _⟩, hre⟩ := hre
    have hl := forall2_len hre
    have e0 : D.length = 0 := hl
    rw [e0] at c0
    have e1 : ((0 : Int) == 0) = true := rfl
    clear hre hl e0
    go_enter Tryz.func29, Tryz.ntmps29
    go_wp2
    go_ret
    exact ⟨rfl, Below.refl _ _⟩
  | cons x r =>
    obtain ⟨b, off, cap, d, rfl, hc, ho, hd, _⟩ := re_head hre
    have cL := len7_any x d.2.2.2.2.1 d.2.2.2.2.2.1 d.2.2.2.2.2.2 w (hR.good x (List.mem_cons_self ..)) (Nat.le_trans (hR.size x (List.mem_cons_self ..)) hT)
    have hd' : ovV d = opV x (.slice d.2.2.2.2.1 d.2.2.2.2.2.1 d.2.2.2.2.2.2) := hd
    rw [← hd'] at cL
    show Calls _ _ _ w fun r w' => r = .returned (.int .i64 (len5 x)) ∧ _
    obtain ⟨d0, d1, d2, d3, d4, d5, d6⟩ := ho
    obtain ⟨n, hn⟩ : ∃ n, r.length + 1 = n := ⟨_, rfl⟩
    have hl : (0 : Int) < (n : Int) := by omega
    have e0 : ((n : Int) == 0) = false := beq_eq_false_iff_ne.2 (by omega)
    rw [hn] at c0 hc
    clear hre hd hd' hn hR
    obtain ⟨dk, dt, ⟨dx, dn, du⟩, dc, dp, dl, dcap⟩ := d
    simp only [ovV, ovC, slV] at cL d0 d1 d2 d3 d4 d5 d6
    go_enter Tryz.func29, Tryz.ntmps29
    go_wp2_with fail
    refine cL.mono ?_; rintro r w2 ⟨rfl, hb2⟩
    go_wp2
    go_ret
    exact ⟨rfl, hb2⟩
end Go.Proofs.YtpmnmlhmeidmeaaGreatDoor

/- Next of vellumref07's Walker. -/
namespace Go.Proofs.YtpmnmlhmeidmeaaGreatDoor
open Go Go.RowKit Go.Lib
set_option linter.unusedVariables false

theorem own_oneO7 (w : World) (B : Nat) (hB : B ≤ w.heap.size) (d : OV) : OwnO (w.alloc (.cells (ovC d) 33)) B (.slice (some ⟨w.heap.size, 0, none⟩) 1 1) [d] :=
  ⟨rfl, Or.inr ⟨w.heap.size, 1, ovC d, rfl, hB, heap_alloc_new w _, Nat.le_refl _, by decide, rfl, rfl⟩⟩
theorem row_tail {w : World} {b off n cap : Nat} {d : OV} {D : List OV} (h : RowO w (.slice (some ⟨b, off, none⟩) n cap) (d :: D)) (hn : n = D.length + 1) : (cap = 1 → RowO w (.slice (some ⟨b, off, none⟩) D.length 0) D) ∧ RowO w (.slice (some ⟨b, off + 7, none⟩) D.length (cap - 1)) D := by
  obtain ⟨p, c, e, hl, hz, hc⟩ := h
  simp only [Value.slice.injEq] at e
  obtain ⟨rfl, _, rfl⟩ := e
  rw [List.length_cons] at hl
  refine ⟨fun h1 => ?_, ?_⟩
  · have : D = [] := List.eq_nil_of_length_eq_zero (by omega)
    subst this
    exact ⟨_, 0, rfl, Nat.zero_le _, fun h => (by cases h), fun j d hd => (by simp at hd)⟩
  · refine ⟨_, _, rfl, by omega, fun h => (by cases h), fun j d' hd => ?_⟩
    obtain ⟨b', off', e', ho⟩ := hc (j + 1) d' hd
    simp only [Option.some.injEq, Addr.mk.injEq] at e'
    obtain ⟨rfl, rfl, _⟩ := e'
    exact ⟨b, off + 7, rfl, by rw [show off + 7 + j * 7 = off + (j + 1) * 7 by omega]; exact ho⟩
theorem FrQ.setNew {q B : Nat} {w w' : World} (h : FrQ q w w') (hB : w.heap.size ≤ B) (j : Nat) (u : Value) : FrQ q w (w'.setCell ⟨B, j, none⟩ u) :=
  ⟨h.os, h.tape, h.output, by simp only [World.setCell, Array.size_modify]; exact h.size, fun k hk hn => (Below.heap_setCell _ _ _ _ (show k ≠ B by omega)).trans (h.kept k hk hn)⟩
theorem set7_frq {q B : Nat} {w w' : World} (h : FrQ q w w') (hB : w.heap.size ≤ B) (u0 u1 u2 u3 u4 u5 u6 : Value) : FrQ q w (((((((w'.setCell ⟨B, 0, none⟩ u0).setCell ⟨B, 1, none⟩ u1).setCell ⟨B, 2, none⟩ u2).setCell ⟨B, 3, none⟩ u3).setCell ⟨B, 4, none⟩ u4).setCell ⟨B, 5, none⟩ u5).setCell ⟨B, 6, none⟩ u6) :=
  ((((((h.setNew hB 0 u0).setNew hB 1 u1).setNew hB 2 u2).setNew hB 3 u3).setNew hB 4 u4).setNew hB 5 u5).setNew hB 6 u6
set_option maxHeartbeats 2000000 in
set_option maxRecDepth 100000 in
theorem refNextNo_any (q : Nat) (n : Int) (w : World) (hn : n < 1) :
    Calls Tryz.prog 21 #[.pointer (some ⟨q, 0, none⟩), .int .i64 n] w fun e w' => e = .returned (.tuple #[opV opZ nilS, .int .i64 12]) ∧ Below w.heap.size w w' := by
  have Z1 := BoxO.new w opZ nilS
  obtain ⟨z0', z1', z2', z3', z4', z5', z6'⟩ := Z1
  have b1 : Below w.heap.size w (w.alloc (.cells (opC opZ nilS) 33)) := (Below.refl _ _).alloc (Nat.le_refl _) _
  clear z0' z1' z2' z3' z4' z5' z6'
  go_enter Tryz.func21, Tryz.ntmps21
  go_wp2
  exact bodyPost_ret (v := .tuple #[opV opZ nilS, .int .i64 12]) (by simp [results, Tryz.results21, go_sem, z0]) rfl ⟨rfl, b1⟩
set_option maxHeartbeats 2000000 in
set_option maxRecDepth 100000 in
theorem refNextNil_any {X : Nat → Prop} {q : Nat} {N T K : Nat} (n : Int) (w : World) (h : RfV X w q []) (h1 : 1 ≤ n) :
    Calls Tryz.prog 21 #[.pointer (some ⟨q, 0, none⟩), .int .i64 n] w fun e w' => e = .returned (.tuple #[opV (pl7 (min n 1099511627776)) (.slice none 0 0), .int .i64 0]) ∧ RfV X w' q [] ∧ FrQ q w w' := by
  have b1 : Below w.heap.size w (w.alloc (.cells (opC opZ nilS) 33)) := (Below.refl _ _).alloc (Nat.le_refl _) _
  have H1 := h.below b1
  have cL := refLeft7_any (N := 0) (T := 0) (K := 0) (w.alloc (.cells (opC opZ nilS) 33)) H1 (Rst.nil _ _ _) (by omega)
  have Z1 := BoxO.new w opZ nilS
  have F1 := FrO.new w opZ nilS
  have HH : Hid (∀ W, Below w.heap.size w W → RfV X W q []) := fun W hW => h.below hW
  obtain ⟨vs, h2, h3⟩ := h.st
  obtain ⟨D, ⟨p, cap, rfl, _⟩, hre⟩ := h3.re
  have hl := forall2_len hre
  have e0 : D.length = 0 := hl
  rw [e0] at h2
  have c0 : w.cell? ⟨q, 0, none⟩ = some (.slice p 0 cap) := by rw [cell_of_heap h2]; rfl
  have hq : q < w.heap.size := lt_of_cell c0
  have e1 : ((0 : Int) == 0) = true := rfl
  have hn : ¬ n < 1 := by omega
  obtain ⟨M, hM⟩ : ∃ M, min n 1099511627776 = M := ⟨_, rfl⟩
  have HM : Hid (min n (left7 []) = M) := hM
  rw [hM]
  clear h h2 h3 hre hl e0 hM H1
  obtain ⟨W0, hW0⟩ : ∃ W, W = w.alloc (.cells (opC opZ nilS) 33) := ⟨_, rfl⟩
  go_enter Tryz.func21, Tryz.ntmps21
  go_wp2_with fail
  rw [← hW0] at b1 Z1 F1
  refine (hW0 ▸ cL : Calls Tryz.prog 29 #[.pointer (some ⟨q, 0, none⟩)] (w.alloc (.cells (opC opZ nilS) 33)) fun r w' => r = .returned (.int .i64 (left7 [])) ∧ Below W0.heap.size W0 w').mono ?_; rintro r w2 ⟨rfl, h2⟩
  clear hW0 cL
  have b2 := b1.trans (h2.mono b1.size)
  have c2 := (b2.cell (lt_of_cell c0)).trans c0
  obtain ⟨z0', z1', z2', z3', z4', z5', z6'⟩ := Z1.below h2
  obtain ⟨f0', f1', f2', f3', f4', f5', f6'⟩ := F1.below Z1 h2
  simp only [z0] at z0' z1' z2' z3' z4' z5' z6'
  have n1 : ¬ q = w.heap.size := by omega
  have n2 : ¬ w.heap.size = q := by omega
  have HF : Hid (Below w.heap.size w w2) := b2
  clear b1 h2 b2 c0 Z1 F1
  go_wp2
  refine bodyPost_ret (v := .tuple #[opV (pl7 M) (.slice none 0 0), .int .i64 0]) (by simp [results, Tryz.results21, go_sem, z0, z0', z1', z2', z3', z4', z5', z6', HM.out, pl7]) rfl ?_
  have HB := fun u0 u1 u2 u3 u4 u5 u6 => below_set7 (B := w.heap.size) HF.out (Nat.le_refl _) u0 u1 u2 u3 u4 u5 u6
  exact ⟨rfl, HH.out _ (HB _ _ _ _ _ _ _), FrQ.of_below (HB _ _ _ _ _ _ _)⟩
end Go.Proofs.YtpmnmlhmeidmeaaGreatDoor

/- Next of vellumref07's Walker, of a whole operation and of a part. -/
namespace Go.Proofs.YtpmnmlhmeidmeaaGreatDoor
open Go Go.RowKit Go.Lib
set_option linter.unusedVariables false

theorem rfv_final {X : Nat → Prop} {w W : World} {q B : Nat} {v : Value} {D : List OV} {r : List Op5} (f : FrQ q w W) (hq : ¬ X q) (h1 : W.heap[q]? = some (.cells #[v] 55 (0, 0))) (h2 : OwnO W B v D) (hX : ∀ k, v.ownBlock = some k → X k) (h3 : RedX X W D r) : RfV X W q r :=
  ⟨hq, v, h1, D, RowX.own h2 hX, h3⟩
set_option maxHeartbeats 8000000 in
set_option maxRecDepth 100000 in
theorem refNextAll_any {X : Nat → Prop} {q : Nat} {x : Op5} {r : List Op5} {N T K : Nat} (n : Int) (w : World) (h : RfV X w q (x :: r)) (hX : ∀ k, w.heap.size ≤ k → X k) (hR : Rst (x :: r) N T K) (hT : T ≤ 8388608) (hN : N ≤ 8388608) (hn : len5 x ≤ n) :
    Calls Tryz.prog 21 #[.pointer (some ⟨q, 0, none⟩), .int .i64 n] w fun e w' => ∃ s, e = .returned (.tuple #[opV x s, .int .i64 0]) ∧ RN w' s x.A ∧ RfV X w' q r ∧ FrQ q w w' := by
  have hgx := hR.good x (List.mem_cons_self ..)
  have htx : x.t.size ≤ 8388608 := Nat.le_trans (hR.size x (List.mem_cons_self ..)) hT
  have b1 : Below w.heap.size w (w.alloc (.cells (opC opZ nilS) 33)) := (Below.refl _ _).alloc (Nat.le_refl _) _
  have cL := refLeft7_any (w.alloc (.cells (opC opZ nilS) 33)) (h.below b1) hR hT
  have Z1 := BoxO.new w opZ nilS
  have F1 := FrO.new w opZ nilS
  have hnx := h.nx
  obtain ⟨vs, h2, D0, h3, h4⟩ := h.st
  have h4re := h4.re
  cases h4 with
  | cons hd4 ht4 =>
  rename_i d D'
  obtain ⟨p, cap, rfl, hl, hz, hc⟩ := id h3
  obtain ⟨b, off, rfl, hXb, ho⟩ := hc 0 d rfl
  rw [Nat.zero_mul, Nat.add_zero] at ho
  have hDr := forall2_len ht4
  have hrow := h3.row
  rw [List.length_cons] at h2 hl hrow
  obtain ⟨htail1, htail2⟩ := row_tail hrow rfl
  have hov : ovV d = opV x (slV d.2.2.2.2) := opV_of ⟨hd4.1, hd4.2.1, hd4.2.2.1, hd4.2.2.2.1, hd4.2.2.2.2.1⟩
  have c0 : w.cell? ⟨q, 0, none⟩ = some (.slice (some ⟨b, off, none⟩) (D'.length + 1) cap) := by rw [cell_of_heap h2]; rfl
  have hq : q < w.heap.size := lt_of_cell c0
  have hqf : w.frozen? ⟨q, 0, none⟩ = false := frozen_of_heap h2 0
  have HRN : Hid (RNX X w (slV d.2.2.2.2) x.A) := hd4.2.2.2.2
  have cC := fun W => cutAll7_any x d.2.2.2.2.1 d.2.2.2.2.2.1 d.2.2.2.2.2.2 (len5 x) W hgx htx rfl
  have hov' : ovV d = opV x (.slice d.2.2.2.2.1 d.2.2.2.2.2.1 d.2.2.2.2.2.2) := hov
  rw [← hov'] at cC
  have hN1 : D'.length ≤ 8388608 := by have := hR.len; rw [List.length_cons, ← hDr] at this; omega
  have hpos := len5_pos hgx
  have hn1 : ¬ n < 1 := by omega
  obtain ⟨L, hL⟩ : ∃ L, len5 x = L := ⟨_, rfl⟩
  have HM : Hid (min n L = L) := by show min n L = L; omega
  have cL' : Calls Tryz.prog 29 #[.pointer (some ⟨q, 0, none⟩)] (w.alloc (.cells (opC opZ nilS) 33)) fun r w' => r = .returned (.int .i64 L) ∧ Below (w.alloc (.cells (opC opZ nilS) 33)).heap.size (w.alloc (.cells (opC opZ nilS) 33)) w' := by rw [← hL]; exact cL
  simp only [hL] at cC
  have HX : Hid (¬ X q ∧ (∀ k, w.heap.size ≤ k → X k) ∧ RedX X w D' r ∧ w.heap[q]? = some (.cells #[.slice (some ⟨b, off, none⟩) (D'.length + 1) cap] 55 (0, 0))) := ⟨hnx, hX, ht4, h2⟩
  have HOV : Hid (ovV d = opV x (slV d.2.2.2.2)) := hov
  obtain ⟨m, hm⟩ : ∃ m, D'.length = m := ⟨_, rfl⟩
  have HMm : Hid (D'.length = m) := hm
  have HTL : Hid ((cap = 1 → RowO w (.slice (some ⟨b, off, none⟩) m 0) D') ∧ RowO w (.slice (some ⟨b, off + 7, none⟩) m (cap - 1)) D') := by rw [← hm]; exact ⟨htail1, htail2⟩
  rw [hm] at c0 hl hN1
  have e1 : (((m + 1 : Nat) : Int) == 0) = false := beq_eq_false_iff_ne.2 (by omega)
  have e2 : (0 : Int) < ((m + 1 : Nat) : Int) := by omega
  obtain ⟨m1, hm1⟩ : ∃ k, m + 1 = k := ⟨_, rfl⟩
  have HO : Hid (OpAt w b off d) := ho
  have hmm : m1 = m + 1 := hm1.symm
  clear cL h h2 h3 h4re hd4 ht4 hc hrow htail1 htail2 hov hov' hL hm hDr hR hgx htx hnx hz hn hX hpos HO hm1 hmm
  have e3 : (1 : Int) ≤ ((m + 1 : Nat) : Int) := by omega
  obtain ⟨W0, hW0⟩ : ∃ W, W = w.alloc (.cells (opC opZ nilS) 33) := ⟨_, rfl⟩
  obtain ⟨dk, dt, ⟨dx, dn, du⟩, dc, dp, dl, dcap⟩ := d
  simp only [ovV, ovC, slV] at cC HRN HOV
  go_enter Tryz.func21, Tryz.ntmps21
  go_wp2_with fail
  rw [← hW0] at b1 Z1 F1
  refine (hW0 ▸ cL' : Calls Tryz.prog 29 #[.pointer (some ⟨q, 0, none⟩)] (w.alloc (.cells (opC opZ nilS) 33)) fun r w' => r = .returned (.int .i64 L) ∧ Below W0.heap.size W0 w').mono ?_; rintro r w2 ⟨rfl, h2⟩
  clear hW0 cL'
  have b2 := b1.trans (h2.mono b1.size)
  have c2 := (b2.cell (lt_of_cell c0)).trans c0
  obtain ⟨d0, d1, d2, d3, d4, d5, d6⟩ := ho.below b2
  simp only [slV] at d0 d1 d2 d3 d4 d5 d6
  have HB2 : Hid (Below w.heap.size w w2 ∧ BoxO w2 w.heap.size opZ nilS ∧ FrO w2 w.heap.size ∧ w.heap.size < w2.heap.size) := ⟨b2, Z1.below h2, F1.below Z1 h2, lt_of_cell (Z1.below h2).d0⟩
  clear b1 Z1 F1 h2
  go_upto_region 6 with fail
  rw [HM.out]
  go_cut [6, 7, 8] (fun x6 x7 x8 wx => ∃ B6 B7, x6 = .pointer (some ⟨B6, 0, none⟩) ∧ x7 = .pointer (some ⟨B7, 0, none⟩) ∧ x8 = .bool false ∧ w2.heap.size ≤ B6 ∧ OpAt wx B6 0 (dk, dt, (dx, dn, du), dc, dp, dl, dcap) ∧ Below w2.heap.size w2 wx)
  case first =>
    go_wp2_with fail
    refine (cC _).mono ?_; rintro r' w3 ⟨rfl, h3⟩
    have bA := ((h3.alloc h3.size (.cells #[.int .i64 dk, .string dt, .int .i64 dx, .int .i64 dn, .string du, .int .i64 dc, .slice dp dl dcap] 33)).alloc (by rw [World.size_alloc]; have := h3.size; omega) (.cells (opC opZ nilS) 33))
    have hA : OpAt ((w3.alloc (.cells #[.int .i64 dk, .string dt, .int .i64 dx, .int .i64 dn, .string du, .int .i64 dc, .slice dp dl dcap] 33)).alloc (.cells (opC opZ nilS) 33)) w3.heap.size 0 (dk, dt, (dx, dn, du), dc, dp, dl, dcap) := by
      have q0 : OpAt (w3.alloc (.cells #[.int .i64 dk, .string dt, .int .i64 dx, .int .i64 dn, .string du, .int .i64 dc, .slice dp dl dcap] 33)) w3.heap.size 0 (dk, dt, (dx, dn, du), dc, dp, dl, dcap) := ⟨by simp, by simp, by simp, by simp, by simp, by simp, by simp⟩
      exact q0.below ((Below.refl _ _).alloc (Nat.le_refl _) _)
    have HZ : Hid (w2.heap.size ≤ w3.heap.size) := h3.size
    have HAA : Hid (OpAt _ w3.heap.size 0 (dk, dt, (dx, dn, du), dc, dp, dl, dcap) ∧ Below w2.heap.size w2 _) := ⟨hA, bA⟩
    clear h3 bA hA d0 d1 d2 d3 d4 d5 d6
    go_wp2
    go_meet
    exact ⟨_, _, rfl, rfl, rfl, HZ.out, HAA.out⟩
  case rest =>
    obtain ⟨B6, B7, rfl, rfl, rfl, h6, hop, hB⟩ := hcut
    clear cC d0 d1 d2 d3 d4 d5 d6 ho
    have c3 := (hB.cell (lt_of_cell c2)).trans c2
    have hcz : w2.heap.size ≤ wc.heap.size := hB.size
    have bE : Below w2.heap.size w2 (wc.alloc (.cells #[] 33)) := hB.alloc hcz _
    have c4 := (bE.cell (lt_of_cell c2)).trans c2
    have oE := own_emptyO wc wc.heap.size (Nat.le_refl _)
    have bW : Below w.heap.size w (wc.alloc (.cells #[] 33)) := HB2.out.1.trans (bE.mono HB2.out.1.size)
    have hT1 : cap = 1 → RowO (wc.alloc (.cells #[] 33)) (.slice (some ⟨b, off, none⟩) m 0) D' := fun h => (HTL.out.1 h).below bW
    have hT2 : RowO (wc.alloc (.cells #[] 33)) (.slice (some ⟨b, off + 7, none⟩) m (cap - 1)) D' := HTL.out.2.below bW
    have HT1 : Hid _ := hT1
    have HT2 : Hid _ := hT2
    have hl33 : ([] : List OV).length + D'.length ≤ 33554432 := by rw [HMm.out]; simp; omega
    have hbz : wc.heap.size ≤ (wc.alloc (.cells #[] 33)).heap.size := by rw [World.size_alloc]; omega
    have HK : Hid (∀ v9 w9, OwnO w9 wc.heap.size v9 ([] ++ D') → (wc.alloc (.cells #[] 33)).grownBy w9 (some wc.heap.size) → ∃ p9 c9, v9 = .slice p9 m c9 ∧ OwnO w9 wc.heap.size (.slice p9 m c9) D' ∧ Below wc.heap.size wc w9) := fun v9 w9 o9 g9 => by
      rw [List.nil_append] at o9
      obtain ⟨p9, c9, rfl⟩ := own_slice o9
      rw [HMm.out] at o9 ⊢
      exact ⟨p9, c9, rfl, o9, ((Below.refl _ wc).alloc (Nat.le_refl _) _).grown g9 hbz (fun j hj => by simp only [Option.some.injEq] at hj; omega)⟩
    have HC : Hid (Below w2.heap.size w2 wc ∧ OpAt wc B6 0 (dk, dt, (dx, dn, du), dc, dp, dl, dcap)) := ⟨hB, hop⟩
    have hqc : ¬ q = w.heap.size := by omega
    have hqc2 : ¬ w.heap.size = q := by omega
    have hq6 : ¬ B6 = q := by have := HB2.out.2.2.2; omega
    have hw6 : ¬ B6 = w.heap.size := by have := HB2.out.2.2.2; omega
    clear hop hB bE bW hT1 hT2
    have fin : ∀ p9 c9 w9, OwnO w9 wc.heap.size (.slice p9 m c9) D' → Below wc.heap.size wc w9 → w9.cell? ⟨q, 0, none⟩ = some (.slice (some ⟨b, off, none⟩) (m + 1) cap) ∧ w9.frozen? ⟨q, 0, none⟩ = false ∧ OpAt w9 B6 0 (dk, dt, (dx, dn, du), dc, dp, dl, dcap) ∧ BoxO w9 w.heap.size opZ nilS ∧ FrO w9 w.heap.size ∧ (∀ u0 u1 u2 u3 u4 u5 u6 : Value, ∀ W, W = ((((((((w9.setCell ⟨q, 0, none⟩ (.slice p9 m c9)).setCell ⟨w.heap.size, 0, none⟩ u0).setCell ⟨w.heap.size, 1, none⟩ u1).setCell ⟨w.heap.size, 2, none⟩ u2).setCell ⟨w.heap.size, 3, none⟩ u3).setCell ⟨w.heap.size, 4, none⟩ u4).setCell ⟨w.heap.size, 5, none⟩ u5).setCell ⟨w.heap.size, 6, none⟩ u6) → RfV X W q r ∧ FrQ q w W ∧ RN W (slV (dp, dl, dcap)) x.A) := fun p9 c9 w9 o9 b9 => by
      have g2 : Below w2.heap.size w2 w9 := HC.out.1.trans (b9.mono HC.out.1.size)
      have g0 : Below w.heap.size w w9 := HB2.out.1.trans (g2.mono HB2.out.1.size)
      refine ⟨(g2.cell (lt_of_cell c2)).trans c2, (g0.frozen hq).trans hqf, HC.out.2.below b9, HB2.out.2.1.below g2, HB2.out.2.2.1.below HB2.out.2.1 g2, fun u0 u1 u2 u3 u4 u5 u6 W hW => ?_⟩
      have f1 : FrQ q w (w9.setCell ⟨q, 0, none⟩ (.slice p9 m c9)) := (FrQ.of_below g0).trans (FrQ.set _ _ _ _)
      have f2 : FrQ q w W := by rw [hW]; exact set7_frq f1 (Nat.le_refl _) _ _ _ _ _ _ _
      have hq9 : w9.heap[q]? = some (.cells #[.slice (some ⟨b, off, none⟩) (D'.length + 1) cap] 55 (0, 0)) := heap_below g0 HX.out.2.2.2
      have e1 : W.heap[q]? = some (.cells #[.slice p9 m c9] 55 (0, 0)) := by
        rw [hW, heap_set7 _ hqc, heap_set_at w9 q 0 _ _ _ _ hq9]; rfl
      have e2 : OwnO W wc.heap.size (.slice p9 m c9) D' := owns_same o9 fun k hk => by
        have hk1 := (owns_block o9 k hk).1
        have hk2 := g2.size
        have hk3 := HB2.out.2.2.2
        have hk4 := HC.out.1.size
        rw [hW, heap_set7 _ (by omega), Below.heap_setCell _ _ _ _ (show k ≠ q by omega)]
      refine ⟨rfv_final f2 HX.out.1 e1 e2 (fun k hk => HX.out.2.1 k (by have := (owns_block e2 k hk).1; have := HB2.out.2.2.2; have := HC.out.1.size; omega)) (HX.out.2.2.1.kx (f2.kx HX.out.1)), f2, ?_⟩
      exact (RNX.kx HRN.out (f2.kx HX.out.1)).1
    have HFIN : Hid _ := fin
    clear fin
    by_cases hcap : cap = 1
    · have hm0 : m = 0 := by omega
      have hD0 : D' = [] := List.eq_nil_of_length_eq_zero (by rw [HMm.out, hm0])
      obtain ⟨k0, k1, ⟨k20, k21, k22, k23, k24, k25, k26⟩, ⟨k30, k31, k32, k33, k34, k35, k36⟩, ⟨k40, k41, k42, k43, k44, k45, k46⟩, k5⟩ := HFIN.out (some ⟨wc.heap.size, 0, none⟩) 0 (wc.alloc (.cells #[] 33)) (by rw [hD0, hm0]; exact oE) ((Below.refl _ _).alloc (Nat.le_refl _) _)
      subst hm0
      have HF5 : Hid _ := k5
      simp only [z0, slV] at k20 k21 k22 k23 k24 k25 k26 k30 k31 k32 k33 k34 k35 k36
      subst hcap
      clear k5 hD0 HT1 HT2 HK HFIN oE hl33
      go_wp2
      refine bodyPost_ret (v := .tuple #[opV x (slV (dp, dl, dcap)), .int .i64 0]) (by rw [← HOV.out]; simp [results, Tryz.results21, go_sem, k30, k31, k32, k33, k34, k35, k36]) rfl ?_
      obtain ⟨j1, j2, j3⟩ := HF5.out _ _ _ _ _ _ _ _ rfl
      exact ⟨_, rfl, j3, j1, j2⟩
    · go_wp2_with (at_builtin; refine wpList_append_rowO rfl (.tmp 37) (.tmp 42) rfl wc.heap.size (.slice (some ⟨wc.heap.size, 0, none⟩) 0 0) [] rfl oE (.slice (some ⟨b, off + 7, none⟩) m (cap - 1)) D' rfl HT2.out hl33 hbz ?_; intro v9 w9 own9 gr9; obtain ⟨p9, c9, rfl, o9, b9⟩ := HK.out v9 w9 own9 gr9; obtain ⟨k0, k1, ⟨k20, k21, k22, k23, k24, k25, k26⟩, ⟨k30, k31, k32, k33, k34, k35, k36⟩, ⟨k40, k41, k42, k43, k44, k45, k46⟩, k5⟩ := HFIN.out p9 c9 w9 o9 b9; have HF5 : Hid _ := k5; clear own9 gr9 o9 b9 k5; simp only [z0, slV] at k20 k21 k22 k23 k24 k25 k26 k30 k31 k32 k33 k34 k35 k36)
      refine bodyPost_ret (v := .tuple #[opV x (slV (dp, dl, dcap)), .int .i64 0]) (by rw [← HOV.out]; simp [results, Tryz.results21, go_sem, k30, k31, k32, k33, k34, k35, k36]) rfl ?_
      obtain ⟨j1, j2, j3⟩ := HF5.out _ _ _ _ _ _ _ _ rfl
      exact ⟨_, rfl, j3, j1, j2⟩
end Go.Proofs.YtpmnmlhmeidmeaaGreatDoor

/- Next of vellumref07's Walker, of a part. -/
namespace Go.Proofs.YtpmnmlhmeidmeaaGreatDoor
open Go Go.RowKit Go.Lib
set_option linter.unusedVariables false

set_option maxHeartbeats 4000000 in
set_option maxRecDepth 100000 in
theorem refNextPart_any {X : Nat → Prop} {q : Nat} {x : Op5} {r : List Op5} {N T K : Nat} (n : Int) (w : World) (h : RfV X w q (x :: r)) (hX : ∀ k, w.heap.size ≤ k → X k) (hR : Rst (x :: r) N T K) (hT : T ≤ 8388608) (hN : N ≤ 8388608) (hK : K ≤ 1048576) (h1n : 1 ≤ n) (hn : n < len5 x) :
    Calls Tryz.prog 21 #[.pointer (some ⟨q, 0, none⟩), .int .i64 n] w fun e w' => ∃ s, e = .returned (.tuple #[opV (hd7 x n) s, .int .i64 0]) ∧ RN w' s x.A ∧ RfV X w' q (tl7 x n :: r) ∧ FrQ q w w' := by
  have hgx := hR.good x (List.mem_cons_self ..)
  have htx : x.t.size ≤ 8388608 := Nat.le_trans (hR.size x (List.mem_cons_self ..)) hT
  have b1 : Below w.heap.size w (w.alloc (.cells (opC opZ nilS) 33)) := (Below.refl _ _).alloc (Nat.le_refl _) _
  have cL := refLeft7_any (w.alloc (.cells (opC opZ nilS) 33)) (h.below b1) hR hT
  have Z1 := BoxO.new w opZ nilS
  have F1 := FrO.new w opZ nilS
  have hnx := h.nx
  obtain ⟨vs, h2, D0, h3, h4⟩ := h.st
  have h4re := h4.re
  cases h4 with
  | cons hd4 ht4 =>
  rename_i d D'
  obtain ⟨p, cap, rfl, hl, hz, hc⟩ := id h3
  obtain ⟨b, off, rfl, hXb, ho⟩ := hc 0 d rfl
  rw [Nat.zero_mul, Nat.add_zero] at ho
  have hDr := forall2_len ht4
  have hrow := h3.row
  rw [List.length_cons] at h2 hl hrow
  obtain ⟨htail1, htail2⟩ := row_tail hrow rfl
  have hov : ovV d = opV x (slV d.2.2.2.2) := opV_of ⟨hd4.1, hd4.2.1, hd4.2.2.1, hd4.2.2.2.1, hd4.2.2.2.2.1⟩
  have c0 : w.cell? ⟨q, 0, none⟩ = some (.slice (some ⟨b, off, none⟩) (D'.length + 1) cap) := by rw [cell_of_heap h2]; rfl
  have hq : q < w.heap.size := lt_of_cell c0
  have hqf : w.frozen? ⟨q, 0, none⟩ = false := frozen_of_heap h2 0
  have hA1 : x.A.length ≤ 1048576 := Nat.le_trans (hR.attr x (List.mem_cons_self ..)) hK
  have cx := cut7 hgx h1n hn
  have HRd : Hid (RN w (slV d.2.2.2.2) x.A) := hd4.2.2.2.2.1
  have hov' : ovV d = opV x (.slice d.2.2.2.2.1 d.2.2.2.2.2.1 d.2.2.2.2.2.2) := hov
  have cC := fun W (hW : Below w.heap.size w W) => refCut7_any x d.2.2.2.2.1 d.2.2.2.2.2.1 d.2.2.2.2.2.2 n W hgx htx (HRd.out.below hW) hA1 h1n hn
  rw [← hov'] at cC
  obtain ⟨oa, hoa⟩ : ∃ o, hd7 x n = o := ⟨_, rfl⟩
  obtain ⟨ob, hob⟩ : ∃ o, tl7 x n = o := ⟨_, rfl⟩
  have HAB : Hid (oa.A = x.A ∧ ob.A = x.A) := by rw [← hoa, ← hob]; exact ⟨cx.hA, cx.tA⟩
  rw [hoa, hob]
  simp only [hoa, hob] at cC
  have hN1 : D'.length ≤ 8388608 := by have := hR.len; rw [List.length_cons, ← hDr] at this; omega
  have hpos := len5_pos hgx
  have hn1 : ¬ n < 1 := by omega
  obtain ⟨L, hL⟩ : ∃ L, len5 x = L := ⟨_, rfl⟩
  have HM : Hid (min n L = n) := by show min n L = n; omega
  have cL' : Calls Tryz.prog 29 #[.pointer (some ⟨q, 0, none⟩)] (w.alloc (.cells (opC opZ nilS) 33)) fun r w' => r = .returned (.int .i64 L) ∧ Below (w.alloc (.cells (opC opZ nilS) 33)).heap.size (w.alloc (.cells (opC opZ nilS) 33)) w' := by rw [← hL]; exact cL
  have HX : Hid (¬ X q ∧ (∀ k, w.heap.size ≤ k → X k) ∧ RedX X w D' r ∧ w.heap[q]? = some (.cells #[.slice (some ⟨b, off, none⟩) (D'.length + 1) cap] 55 (0, 0))) := ⟨hnx, hX, ht4, h2⟩
  obtain ⟨m, hm⟩ : ∃ m, D'.length = m := ⟨_, rfl⟩
  have HMm : Hid (D'.length = m) := hm
  have HTL : Hid ((cap = 1 → RowO w (.slice (some ⟨b, off, none⟩) m 0) D') ∧ RowO w (.slice (some ⟨b, off + 7, none⟩) m (cap - 1)) D') := by rw [← hm]; exact ⟨htail1, htail2⟩
  rw [hm] at c0 hl hN1
  have e1 : (((m + 1 : Nat) : Int) == 0) = false := beq_eq_false_iff_ne.2 (by omega)
  have e2 : (0 : Int) < ((m + 1 : Nat) : Int) := by omega
  obtain ⟨m1, hm1⟩ : ∃ k, m + 1 = k := ⟨_, rfl⟩
  have HO : Hid (OpAt w b off d) := ho
  have hmm : m1 = m + 1 := hm1.symm
  clear cL h h2 h3 h4re hd4 ht4 hc hrow htail1 htail2 hov hov' hL hm hDr hR hgx htx hnx hz hX hpos HO hm1 hmm hoa hob cx HRd hA1
  have e3 : (1 : Int) ≤ ((m + 1 : Nat) : Int) := by omega
  obtain ⟨W0, hW0⟩ : ∃ W, W = w.alloc (.cells (opC opZ nilS) 33) := ⟨_, rfl⟩
  obtain ⟨dk, dt, ⟨dx, dn, du⟩, dc, dp, dl, dcap⟩ := d
  simp only [ovV, ovC, slV] at cC
  obtain ⟨ak, at', ⟨ax, an, au⟩, ac, aA⟩ := oa
  obtain ⟨bk, bt, ⟨bx, bn, bu⟩, bc, bA'⟩ := ob
  simp only at cC HAB
  go_enter Tryz.func21, Tryz.ntmps21
  go_wp2_with fail
  rw [← hW0] at b1 Z1 F1
  refine (hW0 ▸ cL' : Calls Tryz.prog 29 #[.pointer (some ⟨q, 0, none⟩)] (w.alloc (.cells (opC opZ nilS) 33)) fun r w' => r = .returned (.int .i64 L) ∧ Below W0.heap.size W0 w').mono ?_; rintro r w2 ⟨rfl, h2⟩
  clear hW0 cL'
  have b2 := b1.trans (h2.mono b1.size)
  have c2 := (b2.cell (lt_of_cell c0)).trans c0
  obtain ⟨d0, d1, d2, d3, d4, d5, d6⟩ := ho.below b2
  simp only [slV] at d0 d1 d2 d3 d4 d5 d6
  have HB2 : Hid (Below w.heap.size w w2 ∧ BoxO w2 w.heap.size opZ nilS ∧ FrO w2 w.heap.size ∧ w.heap.size < w2.heap.size) := ⟨b2, Z1.below h2, F1.below Z1 h2, lt_of_cell (Z1.below h2).d0⟩
  clear b1 Z1 F1 h2
  go_upto_region 6 with fail
  rw [HM.out]
  go_cut [6, 7, 8] (fun x6 x7 x8 wx => ∃ B6 B7 p1 c1 p2 c2, x6 = .pointer (some ⟨B6, 0, none⟩) ∧ x7 = .pointer (some ⟨B7, 0, none⟩) ∧ x8 = .bool true ∧ w2.heap.size ≤ B6 ∧ w2.heap.size ≤ B7 ∧ OpAt wx B6 0 (ak, at', (ax, an, au), ac, p1, x.A.length, c1) ∧ OpAt wx B7 0 (bk, bt, (bx, bn, bu), bc, p2, x.A.length, c2) ∧ OwnA wx w2.heap.size (.slice p1 x.A.length c1) x.A ∧ OwnA wx w2.heap.size (.slice p2 x.A.length c2) x.A ∧ Below w2.heap.size w2 wx)
  case first =>
    go_wp2_with fail
    refine (cC _ b2).mono ?_; rintro r' w3 ⟨s1, s2, rfl, o1, o2, h3⟩
    obtain ⟨p1, c1, rfl⟩ := own_slice o1
    obtain ⟨p2, c2', rfl⟩ := own_slice o2
    have q1 : Below w3.heap.size w3 (w3.alloc (.cells #[.int .i64 ak, .string at', .int .i64 ax, .int .i64 an, .string au, .int .i64 ac, .slice p1 x.A.length c1] 33)) := (Below.refl _ _).alloc (Nat.le_refl _) _
    have q2 : Below (w3.alloc (.cells #[.int .i64 ak, .string at', .int .i64 ax, .int .i64 an, .string au, .int .i64 ac, .slice p1 x.A.length c1] 33)).heap.size _ ((w3.alloc (.cells #[.int .i64 ak, .string at', .int .i64 ax, .int .i64 an, .string au, .int .i64 ac, .slice p1 x.A.length c1] 33)).alloc (.cells #[.int .i64 bk, .string bt, .int .i64 bx, .int .i64 bn, .string bu, .int .i64 bc, .slice p2 x.A.length c2'] 33)) := (Below.refl _ _).alloc (Nat.le_refl _) _
    have q12 := q1.trans (q2.mono q1.size)
    have g1 : OpAt (w3.alloc (.cells #[.int .i64 ak, .string at', .int .i64 ax, .int .i64 an, .string au, .int .i64 ac, .slice p1 x.A.length c1] 33)) w3.heap.size 0 (ak, at', (ax, an, au), ac, p1, x.A.length, c1) := ⟨by simp, by simp, by simp, by simp, by simp, by simp, by simp⟩
    have g2 : OpAt ((w3.alloc (.cells #[.int .i64 ak, .string at', .int .i64 ax, .int .i64 an, .string au, .int .i64 ac, .slice p1 x.A.length c1] 33)).alloc (.cells #[.int .i64 bk, .string bt, .int .i64 bx, .int .i64 bn, .string bu, .int .i64 bc, .slice p2 x.A.length c2'] 33)) (w3.heap.size + 1) 0 (bk, bt, (bx, bn, bu), bc, p2, x.A.length, c2') := ⟨by simp, by simp, by simp, by simp, by simp, by simp, by simp⟩
    have HZ : Hid (w2.heap.size ≤ w3.heap.size) := h3.size
    have HAA : Hid (OpAt _ w3.heap.size 0 (ak, at', (ax, an, au), ac, p1, x.A.length, c1) ∧ OpAt _ (w3.heap.size + 1) 0 (bk, bt, (bx, bn, bu), bc, p2, x.A.length, c2') ∧ OwnA _ w2.heap.size (.slice p1 x.A.length c1) x.A ∧ OwnA _ w2.heap.size (.slice p2 x.A.length c2') x.A ∧ Below w2.heap.size w2 _) := ⟨g1.below q2, g2, owns_below o1 q12, owns_below o2 q12, h3.trans (q12.mono h3.size)⟩
    clear h3 o1 o2 q1 q2 q12 g1 g2 d0 d1 d2 d3 d4 d5 d6
    go_wp2
    go_meet
    exact ⟨_, _, _, _, _, _, rfl, rfl, rfl, HZ.out, Nat.le_succ_of_le HZ.out, HAA.out⟩
  case rest =>
    obtain ⟨B6, B7, p1, c1, p2, c2', rfl, rfl, rfl, h6, h7, hop, hop7, oA1, oA2, hB⟩ := hcut
    clear cC d0 d1 d2 d3 d4 d5 d6 ho
    have c3 := (hB.cell (lt_of_cell c2)).trans c2
    have hcz : w2.heap.size ≤ wc.heap.size := hB.size
    have bE : Below w2.heap.size w2 (wc.alloc (.cells #[] 33)) := hB.alloc hcz _
    have c4 := (bE.cell (lt_of_cell c2)).trans c2
    have oE := own_emptyO wc wc.heap.size (Nat.le_refl _)
    have bW : Below w.heap.size w (wc.alloc (.cells #[] 33)) := HB2.out.1.trans (bE.mono HB2.out.1.size)
    have hT1 : cap = 1 → RowO (wc.alloc (.cells #[] 33)) (.slice (some ⟨b, off, none⟩) m 0) D' := fun h => (HTL.out.1 h).below bW
    have hT2 : RowO (wc.alloc (.cells #[] 33)) (.slice (some ⟨b, off + 7, none⟩) m (cap - 1)) D' := HTL.out.2.below bW
    have HT1 : Hid _ := hT1
    have HT2 : Hid _ := hT2
    have hl33 : ([] : List OV).length + D'.length ≤ 33554432 := by rw [HMm.out]; simp; omega
    have hbz : wc.heap.size ≤ (wc.alloc (.cells #[] 33)).heap.size := by rw [World.size_alloc]; omega
    have HK : Hid (∀ v9 w9, OwnO w9 wc.heap.size v9 ([] ++ D') → (wc.alloc (.cells #[] 33)).grownBy w9 (some wc.heap.size) → ∃ p9 c9, v9 = .slice p9 m c9 ∧ OwnO w9 wc.heap.size (.slice p9 m c9) D' ∧ Below wc.heap.size wc w9) := fun v9 w9 o9 g9 => by
      rw [List.nil_append] at o9
      obtain ⟨p9, c9, rfl⟩ := own_slice o9
      rw [HMm.out] at o9 ⊢
      exact ⟨p9, c9, rfl, o9, ((Below.refl _ wc).alloc (Nat.le_refl _) _).grown g9 hbz (fun j hj => by simp only [Option.some.injEq] at hj; omega)⟩
    have HC : Hid (Below w2.heap.size w2 wc ∧ OpAt wc B6 0 (ak, at', (ax, an, au), ac, p1, x.A.length, c1) ∧ OpAt wc B7 0 (bk, bt, (bx, bn, bu), bc, p2, x.A.length, c2') ∧ OwnA wc w2.heap.size (.slice p1 x.A.length c1) x.A ∧ OwnA wc w2.heap.size (.slice p2 x.A.length c2') x.A) := ⟨hB, hop, hop7, oA1, oA2⟩
    have hqc : ¬ q = w.heap.size := by omega
    have hqc2 : ¬ w.heap.size = q := by omega
    have hq6 : ¬ B6 = q := by have := HB2.out.2.2.2; omega
    have hw6 : ¬ B6 = w.heap.size := by have := HB2.out.2.2.2; omega
    have HM7 : Hid (∀ W, Below wc.heap.size wc W → OpAt W B7 0 (bk, bt, (bx, bn, bu), bc, p2, x.A.length, c2')) := fun W hW => hop7.below hW
    clear hop hop7 oA1 oA2 hB bE bW hT1 hT2
    have fin : ∀ p9 c9 w9, OwnO w9 wc.heap.size (.slice p9 (m + 1) c9) ((bk, bt, (bx, bn, bu), bc, p2, x.A.length, c2') :: D') → Below wc.heap.size wc w9 → w9.cell? ⟨q, 0, none⟩ = some (.slice (some ⟨b, off, none⟩) (m + 1) cap) ∧ w9.frozen? ⟨q, 0, none⟩ = false ∧ OpAt w9 B6 0 (ak, at', (ax, an, au), ac, p1, x.A.length, c1) ∧ BoxO w9 w.heap.size opZ nilS ∧ FrO w9 w.heap.size ∧ (∀ u0 u1 u2 u3 u4 u5 u6 : Value, ∀ W, W = ((((((((w9.setCell ⟨q, 0, none⟩ (.slice p9 (m + 1) c9)).setCell ⟨w.heap.size, 0, none⟩ u0).setCell ⟨w.heap.size, 1, none⟩ u1).setCell ⟨w.heap.size, 2, none⟩ u2).setCell ⟨w.heap.size, 3, none⟩ u3).setCell ⟨w.heap.size, 4, none⟩ u4).setCell ⟨w.heap.size, 5, none⟩ u5).setCell ⟨w.heap.size, 6, none⟩ u6) → RfV X W q (⟨bk, bt, (bx, bn, bu), bc, bA'⟩ :: r) ∧ FrQ q w W ∧ RN W (.slice p1 x.A.length c1) x.A) := fun p9 c9 w9 o9 b9 => by
      have g2 : Below w2.heap.size w2 w9 := HC.out.1.trans (b9.mono HC.out.1.size)
      have g0 : Below w.heap.size w w9 := HB2.out.1.trans (g2.mono HB2.out.1.size)
      refine ⟨(g2.cell (lt_of_cell c2)).trans c2, (g0.frozen hq).trans hqf, HC.out.2.1.below b9, HB2.out.2.1.below g2, HB2.out.2.2.1.below HB2.out.2.1 g2, fun u0 u1 u2 u3 u4 u5 u6 W hW => ?_⟩
      have f1 : FrQ q w (w9.setCell ⟨q, 0, none⟩ (.slice p9 (m + 1) c9)) := (FrQ.of_below g0).trans (FrQ.set _ _ _ _)
      have f2 : FrQ q w W := by rw [hW]; exact set7_frq f1 (Nat.le_refl _) _ _ _ _ _ _ _
      have hq9 : w9.heap[q]? = some (.cells #[.slice (some ⟨b, off, none⟩) (D'.length + 1) cap] 55 (0, 0)) := heap_below g0 HX.out.2.2.2
      have e1 : W.heap[q]? = some (.cells #[.slice p9 (m + 1) c9] 55 (0, 0)) := by
        rw [hW, heap_set7 _ hqc, heap_set_at w9 q 0 _ _ _ _ hq9]; rfl
      have hk2 := g2.size
      have hk3 := HB2.out.2.2.2
      have hk4 := HC.out.1.size
      have far : ∀ k, w2.heap.size ≤ k → W.heap[k]? = w9.heap[k]? := fun k hk => by
        rw [hW, heap_set7 _ (by omega), Below.heap_setCell _ _ _ _ (show k ≠ q by omega)]
      have e2 : OwnO W wc.heap.size (.slice p9 (m + 1) c9) ((bk, bt, (bx, bn, bu), bc, p2, x.A.length, c2') :: D') := owns_same o9 fun k hk => far k (by have := (owns_block o9 k hk).1; omega)
      have e3 : OwnA W w2.heap.size (.slice p1 x.A.length c1) x.A := owns_same (owns_below HC.out.2.2.2.1 b9) fun k hk => far k (owns_block HC.out.2.2.2.1 k hk).1
      have e4 : OwnA W w2.heap.size (.slice p2 x.A.length c2') x.A := owns_same (owns_below HC.out.2.2.2.2 b9) fun k hk => far k (owns_block HC.out.2.2.2.2 k hk).1
      refine ⟨rfv_final f2 HX.out.1 e1 e2 (fun k hk => HX.out.2.1 k (by have := (owns_block e2 k hk).1; omega)) (.cons ⟨rfl, rfl, rfl, rfl, ?_⟩ (HX.out.2.2.1.kx (f2.kx HX.out.1))), f2, own_RN e3⟩
      rw [show (⟨bk, bt, (bx, bn, bu), bc, bA'⟩ : Op5).A = x.A from HAB.out.2]
      exact RNX.own e4 (fun k hk => HX.out.2.1 k (by have := (owns_block e4 k hk).1; omega))
    have HFIN : Hid _ := fin
    clear fin
    by_cases hcap : cap = 1
    · have hm0 : m = 0 := by omega
      have hD0 : D' = [] := List.eq_nil_of_length_eq_zero (by rw [HMm.out, hm0])
      have bE1 : Below wc.heap.size wc (wc.alloc (.cells #[] 33)) := (Below.refl _ _).alloc (Nat.le_refl _) _
      obtain ⟨i0, i1, i2, i3, i4, i5, i6⟩ := HM7.out _ bE1
      simp only [slV] at i0 i1 i2 i3 i4 i5 i6
      obtain ⟨k0, k1, ⟨k20, k21, k22, k23, k24, k25, k26⟩, ⟨k30, k31, k32, k33, k34, k35, k36⟩, ⟨k40, k41, k42, k43, k44, k45, k46⟩, k5⟩ := HFIN.out (some ⟨wc.heap.size + 1, 0, none⟩) 1 ((wc.alloc (.cells #[] 33)).alloc (.cells (ovC (bk, bt, (bx, bn, bu), bc, p2, x.A.length, c2')) 33)) (by have ho7 := own_oneO7 (wc.alloc (.cells #[] 33)) wc.heap.size hbz (bk, bt, (bx, bn, bu), bc, p2, x.A.length, c2'); rw [World.size_alloc] at ho7; rw [hD0, hm0]; exact ho7) (bE1.alloc hbz _)
      subst hm0
      simp only [ovC, slV] at k5
      have HF5 : Hid _ := k5
      simp only [z0, slV, ovC] at k20 k21 k22 k23 k24 k25 k26 k30 k31 k32 k33 k34 k35 k36 k0 k1 k40 k41 k42 k43 k44 k45 k46
      subst hcap
      clear k5 hD0 HT1 HT2 HK HFIN oE hl33 bE1
      go_wp2
      refine bodyPost_ret (v := .tuple #[opV ⟨ak, at', (ax, an, au), ac, aA⟩ (.slice p1 x.A.length c1), .int .i64 0]) (by simp [results, Tryz.results21, go_sem, k30, k31, k32, k33, k34, k35, k36]) rfl ?_
      obtain ⟨j1, j2, j3⟩ := HF5.out _ _ _ _ _ _ _ _ rfl
      exact ⟨_, rfl, j3, j1, j2⟩
    · have HE9 : Hid (∀ w9, Below wc.heap.size wc w9 → OwnO (w9.alloc (.cells (ovC (bk, bt, (bx, bn, bu), bc, p2, x.A.length, c2')) 33)) wc.heap.size (.slice (some ⟨w9.heap.size, 0, none⟩) 1 1) [(bk, bt, (bx, bn, bu), bc, p2, x.A.length, c2')] ∧ wc.heap.size ≤ (w9.alloc (.cells (ovC (bk, bt, (bx, bn, bu), bc, p2, x.A.length, c2')) 33)).heap.size) := fun w9 b9 => ⟨own_oneO7 _ _ b9.size _, by rw [World.size_alloc]; have := b9.size; omega⟩
      have hl34 : [(bk, bt, (bx, bn, bu), bc, p2, x.A.length, c2')].length + D'.length ≤ 33554432 := by rw [HMm.out]; simp; omega
      have HK2 : Hid (∀ w9 p9 c9 v10 w10, OwnO w9 wc.heap.size (.slice p9 m c9) D' → Below wc.heap.size wc w9 → OwnO w10 wc.heap.size v10 ([(bk, bt, (bx, bn, bu), bc, p2, x.A.length, c2')] ++ D') → (w9.alloc (.cells (ovC (bk, bt, (bx, bn, bu), bc, p2, x.A.length, c2')) 33)).grownBy w10 (some w9.heap.size) → ∃ p10 c10, v10 = .slice p10 (m + 1) c10 ∧ OwnO w10 wc.heap.size (.slice p10 (m + 1) c10) ((bk, bt, (bx, bn, bu), bc, p2, x.A.length, c2') :: D') ∧ Below wc.heap.size wc w10) := fun w9 p9 c9 v10 w10 o9 b9 o10 g10 => by
        rw [List.singleton_append] at o10
        obtain ⟨p10, c10, rfl⟩ := own_slice o10
        rw [List.length_cons, HMm.out] at o10 ⊢
        exact ⟨p10, c10, rfl, o10, (b9.alloc b9.size _).grown g10 (by rw [World.size_alloc]; have := b9.size; omega) (fun j hj => by simp only [Option.some.injEq] at hj; have := b9.size; omega)⟩
      go_wp2_with (first
        | (at_builtin; refine wpList_append_rowO rfl (.tmp 37) (.tmp 42) rfl wc.heap.size (.slice (some ⟨wc.heap.size, 0, none⟩) 0 0) [] rfl oE (.slice (some ⟨b, off + 7, none⟩) m (cap - 1)) D' rfl HT2.out hl33 hbz ?_; intro v9 w9 own9 gr9; obtain ⟨p9, c9, rfl, o9, b9⟩ := HK.out v9 w9 own9 gr9; obtain ⟨i0, i1, i2, i3, i4, i5, i6⟩ := HM7.out _ b9; simp only [slV] at i0 i1 i2 i3 i4 i5 i6; obtain ⟨oE9, hbz9⟩ := HE9.out w9 b9; have HR9 := (own_rowO o9).below ((Below.refl _ _).alloc (Nat.le_refl _) (.cells (ovC (bk, bt, (bx, bn, bu), bc, p2, x.A.length, c2')) 33)); have HK9 : Hid _ := HK2.out w9 p9 c9; have H9 : Hid _ := And.intro o9 b9; clear own9 gr9 o9 b9)
        | (at_builtin; refine wpList_append_rowO rfl (.tmp 46) (.tmp 47) rfl wc.heap.size (.slice (some ⟨w9.heap.size, 0, none⟩) 1 1) _ rfl oE9 (.slice p9 m c9) D' rfl HR9 hl34 hbz9 ?_; intro v10 w10 own10 gr10; obtain ⟨p10, c10, rfl, o10, b10⟩ := HK9.out v10 w10 H9.out.1 H9.out.2 own10 gr10; obtain ⟨k0, k1, ⟨k20, k21, k22, k23, k24, k25, k26⟩, ⟨k30, k31, k32, k33, k34, k35, k36⟩, ⟨k40, k41, k42, k43, k44, k45, k46⟩, k5⟩ := HFIN.out p10 c10 w10 o10 b10; have HF5 : Hid _ := k5; clear own10 gr10 o10 b10 k5; simp only [z0, slV] at k20 k21 k22 k23 k24 k25 k26 k30 k31 k32 k33 k34 k35 k36))
      refine bodyPost_ret (v := .tuple #[opV ⟨ak, at', (ax, an, au), ac, aA⟩ (.slice p1 x.A.length c1), .int .i64 0]) (by simp [results, Tryz.results21, go_sem, k30, k31, k32, k33, k34, k35, k36]) rfl ?_
      obtain ⟨j1, j2, j3⟩ := HF5.out _ _ _ _ _ _ _ _ rfl
      exact ⟨_, rfl, j3, j1, j2⟩
end Go.Proofs.YtpmnmlhmeidmeaaGreatDoor

/- Next of vellumref07's Walker; the law's is and w2. -/
namespace Go.Proofs.YtpmnmlhmeidmeaaGreatDoor
open Go Go.RowKit Go.Lib
set_option linter.unusedVariables false

theorem refNext_any {X : Nat → Prop} {q : Nat} {R : List Op5} {N T K : Nat} (n : Int) (w : World) (h : RfV X w q R) (hX : ∀ k, w.heap.size ≤ k → X k) (hR : Rst R N T K) (hT : T ≤ 8388608) (hN : N ≤ 8388608) (hK : K ≤ 1048576) (h1 : 1 ≤ n) :
    Calls Tryz.prog 21 #[.pointer (some ⟨q, 0, none⟩), .int .i64 n] w fun e w' => ∃ s, e = .returned (.tuple #[opV (nx7 R n).1 s, .int .i64 0]) ∧ RN w' s (nx7 R n).1.A ∧ RfV X w' q (nx7 R n).2 ∧ FrQ q w w' := by
  cases R with
  | nil => exact (refNextNil_any (N := 0) (T := 0) (K := 0) n w h h1).mono fun e w' ⟨e1, e2, e3⟩ => ⟨_, e1, RN.nil _, e2, e3⟩
  | cons x r =>
    by_cases hn : len5 x ≤ n
    · rw [nx_all hn]
      exact refNextAll_any n w h hX hR hT hN hn
    · rw [nx_part hn]
      have cx := cut7 (hR.good x (List.mem_cons_self ..)) h1 (by omega)
      exact (refNextPart_any n w h hX hR hT hN hK h1 (by omega)).mono fun e w' ⟨s, e1, e2, e3⟩ => ⟨s, e1, by rw [cx.hA]; exact e2, e3⟩
/-- What is asked of an operation that a step hasn't. -/
def got7 (o : Option Op5) : Op5 := o.getD opZ
set_option maxHeartbeats 2000000 in
set_option maxRecDepth 100000 in
theorem isNil_any (p : Option Addr) (l c : Nat) (w : World) :
    Calls Tryz.prog 22 #[.nilIface, opV opZ (.slice p l c)] w fun r w' => r = .returned (.bool true) ∧ Below w.heap.size w w' := by
  have b0 : Below w.heap.size w (w.alloc (.cells (opC opZ (.slice p l c)) 33)) := (Below.refl _ _).alloc (Nat.le_refl _) _
  go_enter Tryz.func22, Tryz.ntmps22
  go_wp2
  go_ret
  exact ⟨rfl, b0⟩
set_option maxHeartbeats 4000000 in
set_option maxRecDepth 100000 in
theorem isSome_any {B : Nat} (e : Op5) (s : Value) (p : Option Addr) (l c : Nat) (w : World) (hg : opE e = 0) (hA : OwnA w B s e.A) (hR : RN w (.slice p l c) e.A) (hl1 : e.A.length ≤ 1048576) :
    Calls Tryz.prog 22 #[pieceQ e s, opV e (.slice p l c)] w fun r w' => r = .returned (.bool true) ∧ Below w.heap.size w w' := by
  have hl : e.A.length ≤ 2097152 := by omega
  have b0 : Below w.heap.size w (w.alloc (.cells (opC e (.slice p l c)) 33)) := (Below.refl _ _).alloc (Nat.le_refl _) _
  have HU : Hid (∀ W, Below (w.alloc (.cells (opC e (.slice p l c)) 33)).heap.size (w.alloc (.cells (opC e (.slice p l c)) 33)) W → (W.cell? ⟨w.heap.size, 0, none⟩ = some (.int .i64 e.k) ∧ W.cell? ⟨w.heap.size, 1, none⟩ = some (.string e.t) ∧ W.cell? ⟨w.heap.size, 2, none⟩ = some (.int .i64 e.v.1) ∧ W.cell? ⟨w.heap.size, 3, none⟩ = some (.int .i64 e.v.2.1) ∧ W.cell? ⟨w.heap.size, 4, none⟩ = some (.string e.v.2.2) ∧ W.cell? ⟨w.heap.size, 5, none⟩ = some (.int .i64 e.c) ∧ W.cell? ⟨w.heap.size, 6, none⟩ = some (.slice p l c))) := fun W hW => by
    obtain ⟨a0, a1, a2, a3, a4, a5, a6⟩ := (BoxO.new w e (.slice p l c)).below hW
    exact ⟨a0, a1, a2, a3, a4, a5, a6⟩
  have HRO : Hid (∀ W, Below w.heap.size w W → RN W s e.A) := fun W hW => (own_RN hA).below hW
  have cS := fun (v' : Value) (W : World) (hW : Below w.heap.size w W) (B' : Nat) (ho : OwnA W B' v' e.A) => by
    have := sameR_any e e v' (.slice p l c) W (own_RN ho).row (hR.below hW).row (by omega) (by omega)
    rw [decide_eq_true rfl] at this
    exact this
  rcases kinds_of hg with hk | hk | hk | hk
  · rw [pieceQ_1 hk]
    have cO := fun W (hW : Below w.heap.size w W) => opQ_1 hg hk s W (HRO.out W hW) hl
    obtain ⟨N, hN⟩ : ∃ N : Int, ((scs e.t.data.toList).length : Int) = N := ⟨_, rfl⟩
    simp only [hN] at cO ⊢
    clear hN
    have hk0 : (e.k == 0) = false := beq_eq_false_iff_ne.2 (by omega)
    clear hg hk hl hl1 HRO hA hR
    obtain ⟨ek, et, ⟨ex, en, eu⟩, ec, eA⟩ := e
    simp only at cO cS b0 hk0 HU
    have m1 := HU.out _ (Below.refl _ _)
    have m0 := HU.out _ (Below.refl _ _).drew
    have bd : Below w.heap.size w (w.alloc (.cells #[.int .i64 ek, .string et, .int .i64 ex, .int .i64 en, .string eu, .int .i64 ec, .slice p l c] 33)).drew := b0.drew
    have HB1 : Hid (∀ W, Below (w.alloc (.cells #[.int .i64 ek, .string et, .int .i64 ex, .int .i64 en, .string eu, .int .i64 ec, .slice p l c] 33)).drew.heap.size (w.alloc (.cells #[.int .i64 ek, .string et, .int .i64 ex, .int .i64 en, .string eu, .int .i64 ec, .slice p l c] 33)).drew W → Below (w.alloc (.cells #[.int .i64 ek, .string et, .int .i64 ex, .int .i64 en, .string eu, .int .i64 ec, .slice p l c] 33)).heap.size (w.alloc (.cells #[.int .i64 ek, .string et, .int .i64 ex, .int .i64 en, .string eu, .int .i64 ec, .slice p l c] 33)) W) := fun W hW => (Below.refl _ _).drew.trans hW
    have HBD : Hid (Below w.heap.size w (w.alloc (.cells #[.int .i64 ek, .string et, .int .i64 ex, .int .i64 en, .string eu, .int .i64 ec, .slice p l c] 33)).drew) := bd
    clear b0
    go_enter Tryz.func22, Tryz.ntmps22
    go_wp2
    go_region_held3 (fun w' => (w'.cell? ⟨w.heap.size, 0, none⟩ = some (.int .i64 ek) ∧ w'.cell? ⟨w.heap.size, 1, none⟩ = some (.string et) ∧ w'.cell? ⟨w.heap.size, 2, none⟩ = some (.int .i64 ex) ∧ w'.cell? ⟨w.heap.size, 3, none⟩ = some (.int .i64 en) ∧ w'.cell? ⟨w.heap.size, 4, none⟩ = some (.string eu) ∧ w'.cell? ⟨w.heap.size, 5, none⟩ = some (.int .i64 ec) ∧ w'.cell? ⟨w.heap.size, 6, none⟩ = some (.slice p l c)) ∧ Below w.heap.size w w')
      (exact ⟨by first | (with_reducible assumption) | exact m0, by first | (with_reducible assumption) | exact HBD.out⟩)
      (first
        | (go_at_call 164; refine (cO _ ?_).mono ?_; (· first | (with_reducible assumption) | (apply And.right; with_reducible assumption) | exact HBD.out); rintro r wA ⟨v', rfl, oA, bA⟩; obtain ⟨pv, cv, rfl⟩ := own_slice oA; have bA' : Below w.heap.size w wA := HBD.out.trans (bA.mono HBD.out.size); have mA := HU.out wA (HB1.out _ bA); have HA : Hid _ := oA; have HB2 : Hid _ := HB1.out _ bA; clear oA)
        | (go_at_call 65; refine (cS _ _ bA' _ HA.out).mono ?_; rintro r wB ⟨rfl, bB⟩; have bB' : Below w.heap.size w wB := bA'.trans (bB.mono bA'.size); have mB := HU.out wB (HB2.out.trans (bB.mono HB2.out.size))))
    go_wp2
    go_ret
    exact ⟨rfl, bB'⟩
  · rw [pieceQ_2 hk]
    have cO := fun W (hW : Below w.heap.size w W) => opQ_2 hg hk s W (HRO.out W hW) hl
    obtain ⟨V, hV⟩ : ∃ V, valP e.v = V := ⟨_, rfl⟩
    simp only [hV] at cO ⊢
    clear hV
    have hk0 : (e.k == 0) = false := beq_eq_false_iff_ne.2 (by omega)
    clear hg hk hl hl1 HRO hA hR
    obtain ⟨ek, et, ⟨ex, en, eu⟩, ec, eA⟩ := e
    simp only at cO cS b0 hk0 HU
    have m1 := HU.out _ (Below.refl _ _)
    have m0 := HU.out _ (Below.refl _ _).drew
    have bd : Below w.heap.size w (w.alloc (.cells #[.int .i64 ek, .string et, .int .i64 ex, .int .i64 en, .string eu, .int .i64 ec, .slice p l c] 33)).drew := b0.drew
    have HB1 : Hid (∀ W, Below (w.alloc (.cells #[.int .i64 ek, .string et, .int .i64 ex, .int .i64 en, .string eu, .int .i64 ec, .slice p l c] 33)).drew.heap.size (w.alloc (.cells #[.int .i64 ek, .string et, .int .i64 ex, .int .i64 en, .string eu, .int .i64 ec, .slice p l c] 33)).drew W → Below (w.alloc (.cells #[.int .i64 ek, .string et, .int .i64 ex, .int .i64 en, .string eu, .int .i64 ec, .slice p l c] 33)).heap.size (w.alloc (.cells #[.int .i64 ek, .string et, .int .i64 ex, .int .i64 en, .string eu, .int .i64 ec, .slice p l c] 33)) W) := fun W hW => (Below.refl _ _).drew.trans hW
    have HBD : Hid (Below w.heap.size w (w.alloc (.cells #[.int .i64 ek, .string et, .int .i64 ex, .int .i64 en, .string eu, .int .i64 ec, .slice p l c] 33)).drew) := bd
    clear b0
    go_enter Tryz.func22, Tryz.ntmps22
    go_wp2
    go_region_held3 (fun w' => (w'.cell? ⟨w.heap.size, 0, none⟩ = some (.int .i64 ek) ∧ w'.cell? ⟨w.heap.size, 1, none⟩ = some (.string et) ∧ w'.cell? ⟨w.heap.size, 2, none⟩ = some (.int .i64 ex) ∧ w'.cell? ⟨w.heap.size, 3, none⟩ = some (.int .i64 en) ∧ w'.cell? ⟨w.heap.size, 4, none⟩ = some (.string eu) ∧ w'.cell? ⟨w.heap.size, 5, none⟩ = some (.int .i64 ec) ∧ w'.cell? ⟨w.heap.size, 6, none⟩ = some (.slice p l c)) ∧ Below w.heap.size w w')
      (exact ⟨by first | (with_reducible assumption) | exact m0, by first | (with_reducible assumption) | exact HBD.out⟩)
      (first
        | (go_at_call 166; refine (cO _ ?_).mono ?_; (· first | (with_reducible assumption) | (apply And.right; with_reducible assumption) | exact HBD.out); rintro r wA ⟨v', rfl, oA, bA⟩; obtain ⟨pv, cv, rfl⟩ := own_slice oA; have bA' : Below w.heap.size w wA := HBD.out.trans (bA.mono HBD.out.size); have mA := HU.out wA (HB1.out _ bA); have HA : Hid _ := oA; have HB2 : Hid _ := HB1.out _ bA; clear oA)
        | (go_at_call 65; refine (cS _ _ bA' _ HA.out).mono ?_; rintro r wB ⟨rfl, bB⟩; have bB' : Below w.heap.size w wB := bA'.trans (bB.mono bA'.size); have mB := HU.out wB (HB2.out.trans (bB.mono HB2.out.size))))
    go_wp2
    go_ret
    exact ⟨rfl, bB'⟩
  · rw [pieceQ_3 hk]
    have cO := fun W (hW : Below w.heap.size w W) => opQ_3 hg hk s W (HRO.out W hW) hl
    have hk0 : (e.k == 0) = false := beq_eq_false_iff_ne.2 (by omega)
    clear hg hk hl hl1 HRO hA hR
    obtain ⟨ek, et, ⟨ex, en, eu⟩, ec, eA⟩ := e
    simp only at cO cS b0 hk0 HU
    have m1 := HU.out _ (Below.refl _ _)
    have m0 := HU.out _ (Below.refl _ _).drew
    have bd : Below w.heap.size w (w.alloc (.cells #[.int .i64 ek, .string et, .int .i64 ex, .int .i64 en, .string eu, .int .i64 ec, .slice p l c] 33)).drew := b0.drew
    have HB1 : Hid (∀ W, Below (w.alloc (.cells #[.int .i64 ek, .string et, .int .i64 ex, .int .i64 en, .string eu, .int .i64 ec, .slice p l c] 33)).drew.heap.size (w.alloc (.cells #[.int .i64 ek, .string et, .int .i64 ex, .int .i64 en, .string eu, .int .i64 ec, .slice p l c] 33)).drew W → Below (w.alloc (.cells #[.int .i64 ek, .string et, .int .i64 ex, .int .i64 en, .string eu, .int .i64 ec, .slice p l c] 33)).heap.size (w.alloc (.cells #[.int .i64 ek, .string et, .int .i64 ex, .int .i64 en, .string eu, .int .i64 ec, .slice p l c] 33)) W) := fun W hW => (Below.refl _ _).drew.trans hW
    have HBD : Hid (Below w.heap.size w (w.alloc (.cells #[.int .i64 ek, .string et, .int .i64 ex, .int .i64 en, .string eu, .int .i64 ec, .slice p l c] 33)).drew) := bd
    clear b0
    go_enter Tryz.func22, Tryz.ntmps22
    go_wp2
    go_region_held3 (fun w' => (w'.cell? ⟨w.heap.size, 0, none⟩ = some (.int .i64 ek) ∧ w'.cell? ⟨w.heap.size, 1, none⟩ = some (.string et) ∧ w'.cell? ⟨w.heap.size, 2, none⟩ = some (.int .i64 ex) ∧ w'.cell? ⟨w.heap.size, 3, none⟩ = some (.int .i64 en) ∧ w'.cell? ⟨w.heap.size, 4, none⟩ = some (.string eu) ∧ w'.cell? ⟨w.heap.size, 5, none⟩ = some (.int .i64 ec) ∧ w'.cell? ⟨w.heap.size, 6, none⟩ = some (.slice p l c)) ∧ Below w.heap.size w w')
      (exact ⟨by first | (with_reducible assumption) | exact m0, by first | (with_reducible assumption) | exact HBD.out⟩)
      (first
        | (go_at_call 162; refine (cO _ ?_).mono ?_; (· first | (with_reducible assumption) | (apply And.right; with_reducible assumption) | exact HBD.out); rintro r wA ⟨v', rfl, oA, bA⟩; obtain ⟨pv, cv, rfl⟩ := own_slice oA; have bA' : Below w.heap.size w wA := HBD.out.trans (bA.mono HBD.out.size); have mA := HU.out wA (HB1.out _ bA); have HA : Hid _ := oA; have HB2 : Hid _ := HB1.out _ bA; clear oA)
        | (go_at_call 65; refine (cS _ _ bA' _ HA.out).mono ?_; rintro r wB ⟨rfl, bB⟩; have bB' : Below w.heap.size w wB := bA'.trans (bB.mono bA'.size); have mB := HU.out wB (HB2.out.trans (bB.mono HB2.out.size))))
    go_wp2
    go_ret
    exact ⟨rfl, bB'⟩
  · rw [pieceQ_4 hk]
    have cO := fun W (hW : Below w.heap.size w W) => opQ_4 hg hk W
    have hk0 : (e.k == 0) = false := beq_eq_false_iff_ne.2 (by omega)
    clear hg hk hl hl1 HRO hA hR
    obtain ⟨ek, et, ⟨ex, en, eu⟩, ec, eA⟩ := e
    simp only at cO cS b0 hk0 HU
    have m1 := HU.out _ (Below.refl _ _)
    have m0 := HU.out _ (Below.refl _ _).drew
    have bd : Below w.heap.size w (w.alloc (.cells #[.int .i64 ek, .string et, .int .i64 ex, .int .i64 en, .string eu, .int .i64 ec, .slice p l c] 33)).drew := b0.drew
    have HB1 : Hid (∀ W, Below (w.alloc (.cells #[.int .i64 ek, .string et, .int .i64 ex, .int .i64 en, .string eu, .int .i64 ec, .slice p l c] 33)).drew.heap.size (w.alloc (.cells #[.int .i64 ek, .string et, .int .i64 ex, .int .i64 en, .string eu, .int .i64 ec, .slice p l c] 33)).drew W → Below (w.alloc (.cells #[.int .i64 ek, .string et, .int .i64 ex, .int .i64 en, .string eu, .int .i64 ec, .slice p l c] 33)).heap.size (w.alloc (.cells #[.int .i64 ek, .string et, .int .i64 ex, .int .i64 en, .string eu, .int .i64 ec, .slice p l c] 33)) W) := fun W hW => (Below.refl _ _).drew.trans hW
    have HBD : Hid (Below w.heap.size w (w.alloc (.cells #[.int .i64 ek, .string et, .int .i64 ex, .int .i64 en, .string eu, .int .i64 ec, .slice p l c] 33)).drew) := bd
    clear b0
    go_enter Tryz.func22, Tryz.ntmps22
    go_wp2
    go_region_held3 (fun w' => (w'.cell? ⟨w.heap.size, 0, none⟩ = some (.int .i64 ek) ∧ w'.cell? ⟨w.heap.size, 1, none⟩ = some (.string et) ∧ w'.cell? ⟨w.heap.size, 2, none⟩ = some (.int .i64 ex) ∧ w'.cell? ⟨w.heap.size, 3, none⟩ = some (.int .i64 en) ∧ w'.cell? ⟨w.heap.size, 4, none⟩ = some (.string eu) ∧ w'.cell? ⟨w.heap.size, 5, none⟩ = some (.int .i64 ec) ∧ w'.cell? ⟨w.heap.size, 6, none⟩ = some (.slice p l c)) ∧ Below w.heap.size w w')
      (exact ⟨by first | (with_reducible assumption) | exact m0, by first | (with_reducible assumption) | exact HBD.out⟩)
      (first
        | (go_at_call 160; refine (cO _ ?_).mono ?_; (· first | (with_reducible assumption) | (apply And.right; with_reducible assumption) | exact HBD.out); rintro r wA ⟨v', rfl, oA, bA⟩; obtain ⟨pv, cv, rfl⟩ := own_slice oA; have bA' : Below w.heap.size w wA := HBD.out.trans (bA.mono HBD.out.size); have mA := HU.out wA (HB1.out _ bA); have HA : Hid _ := oA; have HB2 : Hid _ := HB1.out _ bA; clear oA)
        | (go_at_call 65; refine (cS _ _ bA' _ HA.out).mono ?_; rintro r wB ⟨rfl, bB⟩; have bB' : Below w.heap.size w wB := bA'.trans (bB.mono bA'.size); have mB := HU.out wB (HB2.out.trans (bB.mono HB2.out.size))))
    go_wp2
    go_ret
    exact ⟨rfl, bB'⟩
set_option maxHeartbeats 2000000 in
set_option maxRecDepth 100000 in
theorem w27_any (o : Op5) (p : Option Addr) (l c : Nat) (w : World) (hg : opE o = 0) (ht : o.t.size ≤ 8388608) :
    Calls Tryz.prog 23 #[opV o (.slice p l c)] w fun r w' => r = .returned (.int .i64 (len5 o)) ∧ Below w.heap.size w w' := by
  have b0 : Below w.heap.size w (w.alloc (.cells (opC o (.slice p l c)) 33)) := (Below.refl _ _).alloc (Nat.le_refl _) _
  rcases op_good hg with ⟨hi, hk⟩ | ⟨hc, hA, hk⟩ | ⟨hc, hA, hk⟩
  · have cL := refLen4_any o (.slice p l c) (w.alloc (.cells (opC o (.slice p l c)) 33)) hi ht
    have e : len5 o = (lenO o : Int) := by unfold len5; rw [if_pos hk]
    rw [e]
    obtain ⟨L, hL⟩ : ∃ L, lenO o = L := ⟨_, rfl⟩
    rw [hL] at cL ⊢
    clear hi hg ht hL e
    obtain ⟨k, t, ⟨x, z, u⟩, c', A⟩ := o
    simp only at hk cL b0 ⊢
    rcases hk with rfl | rfl
    all_goals
      go_enter Tryz.func23, Tryz.ntmps23
      go_wp2_with fail
      refine cL.mono ?_; rintro r w2 ⟨rfl, hb2⟩
      have b2 := b0.trans (hb2.mono b0.size)
      go_wp2
      go_ret
      exact ⟨rfl, b2⟩
  · rw [len5_3 (.inl hk)]
    clear hc hA hg ht
    obtain ⟨k, t, ⟨x, z, u⟩, c', A⟩ := o
    simp only at hk b0 ⊢
    subst hk
    go_enter Tryz.func23, Tryz.ntmps23
    go_wp2
    go_ret
    exact ⟨rfl, b0⟩
  · rw [len5_3 (.inr hk)]
    clear hc hA hg ht
    obtain ⟨k, t, ⟨x, z, u⟩, c', A⟩ := o
    simp only at hk b0 ⊢
    subst hk
    go_enter Tryz.func23, Tryz.ntmps23
    go_wp2
    go_ret
    exact ⟨rfl, b0⟩
end Go.Proofs.YtpmnmlhmeidmeaaGreatDoor

/- A fixed delta lives. -/
namespace Go.Proofs.YtpmnmlhmeidmeaaGreatDoor
open Go Go.RowKit Go.Lib Go.Shelf
set_option linter.unusedVariables false
attribute [local go_sem] Oper.semAt_some

def liveW : List Op5 := [txtO ⟨#[97, 98, 99]⟩, delO 2]
theorem liveW_ok : ofE 0 0 liveW = (0, 0) := by kernel_rfl
theorem liveW_canon : canonL liveW = liveW := by kernel_rfl
theorem liveW_nil : ∀ o ∈ liveW, o.A = [] := by
  intro o ho
  simp only [liveW, List.mem_cons, List.not_mem_nil, or_false] at ho
  rcases ho with rfl | rfl <;> rfl
theorem liveW_fit : FitL liveW := by
  intro o ho
  refine fit_nil ?_ ?_ (liveW_nil o ho)
  all_goals
    simp only [liveW, List.mem_cons, List.not_mem_nil, or_false] at ho
    rcases ho with rfl | rfl <;> decide
theorem liveW_good : ∀ o ∈ liveW, opE o = 0 := by
  intro o ho
  simp only [liveW, List.mem_cons, List.not_mem_nil, or_false] at ho
  rcases ho with rfl | rfl <;> kernel_rfl
theorem liveW_rst : Rst liveW 2 3 0 := ⟨liveW_good, fun o ho => (liveW_fit o ho).fitA, by decide, fun o ho => by rw [liveW_nil o ho]; exact Nat.le_refl _, by decide, by kernel_rfl, by kernel_rfl, by decide, by decide⟩
theorem liveW_left : left7 liveW = 3 := by kernel_rfl
theorem liveW_kind : kind7 liveW = 1 := rfl
theorem liveW_len : len5 (nx7 liveW 2).1 = 2 := by kernel_rfl
theorem liveW_left2 : left7 (nx7 liveW 2).2 = 1 := by kernel_rfl
theorem eqf1 (x : Nat) (W : World) : (binOp .eql 115 (.func (.func 81) #[] #[.pointer (some ⟨x, 0, none⟩)]) .nilFunc).run Tryz.prog W = .ok (.bool false) W := by kernel_rfl
theorem eqf2 (x y : Nat) (W : World) : (binOp .eql 71 (.func (.func 70) #[] #[.pointer (some ⟨x, 0, none⟩), .pointer (some ⟨y, 0, none⟩)]) .nilFunc).run Tryz.prog W = .ok (.bool false) W := by kernel_rfl
theorem tr_below {T : TypeId → Prop} {n B : Nat} {w A A' : World} (h : Below n w A) (hn : n ≤ w.heap.size) (hB : n ≤ B) (k : Tr7 T B A A') : Below n w A' :=
  ⟨k.os.trans h.os, k.tape.trans h.tape, k.output.trans h.output, Nat.le_trans h.size k.size, fun j hj => by
    have hl : j < A.heap.size := by have := h.size; omega
    rw [k.kept j A.heap[j] (Array.getElem?_eq_getElem hl) (.inl (by omega)), ← h.block j hj, Array.getElem?_eq_getElem hl]⟩
theorem KZ.set {pre : List PZ} {x : PZ} {W : World} {N : Nat} {v : Value} (h : W.heap[N]? = some (.cells #[v] 3 (0, 0))) (u : Value) : KZ pre x W (W.setCell ⟨N, 0, none⟩ u) :=
  ⟨by simp [World.setCell], fun k cs hk => (Below.heap_setCell _ _ _ _ (fun e => by subst e; rw [h] at hk; cases hk)).trans hk, fun k cs hk _ => (Below.heap_setCell _ _ _ _ (fun e => by subst e; rw [h] at hk; cases hk)).trans hk⟩
theorem leave1 {fn : Func} (n0 : World) (W : World) (D : Nat) (tmps : Array Value) (hr : ∀ W', (results fn tmps).run Tryz.prog W' = .ok (.bool true) W')
    (hK : W.heap[D]? = some (.deferred (some []))) (h1 : n0.heap.size ≤ D) (hb : Below n0.heap.size n0 W) :
    bodyPostM Fence.wide 5 Tryz.prog fn (fun e w' => e = .returned (.bool true) ∧ Below n0.heap.size n0 w') Exit.ret
      { tmps := tmps, defers := [{ target := .collected D, args := #[] }] } W := by
  refine ⟨by simp, .inl ⟨_, _, rfl, run_takeDeferred hK, ?_⟩⟩
  refine ⟨.bool true, hr _, rfl, ?_⟩
  exact hb.trans (belowK_b (w := n0) (Nat.le_refl _) _ D _ _ h1 hK rfl rfl)
set_option maxHeartbeats 4000000 in
set_option maxRecDepth 100000 in
theorem lives7_any {I : List Nat} {a : Nat → Addr} (w : World) (hI : ∀ i ∈ IxO, i ∈ I) (hS : Std I a w) :
    Calls Tryz.prog 16 #[] w fun r w' => r = .returned (.bool true) ∧ Below w.heap.size w w' := by
  have CO : Hid (∀ W b, Below w.heap.size w W → W.heap[b]? = some (.cells (cellsO (liveW.map ovN)).toArray 33 (0, 0)) → Calls Tryz.prog 37 #[.slice (some ⟨b, 0, none⟩) 2 2] W fun r w' => ∃ dv, r = .returned (.tuple #[dv, .int .i64 0, .nilIface]) ∧ (∃ q, dv = .pointer (some ⟨q, 0, none⟩)) ∧ DelV w' W.heap.size W.heap.size dv liveW ∧ Below W.heap.size W w') := fun W b hW hb => by
    refine (buildOf_any _ liveW W hI (hS.below hW) (re_blk hb liveW_nil) liveW_fit (by decide) (by decide)).mono ?_
    rintro r w' ⟨dv, h1, h2, _, h4⟩
    rw [liveW_ok] at h1 h2
    rw [liveW_canon] at h2
    have h5 := h2 rfl
    obtain ⟨q, pv, PL, e, _⟩ := id h5
    exact ⟨dv, h1, ⟨q, e⟩, h5, h4⟩
  have CR : Hid (∀ W B q g, Below w.heap.size w W → WkV W B q g (nx7 liveW 2).2 → Calls Tryz.prog 25 #[.pointer (some ⟨q, 0, none⟩)] W fun r w' => ∃ dv, r = .returned dv ∧ (∃ q, dv = .pointer (some ⟨q, 0, none⟩)) ∧ DelV w' W.heap.size W.heap.size dv (nx7 liveW 2).2 ∧ Below W.heap.size W w') := fun W B q g hW hw => by
    refine (restW_any W hI (hS.below hW) hw (liveW_rst.next (n := 2) (by decide)) (by decide) (by decide) (by decide)).mono ?_
    rintro r w' ⟨dv, h1, h2, h3⟩
    obtain ⟨q, pv, PL, e, _⟩ := id h2
    exact ⟨dv, h1, ⟨q, e⟩, h2, h3⟩
  have b1 : Below w.heap.size w (w.alloc (.cells (cellsO (liveW.map ovN)).toArray 33)) := (Below.refl _ _).alloc (Nat.le_refl _) _
  have cO := CO.out _ _ b1 (heap_alloc_new w _)
  clear hS hI CO
  refine (callsIn_wide (n := 5)).1 ?_
  refine callsIn_of_wp_marks Tryz.func16 rfl trivial ?_ rfl
  simp only [Tryz.ntmps16, List.size_toArray, List.length_nil, Nat.reduceSub, Array.replicate_succ, Array.replicate_zero, List.push_toArray, List.append_toArray, List.nil_append, List.cons_append]
  rw [wpIn_wide]
  go_wp2_with fail
  refine cO.mono ?_; rintro r w2 ⟨dv, rfl, ⟨qd, rfl⟩, hd, h2⟩
  have b2 := b1.trans (h2.mono b1.size)
  have HD : Hid (∃ B1 B2, DelV w2 B1 B2 (.pointer (some ⟨qd, 0, none⟩)) liveW) := ⟨_, _, hd⟩
  have cN := newW_any _ liveW w2 hd liveW_good (fun o ho => by rw [liveW_nil o ho]; exact Nat.zero_le _) (by decide)
  clear cO b1 h2 hd
  go_wp2_with fail
  refine cN.mono ?_; rintro r w3 ⟨q, g, rfl, hw3, -, h3⟩
  have b3 := b2.trans (h3.mono b2.size)
  have H3 : Hid (WkV w3 w2.heap.size q g liveW ∧ Below w2.heap.size w2 w3) := ⟨hw3, h3⟩
  have cK := kind7_any w3 hw3 liveW_good
  rw [liveW_kind] at cK
  clear cN hw3 h3
  go_wp2_with fail
  refine cK.mono ?_; rintro r w4 ⟨rfl, h4⟩
  have b4 := b3.trans (h4.mono b3.size)
  have H4 : Hid (WkV w4 w2.heap.size q g liveW ∧ Below w2.heap.size w2 w4) := ⟨H3.out.1.below h4, H3.out.2.trans (h4.mono H3.out.2.size)⟩
  have cL := left7_any w4 H4.out.1 liveW_good
  rw [liveW_left] at cL
  clear cK h4 H3
  go_wp2_with fail
  refine cL.mono ?_; rintro r w5 ⟨rfl, h5⟩
  have b5 := b4.trans (h5.mono b4.size)
  have H5 : Hid (WkV w5 w2.heap.size q g liveW ∧ Below w2.heap.size w2 w5) := ⟨H4.out.1.below h5, H4.out.2.trans (h5.mono H4.out.2.size)⟩
  have cD := doneW_any w5 H5.out.1
  rw [decide_eq_false (show ¬ liveW = [] by decide)] at cD
  clear cL h5 H4
  go_wp2_with fail
  refine cD.mono ?_; rintro r w6 ⟨rfl, h6⟩
  have b6 := b5.trans (h6.mono b5.size)
  have H6 : Hid (WkV w6 w2.heap.size q g liveW ∧ Below w2.heap.size w2 w6) := ⟨H5.out.1.below h6, H5.out.2.trans (h6.mono H5.out.2.size)⟩
  have cX := nextW_any 2 w6 H6.out.1 liveW_rst (by decide) (by decide) (by decide) (by decide)
  clear cD h6 H5
  go_wp2_with fail
  refine cX.mono ?_; rintro r w7 ⟨s, rfl, o7, k7, f7⟩
  have h67 : Below w2.heap.size w6 w7 := f7.below H6.out.1.lq H6.out.1.lg H6.out.2.size
  have b7 := b6.trans (h67.mono b2.size)
  have H7 : Hid (WkV w7 w2.heap.size q g (nx7 liveW 2).2 ∧ Below w2.heap.size w2 w7) := ⟨k7, H6.out.2.trans h67⟩
  have hq7 : pieceQ (nx7 liveW 2).1 s = .iface 151 (.agg #[s, .string (nx7 liveW 2).1.t, .int .i64 2]) := by
    rw [pieceQ_1 rfl, show ((scs (nx7 liveW 2).1.t.data.toList).length : Int) = 2 by kernel_rfl]
  rw [hq7]
  obtain ⟨T7, hT7⟩ : ∃ T, (nx7 liveW 2).1.t = T := ⟨_, rfl⟩
  rw [hT7]
  clear cX o7 k7 f7 h67 hq7 hT7 H6
  go_wp2_with fail
  refine (ilen_any _ _ _ _).mono ?_; rintro r w8 ⟨rfl, h8⟩
  have b8 := b7.trans (h8.mono b7.size)
  have H8 : Hid (WkV w8 w2.heap.size q g (nx7 liveW 2).2 ∧ Below w2.heap.size w2 w8) := ⟨H7.out.1.below h8, H7.out.2.trans (h8.mono H7.out.2.size)⟩
  have hgR := (liveW_rst.next (n := 2) (by decide)).good
  have cL := left7_any w8 H8.out.1 hgR
  rw [liveW_left2] at cL
  clear h8 H7
  go_wp2_with fail
  refine cL.mono ?_; rintro r w9 ⟨rfl, h9⟩
  have b9 := b8.trans (h9.mono b8.size)
  have H9 : Hid (WkV w9 w2.heap.size q g (nx7 liveW 2).2 ∧ Below w2.heap.size w2 w9) := ⟨H8.out.1.below h9, H8.out.2.trans (h9.mono H8.out.2.size)⟩
  have cR := CR.out w9 _ q g b9 H9.out.1
  clear cL h9 H8 CR hgR
  go_wp2_with fail
  refine cR.mono ?_; rintro r w10 ⟨dr, rfl, ⟨qr, rfl⟩, hdr, h10⟩
  have b10 := b9.trans (h10.mono b9.size)
  obtain ⟨B1, B2, hd2⟩ := HD.out
  have hd10 : DelV w10 B1 B2 (.pointer (some ⟨qd, 0, none⟩)) liveW := (hd2.below H9.out.2).below h10
  have h11 : Below w10.heap.size w10 (w10.alloc (.cells #[.int .i64 0] 3)) := (Below.refl _ _).alloc (Nat.le_refl _) _
  have n11 : (w10.alloc (.cells #[.int .i64 0] 3)).cell? ⟨w10.heap.size, 0, none⟩ = some (.int .i64 0) ∧ (w10.alloc (.cells #[.int .i64 0] 3)).frozen? ⟨w10.heap.size, 0, none⟩ = false ∧ (w10.alloc (.cells #[.int .i64 0] 3)).heap.size = w10.heap.size + 1 := ⟨by simp, by simp, by simp⟩
  have b11 := b10.trans (h11.mono b10.size)
  have H11 : Hid (DelV (w10.alloc (.cells #[.int .i64 0] 3)) B1 B2 (.pointer (some ⟨qd, 0, none⟩)) liveW ∧ DelV (w10.alloc (.cells #[.int .i64 0] 3)) w9.heap.size w9.heap.size (.pointer (some ⟨qr, 0, none⟩)) (nx7 liveW 2).2) := ⟨hd10.below h11, hdr.below h11⟩
  have cE := each7_call _ liveW _ H11.out.1
  have HN : Hid ((w10.alloc (.cells #[.int .i64 0] 3)).cell? ⟨w10.heap.size, 0, none⟩ = some (.int .i64 0) ∧ (w10.alloc (.cells #[.int .i64 0] 3)).frozen? ⟨w10.heap.size, 0, none⟩ = false ∧ w10.heap.size < (w10.alloc (.cells #[.int .i64 0] 3)).heap.size) := ⟨n11.1, n11.2.1, by rw [n11.2.2]; omega⟩
  have HB11 : Hid (Below w.heap.size w (w10.alloc (.cells #[.int .i64 0] 3)) ∧ w.heap.size ≤ w10.heap.size) := ⟨b11, b10.size⟩
  clear cR h10 hd2 hd10 hdr h11 n11 b11 HD H9
  go_wp2_with fail
  refine cE.mono ?_; rintro r w12 ⟨xE, rfl, hbx, _, h12⟩
  have H12 : Hid (DelV w12 B1 B2 (.pointer (some ⟨qd, 0, none⟩)) liveW ∧ DelV w12 w9.heap.size w9.heap.size (.pointer (some ⟨qr, 0, none⟩)) (nx7 liveW 2).2 ∧ BoxD w12 xE B1 B2 liveW) := ⟨H11.out.1.below h12, H11.out.2.below h12, hbx⟩
  have HM12 : Hid (w12.cell? ⟨w10.heap.size, 0, none⟩ = some (.int .i64 0) ∧ w12.frozen? ⟨w10.heap.size, 0, none⟩ = false ∧ w10.heap.size < w12.heap.size ∧ Below w.heap.size w w12) :=
    ⟨(h12.cell (lt_of_cell HN.out.1)).trans HN.out.1, (h12.frozen (lt_of_cell HN.out.1)).trans HN.out.2.1, Nat.lt_of_lt_of_le HN.out.2.2 h12.size, HB11.out.1.trans (h12.mono HB11.out.1.size)⟩
  have HN12 : Hid (w12.heap[w10.heap.size]? = some (.cells #[.int .i64 0] 3 (0, 0))) := heap_below h12 (heap_alloc_new w10 _)
  have cS := steps7_call _ _ liveW liveW w12 H12.out.1 H12.out.1
  clear cE hbx h12 H11 HN
  go_wp2_with fail
  refine cS.mono ?_; rintro r w13 ⟨x1, x2, rfl, _, _, h13⟩
  have H13 : Hid (DelV w13 w9.heap.size w9.heap.size (.pointer (some ⟨qr, 0, none⟩)) (nx7 liveW 2).2 ∧ BoxD w13 xE B1 B2 liveW) := ⟨H12.out.2.1.below h13, H12.out.2.2.below h13⟩
  have HM13 : Hid (w13.cell? ⟨w10.heap.size, 0, none⟩ = some (.int .i64 0) ∧ w13.frozen? ⟨w10.heap.size, 0, none⟩ = false ∧ w10.heap.size < w13.heap.size ∧ Below w.heap.size w w13) :=
    ⟨(h13.cell (lt_of_cell HM12.out.1)).trans HM12.out.1, (h13.frozen (lt_of_cell HM12.out.1)).trans HM12.out.2.1, Nat.lt_of_lt_of_le HM12.out.2.2.1 h13.size, HM12.out.2.2.2.trans (h13.mono HM12.out.2.2.2.size)⟩
  have HN13 : Hid (w13.heap[w10.heap.size]? = some (.cells #[.int .i64 0] 3 (0, 0))) := heap_below h13 HN12.out
  have cC := count_any5 _ _ w13 H13.out.1
  clear cS h13 H12 HM12
  go_wp2_with fail
  refine cC.mono ?_; rintro r w14 ⟨rfl, h14⟩
  have H14 : Hid (BoxD w14 xE B1 B2 liveW) := H13.out.2.below h14
  have HM14 : Hid (w14.cell? ⟨w10.heap.size, 0, none⟩ = some (.int .i64 0) ∧ w14.frozen? ⟨w10.heap.size, 0, none⟩ = false ∧ w10.heap.size < w14.heap.size ∧ Below w.heap.size w w14) :=
    ⟨(h14.cell (lt_of_cell HM13.out.1)).trans HM13.out.1, (h14.frozen (lt_of_cell HM13.out.1)).trans HM13.out.2.1, Nat.lt_of_lt_of_le HM13.out.2.2.1 h14.size, HM13.out.2.2.2.trans (h14.mono HM13.out.2.2.2.size)⟩
  have e14 : (((nx7 liveW 2).2.length : Nat) : Int) = 2 := by kernel_rfl
  rw [e14]
  have hz10 : w.heap.size ≤ w10.heap.size := HB11.out.2
  have HN14 : Hid (w14.heap[w10.heap.size]? = some (.cells #[.int .i64 (([] : List PZ).length : Nat)] 3 (0, 0))) := heap_below h14 HN13.out
  have q1 := eqf1
  have q2 := eqf2
  clear cC h14 H13 HM13 e14
  go_wp2_with fail
  refine (wpIn_wide (n := 5)).1 ?_
  refine wpIn_rangeFunc_G (encs := encZ) rfl (by decide) (gf := 81) (lb := #[.pointer (some ⟨xE, 0, none⟩)]) rfl trivial (enters_of Tryz.func81 (by kernel_rfl) rfl)
    (each7_seq liveW w14 xE B1 B2 H14.out liveW_good (fun o ho => by rw [liveW_nil o ho]; exact Nat.zero_le _) (by decide) 4 (by decide)) (Below.refl _ _) (fun _ => rfl) (fun pre x A A' h k => h.bk k) (fun pre x A A' B B' k1 h k2 => KZ.bk k1 h k2)
    (fun xs W => W.heap[w10.heap.size]? = some (.cells #[.int .i64 xs.length] 3 (0, 0)) ∧ Below w.heap.size w W) (fun _ _ _ => False)
    (fun s A A' h k => ⟨k.kept _ _ h.1 (.inl HM14.out.2.2.1), tr_below h.2 (Nat.le_refl _) HM14.out.2.2.2.size k⟩) (fun _ _ _ _ h _ => h) ⟨HN14.out, HM14.out.2.2.2⟩ ?a1 ?assign ?body ?done ?stop
  case assign =>
    intro l x W K hK
    gi_wp2
    exact hK
  case body =>
    rintro l pre x W ⟨hN, hB⟩ ⟨e, s', he, _⟩
    have hk : pre.length < 2 := (List.getElem?_eq_some_iff.1 he).1
    have c0 : W.cell? ⟨w10.heap.size, 0, none⟩ = some (.int .i64 pre.length) := by rw [cell_of_heap hN]; rfl
    have f0 : W.frozen? ⟨w10.heap.size, 0, none⟩ = false := frozen_of_heap hN 0
    have HE : Hid (KZ pre x W (W.setCell ⟨w10.heap.size, 0, none⟩ (.int .i64 ((pre ++ [x]).length : Nat))) ∧ (W.setCell ⟨w10.heap.size, 0, none⟩ (.int .i64 ((pre ++ [x]).length : Nat))).heap[w10.heap.size]? = some (.cells #[.int .i64 ((pre ++ [x]).length : Nat)] 3 (0, 0)) ∧ Below w.heap.size w (W.setCell ⟨w10.heap.size, 0, none⟩ (.int .i64 ((pre ++ [x]).length : Nat)))) :=
      ⟨KZ.set hN _, by rw [heap_set_at W _ 0 _ _ _ _ hN]; rfl, hB.setCell (p := ⟨w10.heap.size, 0, none⟩) hz10 _⟩
    obtain ⟨k, hkk⟩ : ∃ k, pre.length = k := ⟨_, rfl⟩
    have e2 : ((pre ++ [x]).length : Int) = (k : Int) + 1 := by rw [List.length_append, hkk]; simp
    rw [hkk] at c0 hk
    rw [e2] at HE
    clear hN hB he e2
    gi_wp2
    exact ⟨(KeepsOthers.setCell _ _ _).from _, HE.out.1, by rw [List.length_append, hkk]; exact HE.out.2.1, HE.out.2.2⟩
  case stop => intro D c pre W _ h; exact h.elim
  case done =>
    rintro D xs W hD hS ⟨hN, hB⟩ hK
    have c0 : W.cell? ⟨w10.heap.size, 0, none⟩ = some (.int .i64 2) := by rw [cell_of_heap hN, hS]; rfl
    have hD' : w.heap.size ≤ D := Nat.le_trans HM14.out.2.2.2.size hD
    clear hN hS
    gi_wp2
    go_wp2
    exact leave1 w W D _ (fun W' => by simp [results, Tryz.results16, go_sem]) hK hD' hB
end Go.Proofs.YtpmnmlhmeidmeaaGreatDoor

/- Both Walkers side by side. -/
namespace Go.Proofs.YtpmnmlhmeidmeaaGreatDoor
open Go Go.RowKit Go.Lib
set_option linter.unusedVariables false

/-- Blocks but three. -/
def X3 (q g qv : Nat) (k : Nat) : Prop := k ≠ q ∧ k ≠ g ∧ k ≠ qv
structure SP (w1 wr : World) (q g qv : Nat) (R : List Op5) : Prop where
  a : WkV wr w1.heap.size q g R
  b : RfV (X3 q g qv) wr qv R
  n1 : qv ≠ q
  n2 : R ≠ [] → qv ≠ g
  lv : w1.heap.size ≤ qv
  hg : g < wr.heap.size
  bl : Below w1.heap.size w1 wr
theorem WkV.same2 {w w' : World} {B q g : Nat} {R : List Op5} (h : WkV w B q g R) (hq : ∀ o, w.heap[q]? = some o → w'.heap[q]? = some o) (hg : R ≠ [] → ∀ o, w.heap[g]? = some o → w'.heap[g]? = some o) (hk : KeepA w w') : WkV w' B q g R := by
  obtain ⟨h1, h2, h3, p, cap, h4, h5, h6⟩ := h
  refine ⟨h1, h2, h3, p, cap, hq _ h4, h5, fun h0 => ?_⟩
  obtain ⟨off, cs, e, hgo, hr⟩ := h6 h0
  refine ⟨off, cs, e, hg h0 _ hgo, fun j x hx => ?_⟩
  obtain ⟨s, a1, a2⟩ := hr j x hx
  exact ⟨s, a1, keepA_own a2 hk⟩
theorem SP.below {w1 wr w' : World} {q g qv : Nat} {R : List Op5} (h : SP w1 wr q g qv R) (b : Below wr.heap.size wr w') : SP w1 w' q g qv R :=
  ⟨h.a.below b, h.b.below b, h.n1, h.n2, h.lv, Nat.lt_of_lt_of_le h.hg b.size, h.bl.trans (b.mono h.bl.size)⟩
theorem RfV.lt {X : Nat → Prop} {w : World} {q : Nat} {R : List Op5} (h : RfV X w q R) : q < w.heap.size := by
  obtain ⟨vs, h2, _⟩ := h.st
  exact (Array.getElem?_eq_some_iff.1 h2).1
theorem SP.new {w1 wr : World} {q g qv : Nat} {R : List Op5} (h : SP w1 wr q g qv R) : ∀ k, wr.heap.size ≤ k → X3 q g qv k := fun k hk => by
  have h1 := h.a.lt
  have h2 := h.b.lt
  have h3 := h.hg
  exact ⟨by omega, by omega, by omega⟩
theorem SP.mid {w1 wr w' : World} {q g qv : Nat} {R R' : List Op5} (h : SP w1 wr q g qv R) (ha : WkV w' w1.heap.size q g R') (f : FrW q g wr w') : RfV (X3 q g qv) w' qv R ∧ Below w1.heap.size w1 w' ∧ (∀ k, w'.heap.size ≤ k → X3 q g qv k) := by
  obtain ⟨vs, h2, h3⟩ := id h.b.st
  refine ⟨h.b.kept (fun k hk hl => ?_) ?_, h.bl.trans (f.below h.a.lq h.a.lg h.bl.size), fun k hk => h.new k (Nat.le_trans f.size hk)⟩
  · rw [f.kept k wr.heap[k] (Array.getElem?_eq_getElem hl) (.inr ⟨hk.1, hk.2.1⟩), Array.getElem?_eq_getElem hl]
  · rw [f.kept qv _ h2 (.inl (by rintro ⟨cs, t, fz, e, ht⟩; cases e; rcases ht with ht | ht <;> exact absurd ht (by decide))), h2]
theorem keepA_frq {q : Nat} {w w' : World} {vs : Value} (f : FrQ q w w') (h : w.heap[q]? = some (.cells #[vs] 55 (0, 0))) : KeepA w w' := fun k cur hk =>
  f.kept k (Array.getElem?_eq_some_iff.1 hk).1 (fun e => by subst e; rw [h] at hk; cases hk)
theorem SP.step {w1 wr w' w'' : World} {q g qv : Nat} {R R' : List Op5} (h : SP w1 wr q g qv R) (hR : R' ≠ [] → R ≠ []) (ha : WkV w' w1.heap.size q g R') (f : FrW q g wr w') (hb : RfV (X3 q g qv) w'' qv R') (f2 : FrQ qv w' w'') : SP w1 w'' q g qv R' := by
  obtain ⟨m1, m2, _⟩ := h.mid ha f
  obtain ⟨vs, h2, _⟩ := id m1.st
  refine ⟨ha.same2 (fun o ho => ?_) (fun h0 o ho => ?_) (keepA_frq f2 h2), hb, h.n1, fun h0 => h.n2 (hR h0), h.lv, Nat.lt_of_lt_of_le h.hg (Nat.le_trans f.size f2.size), m2.trans (f2.below h.lv m2.size)⟩
  · rw [f2.kept _ (Array.getElem?_eq_some_iff.1 ho).1 (Ne.symm h.n1), ho]
  · rw [f2.kept _ (Array.getElem?_eq_some_iff.1 ho).1 (Ne.symm (h.n2 (hR h0))), ho]
theorem nx_ne {R : List Op5} (n : Int) : (nx7 R n).2 ≠ [] → R ≠ [] := fun h e => by subst e; exact h rfl
/-- Both, laid one behind the other. -/
theorem sp_new {w1 w2 : World} {q g : Nat} {E : List Op5} {ov : Value} (ha : WkV w2 w1.heap.size q g E) (hg : E ≠ [] → g < w2.heap.size) (hb : Below w1.heap.size w1 w2) (ho : ReO w1 ov E) : ∃ g', SP w1 (w2.alloc (.cells #[ov] 55)) q g' w2.heap.size E := by
  have bA : Below w2.heap.size w2 (w2.alloc (.cells #[ov] 55)) := (Below.refl _ _).alloc (Nat.le_refl _) _
  have hq := ha.lt
  have hlq := ha.lq
  have hlg := ha.lg
  have hs := hb.size
  have hn := heap_alloc_new w2 (.cells #[ov] 55)
  have rf : ∀ g', w1.heap.size ≤ g' → RfV (X3 q g' w2.heap.size) (w2.alloc (.cells #[ov] 55)) w2.heap.size E := fun g' hg' =>
    ⟨fun h => h.2.2 rfl, ov, hn, (ReX.of (X := X3 q g' w2.heap.size) ho (fun k hk => ⟨by omega, by omega, by omega⟩)).kx fun k hk hl => (hb.trans (bA.mono hs)).block k hl⟩
  by_cases h0 : E = []
  · subst h0
    exact ⟨w2.heap.size, (ha.below bA).nilG (by omega) hs, rf _ hs, by omega, fun h => absurd rfl h, hs, by rw [World.size_alloc]; omega, hb.trans (bA.mono hs)⟩
  · have := hg h0
    exact ⟨g, ha.below bA, rf _ hlg, by omega, fun _ => by omega, hs, by rw [World.size_alloc]; omega, hb.trans (bA.mono hs)⟩
/-- A row of calls. -/
structure CallAt (w : World) (b off : Nat) (s : Int × Int) : Prop where
  c0 : w.cell? ⟨b, off, none⟩ = some (.int .i64 s.1)
  c1 : w.cell? ⟨b, off + 1, none⟩ = some (.int .i64 s.2)
theorem CallAt.below {w w' : World} {b off : Nat} {s : Int × Int} (h : CallAt w b off s) (k : Below w.heap.size w w') : CallAt w' b off s :=
  ⟨(k.cell (lt_of_cell h.c0)).trans h.c0, (k.cell (lt_of_cell h.c1)).trans h.c1⟩
def RowS (w : World) (v : Value) (L : List (Int × Int)) : Prop :=
  ∃ p cap, v = .slice p L.length cap ∧ L.length ≤ cap ∧ ∀ (j : Nat) (s : Int × Int), L[j]? = some s → ∃ b off, p = some ⟨b, off, none⟩ ∧ CallAt w b (off + j * 2) s ∧ (-9223372036854775808 ≤ s.1 ∧ s.1 ≤ 9223372036854775807) ∧ (-9223372036854775808 ≤ s.2 ∧ s.2 ≤ 9223372036854775807)
end Go.Proofs.YtpmnmlhmeidmeaaGreatDoor

/- A slice of a Walker's calls (two numbers each) among the arguments. -/
namespace Go.Proofs.YtpmnmlhmeidmeaaGreatDoor
open Go Go.RowKit Go.Lib Go.ChangeShapes Go.WideShapes Go.ChangeAt Go.Joins
set_option linter.unusedVariables false

theorem cellsCa : Tryz.prog.cellsOf 57 = 2 := by kernel_rfl
theorem wf64 {n : Int} (h : (Lit.int .i64 n).wf = true) : -9223372036854775808 ≤ n ∧ n ≤ 9223372036854775807 := by
  simpa [Lit.wf, IntKind.min, IntKind.max, IntKind.signed, IntKind.bits] using h
set_option maxRecDepth 100000 in
theorem trod_ca {H : Type} {enc : TypeId × Value → H} {W : World} {cs : List Value} {d : DataW H} {p : List MemPlace} {fuel : Nat} (hlen : cs.length = 2)
    (h : DataW.trod enc Tryz.prog W 0 (fun _ => true) true fuel 57 cs = some (d, p)) :
    ∃ s : Int × Int, cs = [.int .i64 s.1, .int .i64 s.2] ∧ (∀ x ∈ p, x.block < W.heap.size) ∧ (-9223372036854775808 ≤ s.1 ∧ s.1 ≤ 9223372036854775807) ∧ (-9223372036854775808 ≤ s.2 ∧ s.2 ≤ 9223372036854775807) := by
  have k1 : Tryz.prog.cellsOf 3 = 1 := by kernel_rfl
  obtain ⟨xs, kk, _, hxy, _, hxl, hf⟩ := DataW.trod_struct Tryz.underlying57 h
  match xs, hxl, cs, hlen with
  | [y0, y1], _, [v0, v1], _ =>
    have g0 := hf 0 _ rfl
    have g1 := hf 1 _ rfl
    simp [k1] at g0
    simp [k1] at g1
    obtain ⟨k, e0, rfl, w0⟩ := DataW.trod_int Tryz.underlying3 g0
    obtain ⟨m, e1, rfl, w1⟩ := DataW.trod_int Tryz.underlying3 g1
    simp at e0 e1
    subst e0 e1
    simp only [Prod.mk.injEq] at hxy
    obtain ⟨rfl, rfl⟩ := hxy
    exact ⟨(k, m), rfl, fun y hy => by simp at hy, wf64 w0, wf64 w1⟩
set_option maxRecDepth 100000 in
theorem open_calls {H : Type} {enc : TypeId × Value → H} {W : World} {base : Nat} {v : Value} {d : DataW H} {p : List MemPlace}
    (hok : Value.okWide Tryz.prog W .any base 47 v) (h : DataW.Trod enc Tryz.prog W 0 (fun _ => true) true 47 v d p) :
    ∃ (ps : Option Addr) (n cap : Nat) (S : List (Int × Int)), v = .slice ps n cap ∧ S.length = n ∧ RowS W (.slice ps n cap) S ∧ (∀ x ∈ p, x.block < W.heap.size) := by
  obtain ⟨a0, len0, cap0, rfl⟩ := okWide_slice Tryz.underlying47 hok
  obtain ⟨fuel, hf⟩ := h
  rcases Go.Deep.open_slice Tryz.underlying47 hf with ⟨hcs, hx⟩ | ⟨a, len, cap, m, n, D, Pl, hcs, _, hlc, _, hm, hx, hel⟩
  · have hcs' : a0 = none ∧ len0 = 0 ∧ cap0 = 0 := by simpa [Value.cells] using hcs
    obtain ⟨rfl, rfl, rfl⟩ := hcs'
    simp only [Prod.mk.injEq] at hx
    obtain ⟨rfl, rfl⟩ := hx
    exact ⟨none, 0, 0, [], rfl, rfl, ⟨none, 0, rfl, Nat.le_refl _, fun j s h => by simp at h⟩, by simp⟩
  · have hcs' : a0 = some a ∧ len0 = len ∧ cap0 = cap := by simpa [Value.cells] using hcs
    obtain ⟨rfl, rfl, rfl⟩ := hcs'
    simp only [Prod.mk.injEq] at hx
    obtain ⟨rfl, rfl⟩ := hx
    simp only [if_true] at hm
    subst hm
    have each : ∀ i, i < m → ∃ q : Int × Int, (W.cell? (a.add (i * 2)) = some (.int .i64 q.1) ∧ W.cell? ((a.add (i * 2)).add 1) = some (.int .i64 q.2)) ∧ (∀ x ∈ Pl i, x.block < W.heap.size) ∧ (-9223372036854775808 ≤ q.1 ∧ q.1 ≤ 9223372036854775807) ∧ (-9223372036854775808 ≤ q.2 ∧ q.2 ≤ 9223372036854775807) := by
      intro i hi
      obtain ⟨cs', h1, h2⟩ := hel i hi
      rw [cellsCa] at h1
      obtain ⟨_, hlen, hcell⟩ := World.cells?_some h1
      obtain ⟨s, hcs, hP, b1, b2⟩ := trod_ca hlen h2
      subst hcs
      have q0 := hcell 0 (by simp)
      have q1 := hcell 1 (by simp)
      exact ⟨s, ⟨by simpa [Addr.add] using q0, by simpa [Addr.add] using q1⟩, hP, b1, b2⟩
    haveI : Inhabited (Int × Int) := ⟨(0, 0)⟩
    obtain ⟨q, hq⟩ := Go.Deep.choose_lt each
    have hlm : len0 ≤ m := by simpa using hlc
    refine ⟨some a, len0, m, (List.range len0).map q, rfl, by simp, ⟨some a, m, by simp, by simpa using hlc, fun j s hs => ?_⟩, fun x hx => ?_⟩
    · have hjl := (List.getElem?_eq_some_iff.1 hs).1
      rw [List.length_map, List.length_range] at hjl
      have es : q j = s := by simpa [hjl] using hs
      subst es
      obtain ⟨⟨c0, c1⟩, _, b1, b2⟩ := hq j (by omega)
      obtain ⟨b, off, spot⟩ := a
      have h00 := (hq 0 (by omega)).1.1
      have : spot = none := by simpa [Addr.add] using World.cell?_spot h00
      subst this
      simp only [Addr.add_lit, Nat.add_assoc] at c0 c1
      exact ⟨b, off, rfl, ⟨c0, by simpa [Nat.add_assoc] using c1⟩, b1, b2⟩
    · rcases List.mem_append.1 hx with hx | hx
      · obtain ⟨i, hi, rfl⟩ := MemPlace.mem_row.1 hx
        rcases Nat.eq_zero_or_pos m with h0 | h0
        · rw [h0, Nat.zero_mul] at hi; omega
        have := lt_of_cell (hq 0 h0).1.1
        show a.block < W.heap.size
        simpa [Addr.add] using this
      · obtain ⟨i, hi, hx⟩ := List.mem_flatMap.1 hx
        exact (hq i (List.mem_range.1 hi)).2.1 x hx
end Go.Proofs.YtpmnmlhmeidmeaaGreatDoor

/- The errors' numbers: what vellumnum.list and vellumnum.Num answer where all nineteen sentinels lie as laid. -/
namespace Go.Proofs.YtpmnmlhmeidmeaaGreatDoor
open Go Go.RowKit
set_option linter.unusedVariables false

/-- All nineteen. -/
def all19 : List Nat := List.range 19
abbrev Sent (a : Nat → Addr) (w : World) : Prop := Er all19 a w
theorem in19 {i : Nat} (h : i < 19) : i ∈ all19 := List.mem_range.2 h
def errA (a : Nat → Addr) : Array Value := #[errV a 0, errV a 1, errV a 2, errV a 3, errV a 4, errV a 5, errV a 6, errV a 7, errV a 8, errV a 9, errV a 10, errV a 11, errV a 12, errV a 13, errV a 14, errV a 15, errV a 16, errV a 17, errV a 18]

theorem wl_build (a : Nat → Addr) {ops : Array Oper} {rest : List Oper} {o : Oper} {A : Act} {w : World} {Q : Exit → Act → World → Prop} (hg : o.guard = none) (parts : Array (Nat × Operand)) (ho : o.op = .build 112 parts)
    (hp : (parts.map fun (i, x) => (i, A.eval x)) = #[(0, errV a 0), (1, errV a 1), (2, errV a 2), (3, errV a 3), (4, errV a 4), (5, errV a 5), (6, errV a 6), (7, errV a 7), (8, errV a 8), (9, errV a 9), (10, errV a 10), (11, errV a 11), (12, errV a 12), (13, errV a 13), (14, errV a 14), (15, errV a 15), (16, errV a 16), (17, errV a 17), (18, errV a 18)])
    (h : wpList Tryz.prog ops Q rest (A.put o.dst (.agg (errA a))) w) : wpList Tryz.prog ops Q (o :: rest) A w := by
  have hb : Tryz.prog.built 112 (parts.map fun (i, x) => (i, A.eval x)).toList = some (errA a) := by rw [hp]; kernel_rfl
  refine wpList_build hg 112 parts ho (by rw [hb]; rfl) ?_
  rw [hb]; exact h

theorem alloc_setRow (w : World) (old cs : Array Value) (t : TypeId) : (w.alloc (.cells old t)).setRow w.heap.size cs = w.alloc (.cells cs t) := by
  have : ((w.heap.push (.cells old t)).modify w.heap.size fun | .cells _ t f => .cells cs t f | o => o) = w.heap.push (.cells cs t) := by
    apply Array.ext
    · simp
    · intro i h1 h2
      rw [Array.getElem_modify]
      by_cases hi : w.heap.size = i
      · subst hi; simp
      · rw [if_neg hi]
        have : i < w.heap.size := by simp at h2; omega
        simp [Array.getElem_push, this]
  show { w with heap := (w.heap.push (.cells old t)).modify w.heap.size _ } = { w with heap := w.heap.push _ }
  rw [← this]; rfl

theorem wl_store (a : Nat → Addr) {ops : Array Oper} {rest : List Oper} {o : Oper} {A : Act} {w : World} {Q : Exit → Act → World → Prop} {old : Array Value} (hg : o.guard = none) (x y : Operand) (ho : o.op = .store 112 x y)
    (hx : A.eval x = .pointer (some ⟨w.heap.size, 0, none⟩)) (hy : A.eval y = .agg (errA a)) (hold : old.size = 19)
    (h : wpList Tryz.prog ops Q rest (A.put o.dst undef) (w.alloc (.cells (errA a) 112))) : wpList Tryz.prog ops Q (o :: rest) A (w.alloc (.cells old 112)) := by
  refine wpList_store_row hg 112 x y ho w.heap.size (errA a) hx hy 112 old (by show (w.heap.push _)[w.heap.size]? = _; simp) (by kernel_rfl) (by rw [hold]; rfl) (by kernel_rfl) ?_
  rw [alloc_setRow]; exact h

set_option maxHeartbeats 400000 in
set_option maxRecDepth 100000 in
theorem list_any (a : Nat → Addr) (w : World) (h : ∀ i, i < 19 → w.cell? ⟨[2, 3, 4, 5, 6, 7, 8, 9, 10, 11, 12, 1, 13, 14, 15, 16, 17, 0, 18].getD i 0, 0, none⟩ = some (errV a i)) :
    Calls Tryz.prog 56 #[] w fun e w' => e = .returned (.agg (errA a)) ∧ Below w.heap.size w w' := by
  have h0 : w.cell? ⟨2, 0, none⟩ = some (errV a 0) := h 0 (by omega)
  have h1 : w.cell? ⟨3, 0, none⟩ = some (errV a 1) := h 1 (by omega)
  have h2 : w.cell? ⟨4, 0, none⟩ = some (errV a 2) := h 2 (by omega)
  have h3 : w.cell? ⟨5, 0, none⟩ = some (errV a 3) := h 3 (by omega)
  have h4 : w.cell? ⟨6, 0, none⟩ = some (errV a 4) := h 4 (by omega)
  have h5 : w.cell? ⟨7, 0, none⟩ = some (errV a 5) := h 5 (by omega)
  have h6 : w.cell? ⟨8, 0, none⟩ = some (errV a 6) := h 6 (by omega)
  have h7 : w.cell? ⟨9, 0, none⟩ = some (errV a 7) := h 7 (by omega)
  have h8 : w.cell? ⟨10, 0, none⟩ = some (errV a 8) := h 8 (by omega)
  have h9 : w.cell? ⟨11, 0, none⟩ = some (errV a 9) := h 9 (by omega)
  have h10 : w.cell? ⟨12, 0, none⟩ = some (errV a 10) := h 10 (by omega)
  have h11 : w.cell? ⟨1, 0, none⟩ = some (errV a 11) := h 11 (by omega)
  have h12 : w.cell? ⟨13, 0, none⟩ = some (errV a 12) := h 12 (by omega)
  have h13 : w.cell? ⟨14, 0, none⟩ = some (errV a 13) := h 13 (by omega)
  have h14 : w.cell? ⟨15, 0, none⟩ = some (errV a 14) := h 14 (by omega)
  have h15 : w.cell? ⟨16, 0, none⟩ = some (errV a 15) := h 15 (by omega)
  have h16 : w.cell? ⟨17, 0, none⟩ = some (errV a 16) := h 16 (by omega)
  have h17 : w.cell? ⟨0, 0, none⟩ = some (errV a 17) := h 17 (by omega)
  have h18 : w.cell? ⟨18, 0, none⟩ = some (errV a 18) := h 18 (by omega)
  have z0 : 2 < w.heap.size := lt_of_cell h0
  have z1 : 3 < w.heap.size := lt_of_cell h1
  have z2 : 4 < w.heap.size := lt_of_cell h2
  have z3 : 5 < w.heap.size := lt_of_cell h3
  have z4 : 6 < w.heap.size := lt_of_cell h4
  have z5 : 7 < w.heap.size := lt_of_cell h5
  have z6 : 8 < w.heap.size := lt_of_cell h6
  have z7 : 9 < w.heap.size := lt_of_cell h7
  have z8 : 10 < w.heap.size := lt_of_cell h8
  have z9 : 11 < w.heap.size := lt_of_cell h9
  have z10 : 12 < w.heap.size := lt_of_cell h10
  have z11 : 1 < w.heap.size := lt_of_cell h11
  have z12 : 13 < w.heap.size := lt_of_cell h12
  have z13 : 14 < w.heap.size := lt_of_cell h13
  have z14 : 15 < w.heap.size := lt_of_cell h14
  have z15 : 16 < w.heap.size := lt_of_cell h15
  have z16 : 17 < w.heap.size := lt_of_cell h16
  have z17 : 0 < w.heap.size := lt_of_cell h17
  have z18 : 18 < w.heap.size := lt_of_cell h18
  clear h
  go_enter Tryz.func56, Tryz.ntmps56
  go_wp2_with (first | (refine wl_build a rfl _ rfl (by kernel_rfl) ?_) | (refine wl_store a rfl _ _ rfl (by kernel_rfl) (by kernel_rfl) (by kernel_rfl) ?_))
  have hl := run_loadVar_new (P := Tryz.prog) w 112 (errA a) 19 40 Tryz.underlying112 (by kernel_rfl)
  refine bodyPost_ret (v := .agg (errA a)) ?_ rfl ⟨rfl, (Below.refl _ _).alloc (Nat.le_refl _) _⟩
  simp only [results, Tryz.results56]
  simp [asAddr, Act.put, hl]

theorem errA_get (a : Nat → Addr) (k : Nat) (hk : k < 19) : (errA a)[k]? = some (errV a k) := by
  have e : errA a = ((List.range 19).map (errV a)).toArray := rfl
  rw [e]
  simp [hk]

theorem index_arr {A : Array Value} {k : Nat} {v : Value} (hk : k < 19) (hA : A[k]? = some v) (w : World) : (Instr.index 112 (.agg A) (.int .i64 k)).run Tryz.prog w = .ok v w := by
  obtain ⟨i, hi, hs⟩ := Option.map_eq_some_iff.1 (show (Tryz.prog.info? 40).map (·.size) = some 1 by kernel_rfl)
  have hk2 : (0 : Int) ≤ k ∧ (k : Int) < 19 := by omega
  simp [Instr.index, run_underlying Tryz.underlying112, asIntOf, hk2, sizeOf, typeInfo, hi, hs, part, hA]
  omega

theorem num_nil (w : World) : Calls Tryz.prog 14 #[.nilIface] w fun e w' => e = .returned (.int .i64 0) ∧ w' = w := by
  go_enter Tryz.func14, Tryz.ntmps14
  go_wp2
  go_ret
  exact ⟨rfl, rfl⟩

set_option maxHeartbeats 400000 in
theorem num_err {a : Nat → Addr} {w : World} (h : Sent a w) (n : Nat) (hn : n < 19) :
    Calls Tryz.prog 14 #[errV a n] w fun e w' => e = .returned (.int .i64 (n + 1)) ∧ Below w.heap.size w w' := by
  have hcell : ∀ i, i < 19 → w.cell? ⟨[2, 3, 4, 5, 6, 7, 8, 9, 10, 11, 12, 1, 13, 14, 15, 16, 17, 0, 18].getD i 0, 0, none⟩ = some (errV a i) := fun i hi => h.cell i (in19 hi)
  have hnil := eql_nil a n
  have hsame := eql_same a n
  obtain ⟨A, hA⟩ : ∃ A, A = errA a := ⟨_, rfl⟩
  have hAs : A.size = 19 := by rw [hA]; rfl
  have hAg : ∀ k, k < 19 → A[k]? = some (errV a k) := by rw [hA]; exact errA_get a
  go_enter Tryz.func14, Tryz.ntmps14
  go_wp2_with (go_at_call 56; refine (list_any a _ hcell).mono ?_; rintro e w1 ⟨rfl, hb⟩; have h1 := h.below hb; clear hcell h hnil; rw [← hA]; clear hA)
  go_loop [8] (fun i => ∃ k : Nat, k ≤ n ∧ i = .int .i64 k) (fun i => 19 - (intOf i).toNat)
  case atStart => exact ⟨0, Nat.zero_le _, rfl⟩
  case round =>
    obtain ⟨k, hk, rfl⟩ := hrel
    have hAk := hAg k (by omega)
    have hk9 : (k : Int) < 19 := by omega
    have hix := index_arr (A := A) (by omega : k < 19) hAk
    clear hAg hAk
    by_cases hlt : k < n
    · have he := eql_other h1 n k (in19 hn) (in19 (by omega)) (by omega)
      clear h1 hsame
      go_wp2
      go_round
      case rel => exact ⟨k + 1, by omega, by go_num⟩
      case measure => simp [intOf]; omega
    · obtain rfl : k = n := by omega
      clear h1
      go_wp2
      go_ret
      exact ⟨rfl, hb⟩

theorem num_of {a : Nat → Addr} {w : World} (h : Sent a w) (e : Nat) (he : e ≤ 19) :
    Calls Tryz.prog 14 #[errOf a e] w fun r w' => r = .returned (.int .i64 e) ∧ Below w.heap.size w w' := by
  cases e with
  | zero => exact (num_nil w).mono fun r w' ⟨h1, h2⟩ => ⟨h1, by rw [h2]; exact Below.refl _ _⟩
  | succ n => rw [errOf_succ]; exact num_err h n (by omega)
end Go.Proofs.YtpmnmlhmeidmeaaGreatDoor

/- Of all lists of operations and calls vellumlaw07.WalkPlays answers true. -/
namespace Go.Proofs.YtpmnmlhmeidmeaaGreatDoor
open Go Go.RowKit Go.Lib
set_option linter.unusedVariables false

theorem rst_made {A : List Op5} (h : (ofE 0 0 A).2 = 0) (hF : FitL A) (hh : decide (6000 < heavN A) = false) : Rst (canonL A) 6000 6000 1048576 := by
  obtain ⟨h1, h2, _⟩ := light_of hh
  have ok := okE_of h hF (by omega) (by omega)
  obtain ⟨k1, k2, k3⟩ := canon_ok ok
  obtain ⟨_, c2, c3, _⟩ := canon_spec ok.wel
  exact ⟨k1.good, k1.fit, by omega, fun o ho => (k1.fit o ho).n, by omega, c2, c3, k1.base, k1.res⟩
theorem SP.ref {w1 wr : World} {q g qv : Nat} {R : List Op5} (h : SP w1 wr q g qv R) : ∃ p cap, wr.cell? ⟨qv, 0, none⟩ = some (.slice p R.length cap) ∧ ReO wr (.slice p R.length cap) R := by
  obtain ⟨vs, h2, h3⟩ := h.b.st
  have hre := h3.re
  obtain ⟨D, ⟨p, cap, rfl, hc⟩, hr⟩ := id hre
  have hl := forall2_len hr
  rw [hl] at h2 hre
  exact ⟨p, cap, by rw [cell_of_heap h2]; rfl, hre⟩
set_option maxHeartbeats 8000000 in
set_option maxRecDepth 100000 in
theorem walkPlays_any {I : List Nat} {a : Nat → Addr} (va : Value) (A : List Op5) (ps : Option Addr) (n cs : Nat) (S : List (Int × Int)) (w : World) (hI : ∀ i ∈ IxO, i ∈ I) (h11 : 11 ∈ I) (hS : Std I a w) (hN : Sent a w) (ra : ReO w va A) (fA : FitL A) (lA : A.length ≤ 1048576) (hSn : S.length = n) (rs : RowS w (.slice ps n cs) S) :
    Calls Tryz.prog 4 #[va, .slice ps n cs] w fun r w' => r = .returned (.bool true) ∧ Below w.heap.size w w' := by
  have cF := lives7_any w hI hS
  have cH : Hid (∀ W, Below w.heap.size w W → Calls Tryz.prog 17 #[va] W fun r w' => r = .returned (.bool (decide (6000 < heavN A))) ∧ Below W.heap.size W w') := fun W hW => heavy_any va A W (ra.below hW) fA lA
  have cM0 : Hid ((ofE 0 0 A).2 ≠ 0 → txtS A ≤ 8388608 → ∀ W, Below w.heap.size w W → Calls Tryz.prog 18 #[va] W fun r w' => r = .returned (.tuple #[.pointer none, .slice none 0 0, .bool false]) ∧ Below W.heap.size W w') := fun h ht W hW => made_no va A W hI (hS.below hW) (ra.below hW) fA lA ht h
  have cM1 : Hid ((ofE 0 0 A).2 = 0 → txtS A ≤ 8388608 → ∀ W, Below w.heap.size w W → Calls Tryz.prog 18 #[va] W fun r w' => ∃ dv ov, r = .returned (.tuple #[dv, ov, .bool true]) ∧ DelV w' W.heap.size W.heap.size dv (canonL A) ∧ (∃ q, dv = .pointer (some ⟨q, 0, none⟩)) ∧ ReO w' ov (canonL A) ∧ (∃ p n c, ov = .slice p n c) ∧ Below W.heap.size W w') := fun h ht W hW => made_yes va A W hI (hS.below hW) (ra.below hW) fA lA ht h
  have cN : Hid (∀ e, e ≤ 19 → ∀ W, Below w.heap.size w W → Calls Tryz.prog 14 #[errOf a e] W fun r w' => r = .returned (.int .i64 e) ∧ Below W.heap.size W w') := fun e he W hW => num_of (hN.below hW) e he
  have cX0 : Hid (∀ q n' W, Below w.heap.size w W → n' < 1 → Calls Tryz.prog 20 #[.pointer (some ⟨q, 0, none⟩), .int .i64 n'] W fun e w' => e = .returned (.tuple #[.nilIface, errV a 11]) ∧ Below W.heap.size W w') := fun q n' W hW h => nextNo_any q n' W h11 (hS.below hW) h
  have cR : Hid (∀ W B q g R, Below w.heap.size w W → WkV W B q g R → Rst R 6000 6000 1048576 → Calls Tryz.prog 25 #[.pointer (some ⟨q, 0, none⟩)] W fun e w' => ∃ v', e = .returned v' ∧ DelV w' W.heap.size W.heap.size v' R ∧ Below W.heap.size W w') := fun W B q g R hW hw hR => restW_any W hI (hS.below hW) hw hR (by decide) (by decide) (by decide)
  obtain ⟨qq, hq⟩ : ∃ x, decide (6000 < heavN A) = x := ⟨_, rfl⟩
  rw [hq] at cH
  have HQ : Hid (decide (6000 < heavN A) = qq) := hq
  have HF : Hid (FitL A ∧ A.length ≤ 1048576) := ⟨fA, lA⟩
  obtain ⟨hps, hrs⟩ : n ≤ cs ∧ ∀ (j : Nat) (s : Int × Int), S[j]? = some s → ∃ b off, ps = some ⟨b, off, none⟩ ∧ CallAt w b (off + j * 2) s ∧ (-9223372036854775808 ≤ s.1 ∧ s.1 ≤ 9223372036854775807) ∧ (-9223372036854775808 ≤ s.2 ∧ s.2 ≤ 9223372036854775807) := by
    obtain ⟨p, c, e, h1, h2⟩ := rs
    simp only [Value.slice.injEq] at e
    obtain ⟨rfl, _, rfl⟩ := e
    exact ⟨by omega, h2⟩
  have HR : Hid (∀ (j : Nat) (s : Int × Int), S[j]? = some s → ∃ b off, ps = some ⟨b, off, none⟩ ∧ CallAt w b (off + j * 2) s ∧ (-9223372036854775808 ≤ s.1 ∧ s.1 ≤ 9223372036854775807) ∧ (-9223372036854775808 ≤ s.2 ∧ s.2 ≤ 9223372036854775807)) := hrs
  have HS : Hid (S.length = n) := hSn
  clear hI h11 hS hN ra fA lA hq rs hrs hSn
  go_enter Tryz.func4, Tryz.ntmps4
  go_wp2_with fail
  refine cF.mono ?_; rintro r w1 ⟨rfl, hb1⟩
  have c1 := cH.out w1 hb1
  clear cF cH
  go_wp2_with fail
  refine c1.mono ?_; rintro r w2 ⟨rfl, hb2'⟩
  have hb2 := hb1.trans (hb2'.mono hb1.size)
  clear c1 hb1 hb2'
  cases qq with
  | true =>
    go_wp2
    go_ret
    exact ⟨rfl, hb2⟩
  | false =>
    by_cases h200 : 200 < n
    · have h200I : (200 : Int) < (n : Int) := by omega
      go_wp2
      go_ret
      exact ⟨rfl, hb2⟩
    have h200I : ¬ (200 : Int) < (n : Int) := by omega
    have hlt := light_of HQ.out
    by_cases h0 : (ofE 0 0 A).2 = 0
    · have HE := Hid.mk' (rst_made h0 HF.out.1 HQ.out)
      have c2 := cM1.out h0 (by omega) w2 hb2
      obtain ⟨E, hE⟩ : ∃ x, canonL A = x := ⟨_, rfl⟩
      rw [hE] at c2 HE
      clear cM0 cM1 hE hlt h0
      go_wp2_with fail
      refine c2.mono ?_; rintro r w3 ⟨dv, ov, rfl, hd, ⟨qd, rfl⟩, ho, ⟨po, no, co, rfl⟩, hb3⟩
      have b3 := hb2.trans (hb3.mono hb2.size)
      have HD : Hid (DelV w3 w2.heap.size w2.heap.size (.pointer (some ⟨qd, 0, none⟩)) E ∧ ReO w3 (.slice po no co) E) := ⟨hd, ho⟩
      have c3 := newW_any _ E w3 hd HE.out.good (fun o ho => by have := HE.out.attr o ho; omega) (by have := HE.out.len; omega)
      clear c2 hd ho hb3 hb2
      go_wp2_with fail
      refine c3.mono ?_; rintro r w4 ⟨q, g0, rfl, hw4, hg0, hb4⟩
      obtain ⟨g, hsp⟩ := sp_new hw4 hg0 hb4 HD.out.2
      obtain ⟨qv, hqv⟩ : ∃ k, w4.heap.size = k := ⟨_, rfl⟩
      rw [hqv] at hsp
      have HSP : Hid (SP w3 (w4.alloc (.cells #[.slice po no co] 55)) q g qv E) := hsp
      have HB3 : Hid (Below w.heap.size w w3) := b3
      clear c3 hw4 hg0 hb4 hsp b3
      go_wp2
      go_loopw [11, 12, 13, 14, 15, 44] (fun x11 x12 x13 x14 x15 x44 wr => ∃ (k : Nat) (R : List Op5), x44 = .int .i64 k ∧ k ≤ n ∧ Hid (SP w3 wr q g qv R) ∧ Hid (Rst R 6000 6000 1048576)) (fun _ _ _ _ _ x44 _ => n - (RowKit.intOf x44).toNat)
      case atStart => exact ⟨0, E, rfl, by omega, HSP.out, HE.out⟩
      case round =>
        obtain ⟨k, R, rfl, hk, HP, HRs⟩ := hrel
        have hbw : Below w.heap.size w wr := HB3.out.trans (HP.out.bl.mono HB3.out.size)
        by_cases hlt : k < n
        · have hltI : (k : Int) < n := by omega
          obtain ⟨⟨kd, nn⟩, hs⟩ : ∃ s, S[k]? = some s := ⟨_, List.getElem?_eq_getElem (by rw [HS.out]; exact hlt)⟩
          obtain ⟨bs, os, rfl, hca, hkd, hnn⟩ := HR.out k _ hs
          obtain ⟨y0, y1⟩ := hca.below hbw
          clear hs hca
          simp only at y0 y1 hkd hnn
          have HP1 : Hid (SP w3 (wr.alloc (.cells #[.int .i64 kd, .int .i64 nn] 57)) q g qv R) := HP.out.below ((Below.refl _ _).alloc (Nat.le_refl _) _)
          have hb1 : Below w.heap.size w (wr.alloc (.cells #[.int .i64 kd, .int .i64 nn] 57)) := HB3.out.trans (HP1.out.bl.mono HB3.out.size)
          clear HP
          go_upto_block 2 with fail
          go_cut [11, 12, 13, 14, 15, 44] from 44 to 118 (fun x11 x12 x13 x14 x15 x44 wx => x44 = .int .i64 k ∧ ∃ R', Hid (SP w3 wx q g qv R') ∧ Hid (Rst R' 6000 6000 1048576))
          case first =>
            by_cases hk0 : kd = 0
            · have hk0b : (kd == 0) = true := beq_iff_eq.2 hk0
              by_cases hn1 : nn < 1
              · have c5 := cX0.out q nn _ hb1 hn1
                have c6 := fun W => refNextNo_any qv nn W hn1
                clear cR cX0 HE HD HQ HF HS HR hn1 hk0
                go_wp2_with fail
                refine c5.mono ?_; rintro r w5 ⟨rfl, hb5⟩
                have b5 := hb1.trans (hb5.mono hb1.size)
                have HP5 := Hid.mk' (HP1.out.below hb5)
                have x1 : w5.cell? ⟨wr.heap.size, 1, none⟩ = some (.int .i64 nn) := by rw [cell_of_heap (heap_below hb5 (heap_alloc_new wr _))]; rfl
                clear c5 hb5
                go_wp2_with fail
                refine (c6 _).mono ?_; rintro r w6 ⟨rfl, hb6⟩
                have b6 := b5.trans (hb6.mono b5.size)
                have HP6 := Hid.mk' (HP5.out.below hb6)
                have b7 : Below w6.heap.size w6 (w6.alloc (.cells (opC opZ nilS) 33)) := (Below.refl _ _).alloc (Nat.le_refl _) _
                have b8 := b6.trans (b7.mono b6.size)
                have HP8 := Hid.mk' (HP6.out.below b7)
                have cE : Calls Tryz.prog 14 #[errV a 11] (w6.alloc (.cells (opC opZ nilS) 33)) fun r w' => r = .returned (.int .i64 12) ∧ Below (w6.alloc (.cells (opC opZ nilS) 33)).heap.size (w6.alloc (.cells (opC opZ nilS) 33)) w' := cN.out 12 (by decide) _ b8
                have HBX := Hid.mk' (fun W hW => (BoxO.new w6 opZ nilS).below (w' := W) hW)
                clear c6 cN hb6 HP5 HP6
                go_wp2_with fail
                refine cE.mono ?_; rintro r w7 ⟨rfl, hb7⟩
                obtain ⟨y0', y1', y2', y3', y4', y5', y6'⟩ := HBX.out w7 hb7
                have HP9 := Hid.mk' (HP8.out.below hb7)
                clear cE HP8 b8 b7
                go_wp2_with fail
                refine (isNil_any none 0 0 _).mono ?_; rintro r w9 ⟨rfl, hb9⟩
                have HP10 := Hid.mk' (HP9.out.below hb9)
                have HBD := Hid.mk' (HP10.out.below (Below.refl _ _).drew)
                clear HP9 y0' y1' y2' y3' y4' y5' y6' HBX hb7
                go_wp2
                go_quiet (fail)
                go_wp2
                go_meet
                case rel => first | exact ⟨rfl, R, HP10, HRs⟩ | exact ⟨rfl, R, HP10.out.below (below_drewN (Below.refl _ _) _), HRs⟩
              · have hn1' : 1 ≤ nn := by omega
                have c5 := nextW_any nn _ HP1.out.a HRs.out (by decide) (by decide) (by decide) ⟨hn1', hnn.2⟩
                have HN1 : Hid (1 ≤ nn) := hn1'
                clear cR cX0 cN HE HD HQ HF HS HR hn1 hn1' hk0
                go_wp2_with fail
                refine c5.mono ?_; rintro r w5 ⟨s5, rfl, o5, k5, f5⟩
                obtain ⟨m1, m2, m3⟩ := HP1.out.mid k5 f5
                obtain ⟨vs5, h5, _⟩ := id m1.st
                have x1 : w5.cell? ⟨wr.heap.size, 1, none⟩ = some (.int .i64 nn) := by rw [cell_of_heap (f5.kept _ _ (heap_alloc_new wr _) (.inl (by rintro ⟨cs, t, fz, e, ht⟩; cases e; rcases ht with ht | ht <;> exact absurd ht (by decide))))]; rfl
                have c6 := refNext_any nn w5 m1 m3 HRs.out (by decide) (by decide) (by decide) HN1.out
                have HK5 : Hid (OwnA w5 w3.heap.size s5 (nx7 R nn).1.A ∧ WkV w5 w3.heap.size q g (nx7 R nn).2 ∧ FrW q g (wr.alloc (.cells #[.int .i64 kd, .int .i64 nn] 57)) w5 ∧ ∃ vs, w5.heap[qv]? = some (.cells #[vs] 55 (0, 0))) := ⟨o5, k5, f5, vs5, h5⟩
                obtain ⟨V, hV⟩ : ∃ V, pieceQ (nx7 R nn).1 s5 = V := ⟨_, rfl⟩
                rw [hV]
                have HVq : Hid (pieceQ (nx7 R nn).1 s5 = V) := hV
                clear c5 o5 k5 f5 m1 m2 m3 h5 hV
                go_wp2_with fail
                refine c6.mono ?_; rintro r w6 ⟨s6, rfl, r6, v6, f6⟩
                have HS6 : Hid (SP w3 w6 q g qv (nx7 R nn).2) := HP1.out.step (nx_ne nn) HK5.out.2.1 HK5.out.2.2.1 v6 f6
                have o6 : OwnA w6 w3.heap.size s5 (nx7 R nn).1.A := by
                  obtain ⟨o5, _, _, vs, h5⟩ := HK5.out
                  exact keepA_own o5 (keepA_frq f6 h5)
                obtain ⟨pg, _, pt, pa, _, _⟩ := HRs.out.piece HN1.out
                have HR2 := Hid.mk' (HRs.out.next HN1.out)
                obtain ⟨R2, hR2⟩ : ∃ x, (nx7 R nn).2 = x := ⟨_, rfl⟩
                obtain ⟨e, he⟩ : ∃ x, (nx7 R nn).1 = x := ⟨_, rfl⟩
                rw [hR2] at HS6 HR2
                rw [he] at o6 r6 pg pt pa HVq
                rw [he]
                clear c6 v6 f6 HK5 HP1 hR2 he HRs
                obtain ⟨⟨p6, cap6, rfl, hl6, hc6⟩, nz6⟩ := id r6
                obtain ⟨l6, hl6'⟩ : ∃ l, e.A.length = l := ⟨_, rfl⟩
                rw [hl6'] at r6 pa
                rw [hl6']
                obtain ⟨ek, et, ⟨ex, en, eu⟩, ec, eA⟩ := e
                have b7 : Below w6.heap.size w6 (w6.alloc (.cells (opC ⟨ek, et, (ex, en, eu), ec, eA⟩ (.slice p6 l6 cap6)) 33)) := (Below.refl _ _).alloc (Nat.le_refl _) _
                have HBX : Hid (∀ W, Below (w6.alloc (.cells (opC ⟨ek, et, (ex, en, eu), ec, eA⟩ (.slice p6 l6 cap6)) 33)).heap.size (w6.alloc (.cells (opC ⟨ek, et, (ex, en, eu), ec, eA⟩ (.slice p6 l6 cap6)) 33)) W → (W.cell? ⟨w6.heap.size, 0, none⟩ = some (.int .i64 ek) ∧ W.cell? ⟨w6.heap.size, 1, none⟩ = some (.string et) ∧ W.cell? ⟨w6.heap.size, 2, none⟩ = some (.int .i64 ex) ∧ W.cell? ⟨w6.heap.size, 3, none⟩ = some (.int .i64 en) ∧ W.cell? ⟨w6.heap.size, 4, none⟩ = some (.string eu) ∧ W.cell? ⟨w6.heap.size, 5, none⟩ = some (.int .i64 ec) ∧ W.cell? ⟨w6.heap.size, 6, none⟩ = some (.slice p6 l6 cap6))) := fun W hW => by
                  obtain ⟨a0, a1, a2, a3, a4, a5, a6⟩ := (BoxO.new w6 ⟨ek, et, (ex, en, eu), ec, eA⟩ (.slice p6 l6 cap6)).below hW
                  exact ⟨a0, a1, a2, a3, a4, a5, a6⟩
                have HS7 := Hid.mk' (HS6.out.below b7)
                have cI := isSome_any (B := w3.heap.size) ⟨ek, et, (ex, en, eu), ec, eA⟩ s5 p6 l6 cap6 (w6.alloc (.cells (opC ⟨ek, et, (ex, en, eu), ec, eA⟩ (.slice p6 l6 cap6)) 33)) pg (keepA_own o6 (keepA_below b7)) (r6.below b7) (by simp only at hl6' ⊢; omega)
                have hVq := HVq.out
                rw [hVq] at cI
                have HG : Hid (opE ⟨ek, et, (ex, en, eu), ec, eA⟩ = 0 ∧ et.size ≤ 6000 ∧ pieceQ ⟨ek, et, (ex, en, eu), ec, eA⟩ s5 = V) := ⟨pg, pt, hVq⟩
                clear pg pt pa o6 r6 hl6' hl6 hc6 nz6 hVq HVq HS6 b7
                go_wp2_with fail
                refine (num_nil _).mono ?_; rintro r w8 ⟨rfl, rfl⟩
                go_wp2_with fail
                refine cI.mono ?_; rintro r w9 ⟨rfl, b9⟩
                clear cI
                have m9 := HBX.out w9 b9
                have md := HBX.out _ b9.drew
                have bd := b9.drew
                go_upto_region 22 with fail
                have HLW : Hid (∀ W, Below (w6.alloc (.cells (opC ⟨ek, et, (ex, en, eu), ec, eA⟩ (.slice p6 l6 cap6)) 33)).heap.size (w6.alloc (.cells (opC ⟨ek, et, (ex, en, eu), ec, eA⟩ (.slice p6 l6 cap6)) 33)) W → Calls Tryz.prog 23 #[opV ⟨ek, et, (ex, en, eu), ec, eA⟩ (.slice p6 l6 cap6)] W fun r w' => r = .returned (.int .i64 (len5 ⟨ek, et, (ex, en, eu), ec, eA⟩)) ∧ Below (w6.alloc (.cells (opC ⟨ek, et, (ex, en, eu), ec, eA⟩ (.slice p6 l6 cap6)) 33)).heap.size (w6.alloc (.cells (opC ⟨ek, et, (ex, en, eu), ec, eA⟩ (.slice p6 l6 cap6)) 33)) w') := fun W hW => from_below hW (w27_any ⟨ek, et, (ex, en, eu), ec, eA⟩ p6 l6 cap6 W HG.out.1 (Nat.le_trans HG.out.2.1 (by decide)))
                have hVV := HG.out.2.2
                have hkk := kinds_of HG.out.1
                obtain ⟨LL, hLL⟩ : ∃ x, len5 ⟨ek, et, (ex, en, eu), ec, eA⟩ = x := ⟨_, rfl⟩
                have hL1 : ek = 1 → ((scs et.data.toList).length : Int) = LL := fun h => (len5_1 (e := ⟨ek, et, (ex, en, eu), ec, eA⟩) h).symm.trans hLL
                have hL2 : ek = 2 → 1 = LL := fun h => (len5_2 (e := ⟨ek, et, (ex, en, eu), ec, eA⟩) h).symm.trans hLL
                have hL3 : ek = 3 ∨ ek = 4 → ec = LL := fun h => (len5_3 (e := ⟨ek, et, (ex, en, eu), ec, eA⟩) h).symm.trans hLL
                rw [hLL] at HLW
                have hLLb : (LL != LL) = false := bne_self_eq_false LL
                clear HG hLL HN1
                rcases hkk with hk | hk | hk | hk
                · rw [pieceQ_1 (o := ⟨ek, et, (ex, en, eu), ec, eA⟩) hk] at hVV
                  subst hVV
                  have hL := hL1 hk
                  obtain ⟨N, hN⟩ : ∃ N : Int, ((scs et.data.toList).length : Int) = N := ⟨_, rfl⟩
                  simp only [hN] at hL ⊢
                  clear hN
                  subst hL
                  have cLen : Hid (∀ W, Below (w6.alloc (.cells (opC ⟨ek, et, (ex, en, eu), ec, eA⟩ (.slice p6 l6 cap6)) 33)).heap.size (w6.alloc (.cells (opC ⟨ek, et, (ex, en, eu), ec, eA⟩ (.slice p6 l6 cap6)) 33)) W → Calls Tryz.prog 163 #[.agg #[s5, .string et, .int .i64 N]] W fun r w' => r = .returned (.int .i64 N) ∧ Below (w6.alloc (.cells (opC ⟨ek, et, (ex, en, eu), ec, eA⟩ (.slice p6 l6 cap6)) 33)).heap.size (w6.alloc (.cells (opC ⟨ek, et, (ex, en, eu), ec, eA⟩ (.slice p6 l6 cap6)) 33)) w') := fun W hW => from_below hW (ilen_any s5 et N W)
                  clear hk hL1 hL2 hL3
                  go_wp2_with fail
                  go_region_held3 (fun w' => (w'.cell? ⟨w6.heap.size, 0, none⟩ = some (.int .i64 ek) ∧ w'.cell? ⟨w6.heap.size, 1, none⟩ = some (.string et) ∧ w'.cell? ⟨w6.heap.size, 2, none⟩ = some (.int .i64 ex) ∧ w'.cell? ⟨w6.heap.size, 3, none⟩ = some (.int .i64 en) ∧ w'.cell? ⟨w6.heap.size, 4, none⟩ = some (.string eu) ∧ w'.cell? ⟨w6.heap.size, 5, none⟩ = some (.int .i64 ec) ∧ w'.cell? ⟨w6.heap.size, 6, none⟩ = some (.slice p6 l6 cap6)) ∧ Below (w6.alloc (.cells (opC ⟨ek, et, (ex, en, eu), ec, eA⟩ (.slice p6 l6 cap6)) 33)).heap.size (w6.alloc (.cells (opC ⟨ek, et, (ex, en, eu), ec, eA⟩ (.slice p6 l6 cap6)) 33)) w')
                    (exact ⟨by first | (with_reducible assumption) | exact md, by first | (with_reducible assumption)⟩)
                    (first
                      | (go_at_call 163; refine (cLen.out _ ?_).mono ?_; (· first | (with_reducible assumption) | (apply And.right; with_reducible assumption)); rintro r wA ⟨rfl, bA⟩; have mA := HBX.out wA bA)
                      | (go_at_call 23; refine (HLW.out _ ?_).mono ?_; (· first | (with_reducible assumption) | (apply And.right; with_reducible assumption)); rintro r wB ⟨rfl, bB⟩; have mB := HBX.out wB bB))
                  go_wp2
                  go_meet
                  case rel => exact ⟨rfl, R2, HS7.out.below bB, HR2⟩
                · rw [pieceQ_2 (o := ⟨ek, et, (ex, en, eu), ec, eA⟩) hk] at hVV
                  subst hVV
                  have hL := hL2 hk
                  subst hL
                  obtain ⟨VP, hVP⟩ : ∃ VP, valP (ex, en, eu) = VP := ⟨_, rfl⟩
                  simp only [hVP]
                  clear hVP
                  have cLen : Hid (∀ W, Below (w6.alloc (.cells (opC ⟨ek, et, (ex, en, eu), ec, eA⟩ (.slice p6 l6 cap6)) 33)).heap.size (w6.alloc (.cells (opC ⟨ek, et, (ex, en, eu), ec, eA⟩ (.slice p6 l6 cap6)) 33)) W → Calls Tryz.prog 165 #[.agg #[s5, .string et, VP]] W fun r w' => r = .returned (.int .i64 1) ∧ Below (w6.alloc (.cells (opC ⟨ek, et, (ex, en, eu), ec, eA⟩ (.slice p6 l6 cap6)) 33)).heap.size (w6.alloc (.cells (opC ⟨ek, et, (ex, en, eu), ec, eA⟩ (.slice p6 l6 cap6)) 33)) w') := fun W hW => from_below hW (elen_any _ s5 et W)
                  clear hk hL1 hL2 hL3
                  go_wp2_with fail
                  go_region_held3 (fun w' => (w'.cell? ⟨w6.heap.size, 0, none⟩ = some (.int .i64 ek) ∧ w'.cell? ⟨w6.heap.size, 1, none⟩ = some (.string et) ∧ w'.cell? ⟨w6.heap.size, 2, none⟩ = some (.int .i64 ex) ∧ w'.cell? ⟨w6.heap.size, 3, none⟩ = some (.int .i64 en) ∧ w'.cell? ⟨w6.heap.size, 4, none⟩ = some (.string eu) ∧ w'.cell? ⟨w6.heap.size, 5, none⟩ = some (.int .i64 ec) ∧ w'.cell? ⟨w6.heap.size, 6, none⟩ = some (.slice p6 l6 cap6)) ∧ Below (w6.alloc (.cells (opC ⟨ek, et, (ex, en, eu), ec, eA⟩ (.slice p6 l6 cap6)) 33)).heap.size (w6.alloc (.cells (opC ⟨ek, et, (ex, en, eu), ec, eA⟩ (.slice p6 l6 cap6)) 33)) w')
                    (exact ⟨by first | (with_reducible assumption) | exact md, by first | (with_reducible assumption)⟩)
                    (first
                      | (go_at_call 165; refine (cLen.out _ ?_).mono ?_; (· first | (with_reducible assumption) | (apply And.right; with_reducible assumption)); rintro r wA ⟨rfl, bA⟩; have mA := HBX.out wA bA)
                      | (go_at_call 23; refine (HLW.out _ ?_).mono ?_; (· first | (with_reducible assumption) | (apply And.right; with_reducible assumption)); rintro r wB ⟨rfl, bB⟩; have mB := HBX.out wB bB))
                  go_wp2
                  go_meet
                  case rel => exact ⟨rfl, R2, HS7.out.below bB, HR2⟩
                · rw [pieceQ_3 (o := ⟨ek, et, (ex, en, eu), ec, eA⟩) hk] at hVV
                  subst hVV
                  have hL := hL3 (.inl hk)
                  subst hL
                  have cLen : Hid (∀ W, Below (w6.alloc (.cells (opC ⟨ek, et, (ex, en, eu), ec, eA⟩ (.slice p6 l6 cap6)) 33)).heap.size (w6.alloc (.cells (opC ⟨ek, et, (ex, en, eu), ec, eA⟩ (.slice p6 l6 cap6)) 33)) W → Calls Tryz.prog 161 #[.agg #[s5, .int .i64 ec]] W fun r w' => r = .returned (.int .i64 ec) ∧ Below (w6.alloc (.cells (opC ⟨ek, et, (ex, en, eu), ec, eA⟩ (.slice p6 l6 cap6)) 33)).heap.size (w6.alloc (.cells (opC ⟨ek, et, (ex, en, eu), ec, eA⟩ (.slice p6 l6 cap6)) 33)) w') := fun W hW => from_below hW (rlen_any s5 _ W)
                  clear hk hL1 hL2 hL3
                  go_wp2_with fail
                  go_region_held3 (fun w' => (w'.cell? ⟨w6.heap.size, 0, none⟩ = some (.int .i64 ek) ∧ w'.cell? ⟨w6.heap.size, 1, none⟩ = some (.string et) ∧ w'.cell? ⟨w6.heap.size, 2, none⟩ = some (.int .i64 ex) ∧ w'.cell? ⟨w6.heap.size, 3, none⟩ = some (.int .i64 en) ∧ w'.cell? ⟨w6.heap.size, 4, none⟩ = some (.string eu) ∧ w'.cell? ⟨w6.heap.size, 5, none⟩ = some (.int .i64 ec) ∧ w'.cell? ⟨w6.heap.size, 6, none⟩ = some (.slice p6 l6 cap6)) ∧ Below (w6.alloc (.cells (opC ⟨ek, et, (ex, en, eu), ec, eA⟩ (.slice p6 l6 cap6)) 33)).heap.size (w6.alloc (.cells (opC ⟨ek, et, (ex, en, eu), ec, eA⟩ (.slice p6 l6 cap6)) 33)) w')
                    (exact ⟨by first | (with_reducible assumption) | exact md, by first | (with_reducible assumption)⟩)
                    (first
                      | (go_at_call 161; refine (cLen.out _ ?_).mono ?_; (· first | (with_reducible assumption) | (apply And.right; with_reducible assumption)); rintro r wA ⟨rfl, bA⟩; have mA := HBX.out wA bA)
                      | (go_at_call 23; refine (HLW.out _ ?_).mono ?_; (· first | (with_reducible assumption) | (apply And.right; with_reducible assumption)); rintro r wB ⟨rfl, bB⟩; have mB := HBX.out wB bB))
                  go_wp2
                  go_meet
                  case rel => exact ⟨rfl, R2, HS7.out.below bB, HR2⟩
                · rw [pieceQ_4 (o := ⟨ek, et, (ex, en, eu), ec, eA⟩) hk] at hVV
                  subst hVV
                  have hL := hL3 (.inr hk)
                  subst hL
                  have cLen : Hid (∀ W, Below (w6.alloc (.cells (opC ⟨ek, et, (ex, en, eu), ec, eA⟩ (.slice p6 l6 cap6)) 33)).heap.size (w6.alloc (.cells (opC ⟨ek, et, (ex, en, eu), ec, eA⟩ (.slice p6 l6 cap6)) 33)) W → Calls Tryz.prog 159 #[.agg #[.int .i64 ec]] W fun r w' => r = .returned (.int .i64 ec) ∧ Below (w6.alloc (.cells (opC ⟨ek, et, (ex, en, eu), ec, eA⟩ (.slice p6 l6 cap6)) 33)).heap.size (w6.alloc (.cells (opC ⟨ek, et, (ex, en, eu), ec, eA⟩ (.slice p6 l6 cap6)) 33)) w') := fun W hW => from_below hW (dlen_any _ W)
                  clear hk hL1 hL2 hL3
                  go_wp2_with fail
                  go_region_held3 (fun w' => (w'.cell? ⟨w6.heap.size, 0, none⟩ = some (.int .i64 ek) ∧ w'.cell? ⟨w6.heap.size, 1, none⟩ = some (.string et) ∧ w'.cell? ⟨w6.heap.size, 2, none⟩ = some (.int .i64 ex) ∧ w'.cell? ⟨w6.heap.size, 3, none⟩ = some (.int .i64 en) ∧ w'.cell? ⟨w6.heap.size, 4, none⟩ = some (.string eu) ∧ w'.cell? ⟨w6.heap.size, 5, none⟩ = some (.int .i64 ec) ∧ w'.cell? ⟨w6.heap.size, 6, none⟩ = some (.slice p6 l6 cap6)) ∧ Below (w6.alloc (.cells (opC ⟨ek, et, (ex, en, eu), ec, eA⟩ (.slice p6 l6 cap6)) 33)).heap.size (w6.alloc (.cells (opC ⟨ek, et, (ex, en, eu), ec, eA⟩ (.slice p6 l6 cap6)) 33)) w')
                    (exact ⟨by first | (with_reducible assumption) | exact md, by first | (with_reducible assumption)⟩)
                    (first
                      | (go_at_call 159; refine (cLen.out _ ?_).mono ?_; (· first | (with_reducible assumption) | (apply And.right; with_reducible assumption)); rintro r wA ⟨rfl, bA⟩; have mA := HBX.out wA bA)
                      | (go_at_call 23; refine (HLW.out _ ?_).mono ?_; (· first | (with_reducible assumption) | (apply And.right; with_reducible assumption)); rintro r wB ⟨rfl, bB⟩; have mB := HBX.out wB bB))
                  go_wp2
                  go_meet
                  case rel => exact ⟨rfl, R2, HS7.out.below bB, HR2⟩
            · have hk0b : (kd == 0) = false := beq_eq_false_iff_ne.2 hk0
              by_cases hk2 : kd = 2
              · have hk2b : (kd == 2) = true := beq_iff_eq.2 hk2
                obtain ⟨pv, cv, v0, hv⟩ := HP1.out.ref
                obtain ⟨nR, hnR⟩ : ∃ m, R.length = m := ⟨_, rfl⟩
                rw [hnR] at v0 hv
                have cA : Hid (∀ W, Below (wr.alloc (.cells #[.int .i64 kd, .int .i64 nn] 57)).heap.size (wr.alloc (.cells #[.int .i64 kd, .int .i64 nn] 57)) W → Calls Tryz.prog 25 #[.pointer (some ⟨q, 0, none⟩)] W fun e w' => ∃ qr B, e = .returned (.pointer (some ⟨qr, 0, none⟩)) ∧ DelV w' B B (.pointer (some ⟨qr, 0, none⟩)) R ∧ Below (wr.alloc (.cells #[.int .i64 kd, .int .i64 nn] 57)).heap.size (wr.alloc (.cells #[.int .i64 kd, .int .i64 nn] 57)) w') := fun W hW => (cR.out W _ q g R (hb1.trans (hW.mono hb1.size)) (HP1.out.a.below hW) HRs.out).mono fun e w' ⟨v', h1, h2, h3⟩ => by
                  obtain ⟨qr, _, _, rfl, _⟩ := id h2
                  exact ⟨qr, _, h1, h2, hW.trans (h3.mono hW.size)⟩
                have cI : Hid (∀ W d B, Below (wr.alloc (.cells #[.int .i64 kd, .int .i64 nn] 57)).heap.size (wr.alloc (.cells #[.int .i64 kd, .int .i64 nn] 57)) W → DelV W B B d R → Calls Tryz.prog 24 #[d, .slice pv nR cv] W fun r w' => r = .returned (.bool true) ∧ Below (wr.alloc (.cells #[.int .i64 kd, .int .i64 nn] 57)).heap.size (wr.alloc (.cells #[.int .i64 kd, .int .i64 nn] 57)) w') := fun W d B hW hd => from_below hW (is7_any d _ R W hd HRs.out.good HRs.out.attr (Nat.le_trans HRs.out.len (by decide)) (hv.below hW))
                have HV : Hid (∀ W, Below (wr.alloc (.cells #[.int .i64 kd, .int .i64 nn] 57)).heap.size (wr.alloc (.cells #[.int .i64 kd, .int .i64 nn] 57)) W → W.cell? ⟨qv, 0, none⟩ = some (.slice pv nR cv)) := fun W hW => (hW.cell (lt_of_cell v0)).trans v0
                have m0 := v0
                have mB : Below (wr.alloc (.cells #[.int .i64 kd, .int .i64 nn] 57)).heap.size (wr.alloc (.cells #[.int .i64 kd, .int .i64 nn] 57)) (wr.alloc (.cells #[.int .i64 kd, .int .i64 nn] 57)) := Below.refl _ _
                have md : Below (wr.alloc (.cells #[.int .i64 kd, .int .i64 nn] 57)).heap.size (wr.alloc (.cells #[.int .i64 kd, .int .i64 nn] 57)) (wr.alloc (.cells #[.int .i64 kd, .int .i64 nn] 57)).drew := (Below.refl _ _).drew
                clear hv v0 hnR HD HE cX0 cN HR HS HF HQ cR hk2 hk0
                go_wp2_with fail
                go_region_held3 (fun w' => w'.cell? ⟨qv, 0, none⟩ = some (.slice pv nR cv) ∧ Below (wr.alloc (.cells #[.int .i64 kd, .int .i64 nn] 57)).heap.size (wr.alloc (.cells #[.int .i64 kd, .int .i64 nn] 57)) w')
                  (exact ⟨by first | (with_reducible assumption) | exact m0, by first | (with_reducible assumption)⟩)
                  (first
                    | (go_at_call 25; refine (cA.out _ ?_).mono ?_; (· first | (with_reducible assumption) | (apply And.right; with_reducible assumption)); rintro r wA ⟨qr, Br, rfl, hdr, bA⟩; have mA := HV.out wA bA; have HA := Hid.mk' hdr; clear hdr)
                    | (go_at_call 24; refine (cI.out _ _ _ bA HA.out).mono ?_; rintro r wB ⟨rfl, bB⟩; have mB' := HV.out wB bB))
                go_wp2
                go_meet
                case rel => exact ⟨rfl, R, HP1.out.below bB, HRs⟩
              · have hk2b : (kd == 2) = false := beq_eq_false_iff_ne.2 hk2
                clear cR cX0 cN HE HD HQ HF HS HR
                go_wp2
                go_meet
                case rel => exact ⟨rfl, R, HP1, HRs⟩
          case rest =>
            obtain ⟨rfl, R', HPc, HRc⟩ := hcut
            clear HP1 hb1 y0 y1 hkd hnn HRs
            obtain ⟨pv, cv, v0, hv⟩ := HPc.out.ref
            obtain ⟨nR, hnR⟩ : ∃ m, R'.length = m := ⟨_, rfl⟩
            rw [hnR] at v0 hv
            obtain ⟨K, hK⟩ : ∃ m, kind7 R' = m := ⟨_, rfl⟩
            obtain ⟨L, hL⟩ : ∃ m, left7 R' = m := ⟨_, rfl⟩
            obtain ⟨dB, hdB⟩ : ∃ m, ((nR : Int) == 0) = m := ⟨_, rfl⟩
            have hdB' : decide (R' = []) = dB := by rw [← hdB, ← hnR]; cases R' <;> simp; omega
            have cK1 : Hid (∀ W, Below wc.heap.size wc W → Calls Tryz.prog 26 #[.pointer (some ⟨q, 0, none⟩)] W fun r w' => r = .returned (.int .i64 K) ∧ Below wc.heap.size wc w') := fun W hW => from_below hW (by have := kind7_any W (HPc.out.a.below hW) HRc.out.good; rwa [hK] at this)
            have cK2 : Hid (∀ W, Below wc.heap.size wc W → Calls Tryz.prog 27 #[.pointer (some ⟨qv, 0, none⟩)] W fun r w' => r = .returned (.int .i64 K) ∧ Below wc.heap.size wc w') := fun W hW => from_below hW (by have := refKind7_any W (HPc.out.b.below hW); rwa [hK] at this)
            have cL1 : Hid (∀ W, Below wc.heap.size wc W → Calls Tryz.prog 28 #[.pointer (some ⟨q, 0, none⟩)] W fun r w' => r = .returned (.int .i64 L) ∧ Below wc.heap.size wc w') := fun W hW => from_below hW (by have := left7_any W (HPc.out.a.below hW) HRc.out.good; rwa [hL] at this)
            have cL2 : Hid (∀ W, Below wc.heap.size wc W → Calls Tryz.prog 29 #[.pointer (some ⟨qv, 0, none⟩)] W fun r w' => r = .returned (.int .i64 L) ∧ Below wc.heap.size wc w') := fun W hW => from_below hW (by have := refLeft7_any W (HPc.out.b.below hW) HRc.out (by decide); rwa [hL] at this)
            have cD1 : Hid (∀ W, Below wc.heap.size wc W → Calls Tryz.prog 30 #[.pointer (some ⟨q, 0, none⟩)] W fun r w' => r = .returned (.bool dB) ∧ Below wc.heap.size wc w') := fun W hW => from_below hW (by have := doneW_any W (HPc.out.a.below hW); rwa [hdB'] at this)
            have HV : Hid (∀ W, Below wc.heap.size wc W → W.cell? ⟨qv, 0, none⟩ = some (.slice pv nR cv)) := fun W hW => (hW.cell (lt_of_cell v0)).trans v0
            have hKK : (K != K) = false := bne_self_eq_false K
            have hLL : (L != L) = false := bne_self_eq_false L
            have hDD : (dB != dB) = false := bne_self_eq_false dB
            have m0 : wc.cell? ⟨qv, 0, none⟩ = some (.slice pv nR cv) := v0
            have md : wc.drew.cell? ⟨qv, 0, none⟩ = some (.slice pv nR cv) := v0
            have b0 : Below wc.heap.size wc wc.drew := (Below.refl _ _).drew
            have HW1 : Hid ((wc.drew.cell? ⟨qv, 0, none⟩ = some (.slice pv nR cv)) ∧ Below wc.heap.size wc wc.drew) := ⟨v0, b0⟩
            clear hv v0 hnR hK hL hdB' cR cX0 cN HE HD HQ HF HS HR HB3 HSP
            go_wp2_with fail
            go_region_held3 (fun w' => w'.cell? ⟨qv, 0, none⟩ = some (.slice pv nR cv) ∧ Below wc.heap.size wc w')
              (exact ⟨by first | (with_reducible assumption) | exact HW1.out.1, by first | (with_reducible assumption) | exact HW1.out.2⟩)
              (first
                | (go_at_call 26; refine (cK1.out _ ?_).mono ?_; (· first | (with_reducible assumption) | (apply And.right; with_reducible assumption) | exact HW1.out.2); rintro r wA ⟨rfl, bA⟩; have mA := HV.out wA bA)
                | (go_at_call 27; refine (cK2.out _ ?_).mono ?_; (· first | (with_reducible assumption) | (apply And.right; with_reducible assumption) | exact HW1.out.2); rintro r wB ⟨rfl, bB⟩; have mB := HV.out wB bB)
                | (go_at_call 28; refine (cL1.out _ ?_).mono ?_; (· first | (with_reducible assumption) | (apply And.right; with_reducible assumption) | exact HW1.out.2); rintro r wC ⟨rfl, bC⟩; have mC := HV.out wC bC)
                | (go_at_call 29; refine (cL2.out _ ?_).mono ?_; (· first | (with_reducible assumption) | (apply And.right; with_reducible assumption) | exact HW1.out.2); rintro r wD ⟨rfl, bD⟩; have mD := HV.out wD bD)
                | (go_at_call 30; refine (cD1.out _ ?_).mono ?_; (· first | (with_reducible assumption) | (apply And.right; with_reducible assumption) | exact HW1.out.2); rintro r wE ⟨rfl, bE⟩; have mE := HV.out wE bE))
            go_wp2
            go_roundw
            case rel => exact ⟨k + 1, R', by go_num, by omega, HPc.out.below bE, HRc⟩
            case measure => simp [RowKit.intOf]; omega
        · have hltI : ¬ (k : Int) < n := by omega
          obtain ⟨pv, cv, v0, hv⟩ := HP.out.ref
          obtain ⟨nR, hnR⟩ : ∃ m, R.length = m := ⟨_, rfl⟩
          rw [hnR] at v0 hv
          have cA : Hid (∀ W, Below wr.heap.size wr W → Calls Tryz.prog 25 #[.pointer (some ⟨q, 0, none⟩)] W fun e w' => ∃ qr B, e = .returned (.pointer (some ⟨qr, 0, none⟩)) ∧ DelV w' B B (.pointer (some ⟨qr, 0, none⟩)) R ∧ Below wr.heap.size wr w') := fun W hW => (cR.out W _ q g R (hbw.trans (hW.mono hbw.size)) (HP.out.a.below hW) HRs.out).mono fun e w' ⟨v', h1, h2, h3⟩ => by
            obtain ⟨qr, _, _, rfl, _⟩ := id h2
            exact ⟨qr, _, h1, h2, hW.trans (h3.mono hW.size)⟩
          have HV : Hid (∀ W, Below wr.heap.size wr W → W.cell? ⟨qv, 0, none⟩ = some (.slice pv nR cv)) := fun W hW => (hW.cell (lt_of_cell v0)).trans v0
          have cI : Hid (∀ W d B, Below wr.heap.size wr W → DelV W B B d R → Calls Tryz.prog 24 #[d, .slice pv nR cv] W fun r w' => r = .returned (.bool true) ∧ Below wr.heap.size wr w') := fun W d B hW hd => from_below hW (is7_any d _ R W hd HRs.out.good HRs.out.attr (Nat.le_trans HRs.out.len (by decide)) (hv.below hW))
          have cJ : Hid (∀ W, Below wr.heap.size wr W → Calls Tryz.prog 24 #[.pointer (some ⟨qd, 0, none⟩), .slice po no co] W fun r w' => r = .returned (.bool true) ∧ Below wr.heap.size wr w') := fun W hW => from_below hW (is7_any _ _ E W (HD.out.1.below (HP.out.bl.trans (hW.mono HP.out.bl.size))) HE.out.good HE.out.attr (Nat.le_trans HE.out.len (by decide)) (HD.out.2.below (HP.out.bl.trans (hW.mono HP.out.bl.size))))
          have m0 := v0
          have mB : Below wr.heap.size wr wr := Below.refl _ _
          have md : Below wr.heap.size wr wr.drew := (Below.refl _ _).drew
          have HBW := Hid.mk' hbw
          clear hv v0 hnR HRs HP HD HE cX0 cN HR HS HF HQ hbw cR
          go_wp2_with fail
          go_region_held3 (fun w' => w'.cell? ⟨qv, 0, none⟩ = some (.slice pv nR cv) ∧ Below wr.heap.size wr w')
            (exact ⟨by first | (with_reducible assumption) | exact m0, by first | (with_reducible assumption)⟩)
            (first
              | (go_at_call 25; refine (cA.out _ ?_).mono ?_; (· first | (with_reducible assumption) | (apply And.right; with_reducible assumption)); rintro r wA ⟨qr, Br, rfl, hdr, bA⟩; have mA := HV.out wA bA; have HA := Hid.mk' hdr; clear hdr)
              | (go_at_call_of 24 (Value.slice po no co); refine (cJ.out _ bB).mono ?_; rintro r wC ⟨rfl, bC⟩; have mC := HV.out wC bC)
              | (go_at_call 24; refine (cI.out _ _ _ bA HA.out).mono ?_; rintro r wB ⟨rfl, bB⟩; have mB := HV.out wB bB))
          go_wp2
          go_ret
          exact ⟨rfl, HBW.out.trans (bC.mono HBW.out.size)⟩
    · have c2 := cM0.out h0 (by omega) w2 hb2
      clear cM0 cM1 hlt cN cX0 cR
      go_wp2_with fail
      refine c2.mono ?_; rintro r w3 ⟨rfl, hb3⟩
      have b3 := hb2.trans (hb3.mono hb2.size)
      clear c2 hb2 hb3
      go_wp2
      go_ret
      exact ⟨rfl, b3⟩
end Go.Proofs.YtpmnmlhmeidmeaaGreatDoor
