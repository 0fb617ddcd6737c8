/- vellumhand.Kept and vellumlaw03.same. Operations as new memory: appends of rows of operations; vellumlaw05.copied. The document's deltas: push: an operation put behind others. vellumhand.KeptOps: what Ops made is still what it made. vellumhand.OverOps: operations written over, their lists too, and grown. Where a piece of a text ends. vellumlaw09.own; vellumhand.OverCells: cells written over, their lists too, and grown. vellumhand.OverCells: cells written over, their lists too, and grown. cells.Check; the document's Check of a cell. The document's deltas: Canonical: the canonical list of operations. The document's deltas: Len. What the methods Op of api.Insert and api.Embed answer. What the methods Op of pieces answer. -/
import Derived.Test.YtalfdjglbbmjcabGreatDoorMgd
import Derived.Test.YtalfdjglbbmjcabGreatDoorQd
import Derived.Deep.DeepCutAuto
import Derived.Test.YtalfdjglbbmjcabGreatDoorMgb
import Derived.OneCell
import Derived.Test.YtalfdjglbbmjcabGreatDoorLe
import Derived.Test.YtalfdjglbbmjcabGreatDoorMgc
import Derived.Test.YtalfdjglbbmjcabGreatDoorQb
import Derived.Test.YtalfdjglbbmjcabGreatDoorMga
import Derived.Test.YtalfdjglbbmjcabGreatDoorCq
import Derived.Deep.RegionHeld3
import Derived.Test.YtalfdjglbbmjcabGreatDoorQf

/- vellumhand.Kept and vellumlaw03.same. -/
namespace Go.Proofs.YtalfdjglbbmjcabGreatDoor
open Go Go.RowKit Go.Lib
set_option linter.unusedVariables false

set_option maxHeartbeats 800000 in
set_option maxRecDepth 100000 in
theorem kept_any (va vb : Value) (A : List A2) (w : World) (hA : HandA w va A) (hB : RowA w vb A) (hl : A.length ≤ 1048576) :
    Calls Tryz.prog 16 #[va, vb] w fun r w' => r = .returned (.bool true) ∧ Below w.heap.size w w' := by
  have cS := refSame_any va vb A A w hA.2.1 hB (by omega) (by omega)
  simp only [decide_true] at cS
  obtain ⟨pb, cb, rfl, hcb⟩ := hB.val
  clear hB
  obtain ⟨n, hn⟩ : ∃ n, A.length = n := ⟨_, rfl⟩
  by_cases h0 : n = 0
  · subst h0
    obtain ⟨pa, ca, rfl, _⟩ := hA.2.1.val
    rw [hn] at cS ⊢
    clear hA hl hn hcb
    go_enter Tryz.func16, Tryz.ntmps16
    go_wp2_with fail
    refine cS.mono ?_; rintro r w2 ⟨rfl, hb2⟩
    go_wp2
    go_ret
    exact ⟨rfl, hb2⟩
  · have h0I : ((n : Int) == 0) = false := by simp; omega
    obtain ⟨p, c, rfl, hc, hr⟩ := hA.2.2 (fun e => h0 (by rw [← hn, e]; rfl))
    obtain ⟨p', c', e', hc', hr'⟩ := hr
    obtain ⟨b, off, hp1, h1⟩ := hr' n s1 (by rw [List.getElem?_append_right (by omega), hn]; simp)
    obtain ⟨b2, off2, hp2, h2⟩ := hr' (n + 1) s2 (by rw [List.getElem?_append_right (by omega), hn]; simp)
    simp only [Value.slice.injEq] at e'
    obtain ⟨rfl, -, rfl⟩ := e'
    subst hp1
    cases hp2
    rw [hn] at cS hl hc hcb ⊢
    have q1 := beq_key (x := ⟨#[115, 112, 97, 114, 101]⟩) (y := ⟨#[115, 112, 97, 114, 101]⟩) true (decide_eq_true rfl)
    have q2 := beq_key (x := ⟨#[114, 111, 111, 109]⟩) (y := ⟨#[114, 111, 111, 109]⟩) true (decide_eq_true rfl)
    have d1 := h1.c0
    have d2 := h2.c0
    simp only at d1 d2
    clear hA hc' hr' h0 h1 h2
    go_enter Tryz.func16, Tryz.ntmps16
    go_wp2_with fail
    refine cS.mono ?_; rintro r w2 ⟨rfl, hb2⟩
    have e1 := (hb2.cell (lt_of_cell d1)).trans d1
    have e2 := (hb2.cell (lt_of_cell d2)).trans d2
    clear d1 d2 cS hn
    go_wp2
    go_ret
    exact ⟨rfl, hb2⟩

end Go.Proofs.YtalfdjglbbmjcabGreatDoor

/- Operations as new memory: appends of rows of operations; vellumlaw05.copied. -/
namespace Go.Proofs.YtalfdjglbbmjcabGreatDoor
open Go Go.RowKit Go.Lib
set_option linter.unusedVariables false

theorem cellsO_inv : ∀ (L : List OV) (j : Nat) (u : Value), (cellsO L)[j]? = some u → ∃ i d, L[i]? = some d ∧ ((j = i * 7 ∧ u = .int .i64 d.1) ∨ (j = i * 7 + 1 ∧ u = .string d.2.1) ∨ (j = i * 7 + 2 ∧ u = .int .i64 d.2.2.1.1) ∨ (j = i * 7 + 3 ∧ u = .int .i64 d.2.2.1.2.1) ∨ (j = i * 7 + 4 ∧ u = .string d.2.2.1.2.2) ∨ (j = i * 7 + 5 ∧ u = .int .i64 d.2.2.2.1) ∨ (j = i * 7 + 6 ∧ u = slV d.2.2.2.2))
  | [], j, u, h => by simp [cellsO] at h
  | p :: r, 0, u, h => ⟨0, p, rfl, Or.inl ⟨rfl, by simpa [cellsO] using h.symm⟩⟩
  | p :: r, 1, u, h => ⟨0, p, rfl, Or.inr (Or.inl ⟨rfl, by simpa [cellsO] using h.symm⟩)⟩
  | p :: r, 2, u, h => ⟨0, p, rfl, Or.inr (Or.inr (Or.inl ⟨rfl, by simpa [cellsO] using h.symm⟩))⟩
  | p :: r, 3, u, h => ⟨0, p, rfl, Or.inr (Or.inr (Or.inr (Or.inl ⟨rfl, by simpa [cellsO] using h.symm⟩)))⟩
  | p :: r, 4, u, h => ⟨0, p, rfl, Or.inr (Or.inr (Or.inr (Or.inr (Or.inl ⟨rfl, by simpa [cellsO] using h.symm⟩))))⟩
  | p :: r, 5, u, h => ⟨0, p, rfl, Or.inr (Or.inr (Or.inr (Or.inr (Or.inr (Or.inl ⟨rfl, by simpa [cellsO] using h.symm⟩)))))⟩
  | p :: r, 6, u, h => ⟨0, p, rfl, Or.inr (Or.inr (Or.inr (Or.inr (Or.inr (Or.inr ⟨rfl, by simpa [cellsO] using h.symm⟩)))))⟩
  | p :: r, j + 7, u, h => by
    obtain ⟨i, q, hq, hh⟩ := cellsO_inv r j u (by simpa [cellsO] using h)
    refine ⟨i + 1, q, by simpa using hq, ?_⟩
    rcases hh with ⟨h1, h2⟩ | ⟨h1, h2⟩ | ⟨h1, h2⟩ | ⟨h1, h2⟩ | ⟨h1, h2⟩ | ⟨h1, h2⟩ | ⟨h1, h2⟩
    · exact Or.inl ⟨by omega, h2⟩
    · exact Or.inr (Or.inl ⟨by omega, h2⟩)
    · exact Or.inr (Or.inr (Or.inl ⟨by omega, h2⟩))
    · exact Or.inr (Or.inr (Or.inr (Or.inl ⟨by omega, h2⟩)))
    · exact Or.inr (Or.inr (Or.inr (Or.inr (Or.inl ⟨by omega, h2⟩))))
    · exact Or.inr (Or.inr (Or.inr (Or.inr (Or.inr (Or.inl ⟨by omega, h2⟩)))))
    · exact Or.inr (Or.inr (Or.inr (Or.inr (Or.inr (Or.inr ⟨by omega, h2⟩)))))
/-- append(own, a row of operations ...). -/
theorem wpList_append_rowO {w : World} {ops : Array Oper} {rest : List Oper} {o : Oper} {a : Act} {Q : Exit → Act → World → Prop} (hgd : o.guard = none) (s x : Operand)
    (ho : o.op = .call { callee := .builtin .append, args := #[s, x], argTypes := #[39, 39] })
    (base : Nat) (v : Value) (L : List OV) (hs : a.eval s = v) (hown : OwnO w base v L)
    (u : Value) (M : List OV) (hx : a.eval x = u) (hM : RowO w u M)
    (h63 : L.length + M.length ≤ 33554432) (hbase : base ≤ w.heap.size)
    (h : ∀ v' w', OwnO w' base v' (L ++ M) → w.grownBy w' v.ownBlock → wpList Tryz.prog ops Q rest (a.put o.dst v') w') : wpList Tryz.prog ops Q (o :: rest) a w := by
  obtain ⟨i, z, hi, hz, hz1, hz2, hz3⟩ := infoOp
  obtain ⟨p, cap, rfl, hcap, hnz, hc⟩ := hM
  cases p with
  | none =>
    have hM0 : M = [] := List.eq_nil_of_length_eq_zero (by have := hnz rfl; omega)
    have hcap0 := hnz rfl
    subst hM0
    subst hcap0
    exact wpList_append_own_none hgd s x 39 ho base 69 i 7 Tryz.underlying39 hi v L.length (cellsO L) hs hown hx (h v w (by simpa using hown) ⟨rfl, rfl, rfl, Nat.le_refl _, fun _ _ _ => rfl⟩)
  | some ad =>
    refine wpList_append_own _ hgd s x _ ho base 69 i z 7 88 Tryz.underlying39 hi hz hz1 hz2 hz3 (by decide) v L.length (cellsO L) hs hown ad M.length cap (cellsO M) hx (cellsO_len M) (fun j y hj => ?_) (cellsO_one _) (by unfold maxLen; omega) (by omega) hbase (fun v' w' h1 h2 _ => h v' w' ?_ h2)
    · obtain ⟨i, d, hd, hh⟩ := cellsO_inv M j y hj
      obtain ⟨b, off, hp, h0, h1, h2, h3, h4, h5, h6⟩ := hc i d hd
      obtain rfl := Option.some.inj hp
      rw [Addr.add_lit]
      rcases hh with ⟨rfl, rfl⟩ | ⟨rfl, rfl⟩ | ⟨rfl, rfl⟩ | ⟨rfl, rfl⟩ | ⟨rfl, rfl⟩ | ⟨rfl, rfl⟩ | ⟨rfl, rfl⟩
      · exact h0
      · exact h1
      · exact h2
      · exact h3
      · exact h4
      · exact h5
      · exact h6
    · show w'.ownsRow _ _ _ _ _ _
      rw [cellsO_append, List.length_append]
      exact h1
/-- What operations in memory are, their lists the call's own. -/
def OwD (w : World) (B : Nat) (D : List OV) (E : List Op5) : Prop := All2 (fun (d : OV) (e : Op5) => d.1 = e.k ∧ d.2.1 = e.t ∧ d.2.2.1 = e.v ∧ d.2.2.2.1 = e.c ∧ OwnA w B (slV d.2.2.2.2) e.A) D E
theorem OwD.below {w w' : World} {B : Nat} {D : List OV} {E : List Op5} (h : OwD w B D E) (b : Below w.heap.size w w') : OwD w' B D E := All2.imp (fun d e h => ⟨h.1, h.2.1, h.2.2.1, h.2.2.2.1, owns_below h.2.2.2.2 b⟩) h
theorem OwD.keep {w w' : World} {B : Nat} {D : List OV} {E : List Op5} (h : OwD w B D E) (b : KeepA w w') : OwD w' B D E := All2.imp (fun d e h => ⟨h.1, h.2.1, h.2.2.1, h.2.2.2.1, keepA_own h.2.2.2.2 b⟩) h
theorem OwD.weaken {w : World} {B B' : Nat} {D : List OV} {E : List Op5} (h : OwD w B D E) (hb : B' ≤ B) : OwD w B' D E := All2.imp (fun d e h => ⟨h.1, h.2.1, h.2.2.1, h.2.2.2.1, own_weaken h.2.2.2.2 hb⟩) h
theorem OwD.re {w : World} {B : Nat} {D : List OV} {E : List Op5} (h : OwD w B D E) : ReD w D E := All2.imp (fun d e h => ⟨h.1, h.2.1, h.2.2.1, h.2.2.2.1, own_RN h.2.2.2.2⟩) h
/-- A list of operations, the call's own. -/
def CoO (w : World) (B : Nat) (v : Value) (E : List Op5) : Prop := ∃ D, OwnO w B v D ∧ OwD w B D E
theorem CoO.below {w w' : World} {B : Nat} {v : Value} {E : List Op5} (h : CoO w B v E) (b : Below w.heap.size w w') : CoO w' B v E := by
  obtain ⟨D, h1, h2⟩ := h
  exact ⟨D, owns_below h1 b, h2.below b⟩
theorem CoO.re {w : World} {B : Nat} {v : Value} {E : List Op5} (h : CoO w B v E) : ReO w v E := by
  obtain ⟨D, h1, h2⟩ := h
  exact ⟨D, own_rowO h1, h2.re⟩

end Go.Proofs.YtalfdjglbbmjcabGreatDoor

/- The document's deltas: push: an operation put behind others. -/
namespace Go.Proofs.YtalfdjglbbmjcabGreatDoor
open Go Go.RowKit Go.Lib
set_option linter.unusedVariables false

/-- An operation in memory, its fields those of e. -/
abbrev FldE (d : OV) (e : Op5) : Prop := d.1 = e.k ∧ d.2.1 = e.t ∧ d.2.2.1 = e.v ∧ d.2.2.2.1 = e.c
/-- The cells of a row, one operation of it with another text and count. -/
theorem cellsO_set (F : List OV) (d : OV) (t : ByteArray) (c : Int) : ((cellsO (F ++ [d])).set (F.length * 7 + 1) (.string t)).set (F.length * 7 + 5) (.int .i64 c) = cellsO (F ++ [(d.1, t, d.2.2.1, c, d.2.2.2.2)]) := by
  rw [cellsO_append, cellsO_append]
  have hl := cellsO_len F
  rw [List.set_append_right _ _ (by omega), List.set_append_right _ _ (by omega), hl]
  rw [show F.length * 7 + 1 - F.length * 7 = 1 by omega, show F.length * 7 + 5 - F.length * 7 = 5 by omega]
  simp [cellsO]
theorem own_joinO {w : World} {B g cap : Nat} {F : List OV} {d : OV} (h : OwnO w B (.slice (some ⟨g, 0, none⟩) (F.length + 1) cap) (F ++ [d])) (t : ByteArray) (c : Int) :
    OwnO ((w.setCell ⟨g, F.length * 7 + 1, none⟩ (.string t)).setCell ⟨g, F.length * 7 + 5, none⟩ (.int .i64 c)) B (.slice (some ⟨g, 0, none⟩) (F.length + 1) cap) (F ++ [(d.1, t, d.2.2.1, c, d.2.2.2.2)]) := by
  have h' : w.ownsRow B 69 7 (.slice (some ⟨g, 0, none⟩) (F.length + 1) cap) (F.length + 1) (cellsO (F ++ [d])) := by
    have := h
    unfold OwnO at this
    rw [List.length_append] at this
    exact this
  have h1 := (h'.stored (F.length * 7 + 1) (.string t)).1
  have h2 := (h1.stored (F.length * 7 + 5) (.int .i64 c)).1
  rw [cellsO_set] at h2
  show World.ownsRow _ _ _ _ _ _ _
  rw [List.length_append]
  exact h2
/-- But for one row's block the memory stands. -/
structure Row1 (v : Value) (w w' : World) : Prop where
  os : w'.os = w.os
  tape : w'.tape = w.tape
  output : w'.output = w.output
  size : w.heap.size ≤ w'.heap.size
  block : ∀ k, k < w.heap.size → v.ownBlock ≠ some k → w'.heap[k]? = w.heap[k]?
theorem Row1.of_below {v : Value} {w w' : World} (h : Below w.heap.size w w') : Row1 v w w' := ⟨h.os, h.tape, h.output, h.size, fun k hk _ => h.block k hk⟩
theorem Row1.grown {v : Value} {a w w' : World} (h : Row1 v a w) (g : w.grownBy w' v.ownBlock) : Row1 v a w' :=
  ⟨g.os.trans h.os, g.tape.trans h.tape, g.output.trans h.output, Nat.le_trans h.size g.size, fun k hk hn => (g.block k (Nat.lt_of_lt_of_le hk h.size) (fun e => hn e.symm)).trans (h.block k hk hn)⟩
theorem Row1.setCell {v : Value} {a w : World} (h : Row1 v a w) {g : Nat} (hg : v.ownBlock = some g) (j : Nat) (u : Value) : Row1 v a (w.setCell ⟨g, j, none⟩ u) :=
  ⟨h.os, h.tape, h.output, by simpa [World.setCell] using h.size, fun k hk hn => (Below.heap_setCell _ _ _ _ (by intro e; obtain rfl : k = g := e; exact hn hg)).trans (h.block k hk hn)⟩
theorem Row1.drew {v : Value} {a w : World} (h : Row1 v a w) : Row1 v a w.drew := ⟨h.os, h.tape, h.output, h.size, h.block⟩
theorem Row1.below {v : Value} {w w' : World} {B : Nat} (h : Row1 v w w') (hB : B ≤ w.heap.size) (hv : ∀ k, v.ownBlock = some k → B ≤ k) : Below B w w' :=
  ⟨h.os, h.tape, h.output, h.size, fun k hk => h.block k (by omega) (fun e => by have := hv k e; omega)⟩
/-- What push answers: the row grown. -/
abbrev PushR (w0 : World) (B : Nat) (w w' : World) (v : Value) (e : Ending) (P : List Op5) : Prop := ∃ v' D', e = .returned v' ∧ OwnO w' B v' D' ∧ ReD w0 D' P ∧ Row1 v w w' ∧ (v'.ownBlock = v.ownBlock ∨ ∃ k, v'.ownBlock = some k ∧ w.heap.size ≤ k)

theorem Hid.mk' {p : Prop} (h : p) : Hid p := h
/-- What append finds behind the first region, from whatever world. -/
theorem push6_tail {w0 w : World} {B : Nat} {v : Value} {D : List OV} {P : List Op5} {o : Op5} {sp : Option Addr} {sl sc : Nat} (hB : B ≤ w.heap.size) (hw : Below w0.heap.size w0 w) (hv : OwnO w B v D) (hD : ReD w0 D P) (ho : RN w0 (.slice sp sl sc) o.A) (W1 : World) (h1 : Below w.heap.size w W1) :
    OwnO (W1.alloc (.cells (opC o (.slice sp sl sc)) 69)) B v D ∧ OpAt (W1.alloc (.cells (opC o (.slice sp sl sc)) 69)) W1.heap.size 0 (o.k, o.t, o.v, o.c, (sp, sl, sc)) ∧ B ≤ (W1.alloc (.cells (opC o (.slice sp sl sc)) 69)).heap.size ∧
      ∀ v8 w8, OwnO w8 B v8 (D ++ [(o.k, o.t, o.v, o.c, (sp, sl, sc))]) → (W1.alloc (.cells (opC o (.slice sp sl sc)) 69)).grownBy w8 v.ownBlock → (v8.ownBlock = v.ownBlock ∨ v8.ownBlock = some (W1.alloc (.cells (opC o (.slice sp sl sc)) 69)).heap.size) → PushR w0 B w w8 v (.returned v8) (P ++ [o]) := by
  have b1 : Below w.heap.size w (W1.alloc (.cells (opC o (.slice sp sl sc)) 69)) := h1.alloc h1.size _
  refine ⟨owns_below hv b1, ?_, Nat.le_trans hB b1.size, fun v8 w8 h2 h3 h4 => ⟨v8, _, rfl, h2, forall2_append hD (.cons ⟨rfl, rfl, rfl, rfl, ho⟩ .nil), (Row1.of_below b1).grown h3, h4.imp id (fun e => ⟨_, e, b1.size⟩)⟩⟩
  refine ⟨?_, ?_, ?_, ?_, ?_, ?_, ?_⟩ <;> simp [opC]
set_option maxHeartbeats 4000000 in
set_option maxRecDepth 100000 in
theorem push6_nil {w0 : World} {B : Nat} (v : Value) (D : List OV) (P : List Op5) (o : Op5) (sp : Option Addr) (sl sc : Nat) (w : World) (hB : B ≤ w.heap.size) (hw : Below w0.heap.size w0 w) (hv : OwnO w B v D) (hD : ReD w0 D P) (ho : RN w0 (.slice sp sl sc) o.A) (hl : P.length ≤ 8388608) (hP : P = []) :
    Calls Tryz.prog 91 #[v, opV o (.slice sp sl sc)] w fun e w' => PushR w0 B w w' v e (P ++ [o]) := by
  have hlen := forall2_len hD
  have ba : Below w.heap.size w (w.alloc (.cells (opC o (.slice sp sl sc)) 69)) := (Below.refl _ _).alloc (Nat.le_refl _) _
  have hl33 : D.length ≤ 33554432 := by omega
  have HT : Hid _ := fun W1 h1 => push6_tail hB hw hv hD ho W1 h1
  subst hP
  have hD0 : D = [] := List.eq_nil_of_length_eq_zero (by simpa using hlen)
  subst hD0
  obtain ⟨p, cap, e⟩ := own_slice hv
  obtain rfl : v = .slice p 0 cap := e
  obtain ⟨k, t, ⟨xx, n, u⟩, cc, A⟩ := o
  have HT' : Hid (∀ W1, Below w.heap.size w W1 → _) := HT
  simp only [opC] at ba
  have hba : ∀ q, Below w.heap.size w ((w.alloc (.cells #[.int .i64 k, .string t, .int .i64 xx, .int .i64 n, .string u, .int .i64 cc, .slice sp sl sc] 69)).drewN q) := fun q => below_drewN ba q
  have HBA : Hid (∀ q, Below w.heap.size w ((w.alloc (.cells #[.int .i64 k, .string t, .int .i64 xx, .int .i64 n, .string u, .int .i64 cc, .slice sp sl sc] 69)).drewN q)) := hba
  have HO2 : Hid (∀ q, OpAt (((w.alloc (.cells #[.int .i64 k, .string t, .int .i64 xx, .int .i64 n, .string u, .int .i64 cc, .slice sp sl sc] 69)).drewN q).alloc (.cells #[.int .i64 k, .string t, .int .i64 xx, .int .i64 n, .string u, .int .i64 cc, .slice sp sl sc] 69)) (w.heap.size + 1) 0 (k, t, (xx, n, u), cc, sp, sl, sc)) := fun q => by
    have h := (HT'.out _ (HBA.out q)).2.1
    have e : ((w.alloc (.cells #[.int .i64 k, .string t, .int .i64 xx, .int .i64 n, .string u, .int .i64 cc, .slice sp sl sc] 69)).drewN q).heap.size = w.heap.size + 1 := by show (w.alloc _).heap.size = _; simp
    rw [e] at h
    exact h
  clear hv hD ho hlen ba hw hB HT hl hba
  go_enter Tryz.func91, Tryz.ntmps91
  go_wp2
  go_quiet (fail)
  go_wp2_with (at_builtin; refine wpList_append_ops rfl (.tmp 38) (.tmp 40) rfl B (.slice p 0 cap) [] rfl (HT'.out _ (HBA.out _)).1 _ 1 _ rfl (HO2.out _) hl33 (HT'.out _ (HBA.out _)).2.2.1 ?_; intro v8 w8 own8 gr8 hat8; have HQ : Hid (PushR w0 B w w8 (.slice p 0 cap) (.returned v8) ([] ++ [_])) := (HT'.out _ (HBA.out _)).2.2.2 v8 w8 own8 gr8 hat8; clear own8 gr8 hat8 HT' HBA HO2)
  go_ret
  exact HQ.out
set_option maxHeartbeats 4000000 in
set_option maxRecDepth 100000 in
theorem push6_kind {w0 : World} {B : Nat} (v : Value) (D : List OV) (P : List Op5) (o : Op5) (sp : Option Addr) (sl sc : Nat) (w : World) (hB : B ≤ w.heap.size) (hw : Below w0.heap.size w0 w) (hv : OwnO w B v D) (hD : ReD w0 D P) (ho : RN w0 (.slice sp sl sc) o.A) (hl : P.length ≤ 8388608) (F : List Op5) (x : Op5) (hP : P = F ++ [x]) (hx : x.k ≠ o.k ∨ o.k = 2) :
    Calls Tryz.prog 91 #[v, opV o (.slice sp sl sc)] w fun e w' => PushR w0 B w w' v e (P ++ [o]) := by
  have hlen := forall2_len hD
  have ba : Below w.heap.size w (w.alloc (.cells (opC o (.slice sp sl sc)) 69)) := (Below.refl _ _).alloc (Nat.le_refl _) _
  have hl33 : D.length ≤ 33554432 := by omega
  have HT : Hid _ := fun W1 h1 => push6_tail hB hw hv hD ho W1 h1
  subst hP
  obtain ⟨FD, d, rfl, hFD, hxd⟩ : ∃ FD d, D = FD ++ [d] ∧ ReD w0 FD F ∧ ((d.1 = x.k ∧ d.2.1 = x.t ∧ d.2.2.1 = x.v ∧ d.2.2.2.1 = x.c) ∧ RN w0 (slV d.2.2.2.2) x.A) := by
    rcases List.eq_nil_or_concat D with rfl | ⟨FD, d, rfl⟩
    · have := forall2_len hD; simp at this
    · rw [List.concat_eq_append] at hD ⊢
      have hl' : FD.length = F.length := by have := forall2_len hD; simpa using this
      obtain ⟨h1, h2⟩ := forall2_unappend hl' hD
      cases h2 with
      | cons a _ => exact ⟨FD, d, rfl, h1, ⟨a.1, a.2.1, a.2.2.1, a.2.2.2.1⟩, a.2.2.2.2⟩
  obtain ⟨⟨f1, f2, f3, f4⟩, hrx⟩ := hxd
  have hFl := forall2_len hFD
  obtain ⟨g, cap, rfl⟩ : ∃ g cap, v = .slice (some ⟨g, 0, none⟩) (FD.length + 1) cap := by
    rcases hv.2 with ⟨_, h0⟩ | ⟨g, cap, cur, e, _⟩
    · simp at h0
    · exact ⟨g, cap, by rw [e]; simp⟩
  have hv2 : w.ownsRow B 69 7 (.slice (some ⟨g, 0, none⟩) (FD.length + 1) cap) (FD.length + 1) (cellsO (FD ++ [d])) := by
    have h := hv
    unfold OwnO at h
    rw [show (FD ++ [d]).length = FD.length + 1 by simp] at h
    exact h
  have hat := own_opAt hv2 FD.length d (by simp)
  rw [Nat.zero_add] at hat
  obtain ⟨m, hm⟩ : ∃ m, FD.length = m := ⟨_, rfl⟩
  have c0 := hat.c0
  rw [f1] at c0
  rw [hm] at c0 HT ⊢
  obtain ⟨xk, hxk⟩ : ∃ z, x.k = z := ⟨_, rfl⟩
  rw [hxk] at c0 hx
  obtain ⟨k, t, ⟨xx, n, u⟩, cc, A⟩ := o
  have HT' : Hid (∀ W1, Below w.heap.size w W1 → _) := HT
  simp only [opC] at ba hx
  have c0' : (w.alloc (.cells #[.int .i64 k, .string t, .int .i64 xx, .int .i64 n, .string u, .int .i64 cc, .slice sp sl sc] 69)).cell? ⟨g, m * 7, none⟩ = some (.int .i64 xk) := (ba.cell (lt_of_cell c0)).trans c0
  have hgw : g < w.heap.size := lt_of_cell c0
  have hne : ¬ g = w.heap.size := by omega
  have HBA : Hid (∀ q, Below w.heap.size w ((w.alloc (.cells #[.int .i64 k, .string t, .int .i64 xx, .int .i64 n, .string u, .int .i64 cc, .slice sp sl sc] 69)).drewN q)) := fun q => below_drewN ba q
  have HO2 : Hid (∀ q, OpAt (((w.alloc (.cells #[.int .i64 k, .string t, .int .i64 xx, .int .i64 n, .string u, .int .i64 cc, .slice sp sl sc] 69)).drewN q).alloc (.cells #[.int .i64 k, .string t, .int .i64 xx, .int .i64 n, .string u, .int .i64 cc, .slice sp sl sc] 69)) (w.heap.size + 1) 0 (k, t, (xx, n, u), cc, sp, sl, sc)) := fun q => by
    have h := (HT'.out _ (HBA.out q)).2.1
    have e : ((w.alloc (.cells #[.int .i64 k, .string t, .int .i64 xx, .int .i64 n, .string u, .int .i64 cc, .slice sp sl sc] 69)).drewN q).heap.size = w.heap.size + 1 := by show (w.alloc _).heap.size = _; simp
    rw [e] at h
    exact h
  have hz : (((m : Int) + 1) == 0) = false := by rw [beq_eq_false_iff_ne]; omega
  have hd1 : ((m : Int) + 1) - 1 = (m : Int) := by omega
  have hmz : (0 : Int) ≤ (m : Int) := by omega
  have hml : m ≤ 8388608 := by simp at hl; omega
  have hmlt : (m : Int) < (m : Int) + 1 := by omega
  clear hv hD ho hlen ba hw hB HT hl hv2 hat hFD hFl f1 f2 f3 f4 hrx hm hxk c0
  by_cases hk : xk = k
  · obtain rfl : k = 2 := hx.resolve_left (fun h => h hk)
    subst hk
    go_enter Tryz.func91, Tryz.ntmps91
    go_wp2
    go_quiet (fail)
    go_wp2_with (at_builtin; refine wpList_append_ops rfl (.tmp 38) (.tmp 40) rfl B _ (FD ++ [d]) rfl (HT'.out _ (HBA.out _)).1 _ 1 _ rfl (HO2.out _) hl33 (HT'.out _ (HBA.out _)).2.2.1 ?_; intro v8 w8 own8 gr8 hat8; have HQ := Hid.mk' ((HT'.out _ (HBA.out _)).2.2.2 v8 w8 own8 gr8 hat8); clear own8 gr8 hat8 HT' HBA HO2)
    go_ret
    exact HQ.out
  · have hkb : (xk != k) = true := by simpa using hk
    clear hx hk
    go_enter Tryz.func91, Tryz.ntmps91
    go_wp2
    go_quiet (fail)
    go_wp2_with (at_builtin; refine wpList_append_ops rfl (.tmp 38) (.tmp 40) rfl B _ (FD ++ [d]) rfl (HT'.out _ (HBA.out _)).1 _ 1 _ rfl (HO2.out _) hl33 (HT'.out _ (HBA.out _)).2.2.1 ?_; intro v8 w8 own8 gr8 hat8; have HQ := Hid.mk' ((HT'.out _ (HBA.out _)).2.2.2 v8 w8 own8 gr8 hat8); clear own8 gr8 hat8 HT' HBA HO2)
    go_ret
    exact HQ.out
set_option maxHeartbeats 4000000 in
set_option maxRecDepth 100000 in
theorem push6_same {w0 : World} {B : Nat} (v : Value) (D : List OV) (P : List Op5) (o : Op5) (sp : Option Addr) (sl sc : Nat) (w : World) (hB : B ≤ w.heap.size) (hw : Below w0.heap.size w0 w) (hv : OwnO w B v D) (hD : ReD w0 D P) (ho : RN w0 (.slice sp sl sc) o.A) (hl : P.length ≤ 8388608) (F : List Op5) (x : Op5) (hP : P = F ++ [x]) (hx : x.k = o.k) (h2 : o.k ≠ 2) (hn1 : x.A.length ≤ 2097152) (hn2 : o.A.length ≤ 2097152) (hsz : x.t.size + o.t.size ≤ 16777216) (hcc : 0 ≤ x.c ∧ 0 ≤ o.c ∧ x.c + o.c ≤ 4398046511104) :
    Calls Tryz.prog 91 #[v, opV o (.slice sp sl sc)] w fun e w' => PushR w0 B w w' v e (if x.A = o.A then F ++ [jnO x o] else P ++ [o]) := by
  have hlen := forall2_len hD
  have ba : Below w.heap.size w (w.alloc (.cells (opC o (.slice sp sl sc)) 69)) := (Below.refl _ _).alloc (Nat.le_refl _) _
  have hl33 : D.length ≤ 33554432 := by omega
  have HT : Hid _ := fun W1 h1 => push6_tail hB hw hv hD ho W1 h1
  subst hP
  obtain ⟨FD, d, rfl, hFD, hxd⟩ : ∃ FD d, D = FD ++ [d] ∧ ReD w0 FD F ∧ ((d.1 = x.k ∧ d.2.1 = x.t ∧ d.2.2.1 = x.v ∧ d.2.2.2.1 = x.c) ∧ RN w0 (slV d.2.2.2.2) x.A) := by
    rcases List.eq_nil_or_concat D with rfl | ⟨FD, d, rfl⟩
    · have := forall2_len hD; simp at this
    · rw [List.concat_eq_append] at hD ⊢
      have hl' : FD.length = F.length := by have := forall2_len hD; simpa using this
      obtain ⟨h1, h2⟩ := forall2_unappend hl' hD
      cases h2 with
      | cons a _ => exact ⟨FD, d, rfl, h1, ⟨a.1, a.2.1, a.2.2.1, a.2.2.2.1⟩, a.2.2.2.2⟩
  obtain ⟨⟨f1, f2, f3, f4⟩, hrx⟩ := hxd
  have hFl := forall2_len hFD
  obtain ⟨g, cap, rfl⟩ : ∃ g cap, v = .slice (some ⟨g, 0, none⟩) (FD.length + 1) cap := by
    rcases hv.2 with ⟨_, h0⟩ | ⟨g, cap, cur, e, _⟩
    · simp at h0
    · exact ⟨g, cap, by rw [e]; simp⟩
  have hv2 : w.ownsRow B 69 7 (.slice (some ⟨g, 0, none⟩) (FD.length + 1) cap) (FD.length + 1) (cellsO (FD ++ [d])) := by
    have h := hv
    unfold OwnO at h
    rw [show (FD ++ [d]).length = FD.length + 1 by simp] at h
    exact h
  have hat := own_opAt hv2 FD.length d (by simp)
  rw [Nat.zero_add] at hat
  obtain ⟨m, hm⟩ : ∃ m, FD.length = m := ⟨_, rfl⟩
  have CS : Hid (∀ W, Below w.heap.size w W → Calls Tryz.prog 45 #[slV d.2.2.2.2, .slice sp sl sc] W fun r w' => r = .returned (.bool (decide (x.A = o.A))) ∧ Below W.heap.size W w') := fun W hW => refSame_any _ _ x.A o.A W ((hrx.below hw).below hW).row ((ho.below hw).below hW).row (by omega) (by omega)
  have HJ : Hid (x.A = o.A → ∀ W, Below w.heap.size w W → PushR w0 B w ((W.setCell ⟨g, m * 7 + 1, none⟩ (.string (x.t ++ o.t))).setCell ⟨g, m * 7 + 5, none⟩ (.int .i64 (x.c + o.c))).drew.drew (.slice (some ⟨g, 0, none⟩) (FD.length + 1) cap) (.returned (.slice (some ⟨g, 0, none⟩) (FD.length + 1) cap)) (F ++ [jnO x o]) ∧ W.frozen? ⟨g, m * 7 + 1, none⟩ = false ∧ W.frozen? ⟨g, m * 7 + 5, none⟩ = false) := fun hA W hW => by
    have hvW : OwnO W B (.slice (some ⟨g, 0, none⟩) (FD.length + 1) cap) (FD ++ [d]) := owns_below hv hW
    have hj := own_joinO hvW (x.t ++ o.t) (x.c + o.c)
    rw [hm] at hj
    obtain ⟨_, cur, hcur⟩ := owns_block hvW g rfl
    refine ⟨⟨.slice (some ⟨g, 0, none⟩) (FD.length + 1) cap, FD ++ [(d.1, x.t ++ o.t, d.2.2.1, x.c + o.c, d.2.2.2.2)], rfl, ?_, forall2_append hFD (.cons ⟨f1, rfl, f3, rfl, hrx⟩ .nil), ?_, Or.inl rfl⟩, frozen_of_heap hcur _, frozen_of_heap hcur _⟩
    · rw [hm]; exact hj
    · exact (((Row1.of_below hW).setCell rfl _ _).setCell rfl _ _).drew.drew
  have c0 := hat.c0
  have c1 := hat.c1
  have c5 := hat.c5
  have c6 := hat.c6
  rw [f1, hx] at c0
  rw [f2] at c1
  rw [f4] at c5
  rw [hm] at c0 c1 c5 c6 HT HJ ⊢
  obtain ⟨xt, hxt⟩ : ∃ z, x.t = z := ⟨_, rfl⟩
  obtain ⟨xc, hxc⟩ : ∃ z, x.c = z := ⟨_, rfl⟩
  rw [hxt] at c1 HJ hsz
  rw [hxc] at c5 HJ hcc
  obtain ⟨⟨xp, xl, xcap⟩, hxs⟩ : ∃ z, d.2.2.2.2 = z := ⟨_, rfl⟩
  rw [hxs] at c6 CS
  simp only [slV] at c6 CS
  obtain ⟨q, hq⟩ : ∃ q, decide (x.A = o.A) = q := ⟨_, rfl⟩
  rw [hq] at CS
  have HQ : Hid (decide (x.A = o.A) = q) := hq
  have hgw : g < w.heap.size := lt_of_cell c0
  obtain ⟨k, t, ⟨xx, n, u⟩, cc, A⟩ := o
  have HT' : Hid (∀ W1, Below w.heap.size w W1 → _) := HT
  simp only [opC] at ba
  simp only at hcc hsz h2 c0 HJ HQ ⊢
  obtain ⟨hc1, hc2, hc3⟩ := hcc
  have hz : (((m : Int) + 1) == 0) = false := by rw [beq_eq_false_iff_ne]; omega
  have hd1 : ((m : Int) + 1) - 1 = (m : Int) := by omega
  have hmz : (0 : Int) ≤ (m : Int) := by omega
  have hk2 : (k == 2) = false := by simpa using h2
  have hw1 : IntKind.i64.wrap (m : Int) = (m : Int) := IntWalk.i64_in _ (by simp at hl; omega)
  have hw2 : IntKind.i64.wrap ((m : Int) + 1 - 1) = (m : Int) := by rw [hd1]; exact hw1
  have hml : m ≤ 8388608 := by simp at hl; omega
  have hmlt : (m : Int) < (m : Int) + 1 := by omega
  obtain ⟨W1, hW1⟩ : ∃ W, W = w.alloc (.cells #[.int .i64 k, .string t, .int .i64 xx, .int .i64 n, .string u, .int .i64 cc, .slice sp sl sc] 69) := ⟨_, rfl⟩
  rw [← hW1] at ba
  have d0 : W1.cell? ⟨w.heap.size, 0, none⟩ = some (.int .i64 k) := by rw [hW1]; simp
  have d1 : W1.cell? ⟨w.heap.size, 1, none⟩ = some (.string t) := by rw [hW1]; simp
  have d2 : W1.cell? ⟨w.heap.size, 2, none⟩ = some (.int .i64 xx) := by rw [hW1]; simp
  have d3 : W1.cell? ⟨w.heap.size, 3, none⟩ = some (.int .i64 n) := by rw [hW1]; simp
  have d4 : W1.cell? ⟨w.heap.size, 4, none⟩ = some (.string u) := by rw [hW1]; simp
  have d5 : W1.cell? ⟨w.heap.size, 5, none⟩ = some (.int .i64 cc) := by rw [hW1]; simp
  have d6 : W1.cell? ⟨w.heap.size, 6, none⟩ = some (.slice sp sl sc) := by rw [hW1]; simp
  have e0 : W1.cell? ⟨g, m * 7, none⟩ = some (.int .i64 k) := (ba.cell (lt_of_cell c0)).trans c0
  have e1 : W1.cell? ⟨g, m * 7 + 1, none⟩ = some (.string xt) := (ba.cell (lt_of_cell c1)).trans c1
  have e5 : W1.cell? ⟨g, m * 7 + 5, none⟩ = some (.int .i64 xc) := (ba.cell (lt_of_cell c5)).trans c5
  have e6 : W1.cell? ⟨g, m * 7 + 6, none⟩ = some (.slice xp xl xcap) := (ba.cell (lt_of_cell c6)).trans c6
  have HU : Hid (∀ w', Below W1.drew.heap.size W1.drew w' → (w'.cell? ⟨g, m * 7, none⟩ = some (.int .i64 k) ∧ w'.cell? ⟨g, m * 7 + 1, none⟩ = some (.string xt) ∧ w'.cell? ⟨g, m * 7 + 5, none⟩ = some (.int .i64 xc) ∧ w'.cell? ⟨g, m * 7 + 6, none⟩ = some (.slice xp xl xcap)) ∧ (w'.cell? ⟨w.heap.size, 0, none⟩ = some (.int .i64 k) ∧ w'.cell? ⟨w.heap.size, 1, none⟩ = some (.string t) ∧ w'.cell? ⟨w.heap.size, 2, none⟩ = some (.int .i64 xx) ∧ w'.cell? ⟨w.heap.size, 3, none⟩ = some (.int .i64 n) ∧ w'.cell? ⟨w.heap.size, 4, none⟩ = some (.string u) ∧ w'.cell? ⟨w.heap.size, 5, none⟩ = some (.int .i64 cc) ∧ w'.cell? ⟨w.heap.size, 6, none⟩ = some (.slice sp sl sc))) := fun w' hb => ⟨⟨(hb.cell (lt_of_cell (w := W1.drew) e0)).trans e0, (hb.cell (lt_of_cell (w := W1.drew) e1)).trans e1, (hb.cell (lt_of_cell (w := W1.drew) e5)).trans e5, (hb.cell (lt_of_cell (w := W1.drew) e6)).trans e6⟩, (hb.cell (lt_of_cell (w := W1.drew) d0)).trans d0, (hb.cell (lt_of_cell (w := W1.drew) d1)).trans d1, (hb.cell (lt_of_cell (w := W1.drew) d2)).trans d2, (hb.cell (lt_of_cell (w := W1.drew) d3)).trans d3, (hb.cell (lt_of_cell (w := W1.drew) d4)).trans d4, (hb.cell (lt_of_cell (w := W1.drew) d5)).trans d5, (hb.cell (lt_of_cell (w := W1.drew) d6)).trans d6⟩
  have cs := CS.out W1.drew ba.drew
  have hne : ¬ g = w.heap.size := by omega
  have hne' : ¬ w.heap.size = g := by omega
  have hbs : w.heap.size ≤ W1.drew.heap.size := ba.size
  clear hv hD ho hlen hw hB HT hl hv2 hat hFD hFl f1 f2 f3 f4 hrx hm hxt hxc hxs hq CS c0 c1 c5 c6 h2 hx hn1 hn2
  go_enter Tryz.func91, Tryz.ntmps91
  go_upto_region 2 with fail
  rw [← hW1]
  clear hW1
  go_region_held3 (fun w' => ((w'.cell? ⟨g, m * 7, none⟩ = some (.int .i64 k) ∧ w'.cell? ⟨g, m * 7 + 1, none⟩ = some (.string xt) ∧ w'.cell? ⟨g, m * 7 + 5, none⟩ = some (.int .i64 xc) ∧ w'.cell? ⟨g, m * 7 + 6, none⟩ = some (.slice xp xl xcap)) ∧ (w'.cell? ⟨w.heap.size, 0, none⟩ = some (.int .i64 k) ∧ w'.cell? ⟨w.heap.size, 1, none⟩ = some (.string t) ∧ w'.cell? ⟨w.heap.size, 2, none⟩ = some (.int .i64 xx) ∧ w'.cell? ⟨w.heap.size, 3, none⟩ = some (.int .i64 n) ∧ w'.cell? ⟨w.heap.size, 4, none⟩ = some (.string u) ∧ w'.cell? ⟨w.heap.size, 5, none⟩ = some (.int .i64 cc) ∧ w'.cell? ⟨w.heap.size, 6, none⟩ = some (.slice sp sl sc))) ∧ Below w.heap.size w w')
    (exact ⟨by first | (with_reducible assumption) | (simp [*]; done), by first | (with_reducible assumption) | exact ba.drew⟩)
    (first | (go_at_call 45; refine cs.mono ?_; rintro r wD ⟨rfl, bD⟩; have jD : Below w.heap.size w wD := ba.drew.trans (bD.mono hbs); have mmD := HU.out _ bD))
  clear cs HU bD d0 d1 d2 d3 d4 d5 d6 e0 e1 e5 e6 ba
  obtain ⟨⟨e0, e1, e5, e6⟩, d0, d1, d2, d3, d4, d5, d6⟩ := mmD
  cases q with
  | true =>
    have hAA := of_decide_eq_true HQ.out
    obtain ⟨y1, y2, y3⟩ := HJ.out hAA wD jD
    have HY : Hid _ := y1
    have HAA := Hid.mk' hAA
    clear HJ HT' HQ hAA y1
    have e1d : wD.drew.cell? ⟨g, m * 7 + 1, none⟩ = some (.string xt) := e1
    go_wp2
    go_region
    all_goals go_wp2
    all_goals go_region
    all_goals go_wp2
    all_goals (go_ret; first | exact HY.out | (rw [if_pos HAA.out]; exact HY.out))
  | false =>
    have hAA := of_decide_eq_false HQ.out
    have HAA := Hid.mk' hAA
    have HBA : Hid (Below w.heap.size w wD) := jD
    clear HJ HQ hAA e0 e1 e5 e6 jD
    go_wp2_with (at_builtin; refine wpList_append_ops rfl (.tmp 38) (.tmp 40) rfl B _ (FD ++ [d]) rfl (HT'.out _ HBA.out).1 _ 1 _ rfl (HT'.out _ HBA.out).2.1 hl33 (HT'.out _ HBA.out).2.2.1 ?_; intro v8 w8 own8 gr8 hat8; have HQ := Hid.mk' ((HT'.out _ HBA.out).2.2.2 v8 w8 own8 gr8 hat8); clear own8 gr8 hat8 HT' HBA)
    go_ret
    have hq := HQ.out
    rw [List.append_assoc] at hq
    exact hq
end Go.Proofs.YtalfdjglbbmjcabGreatDoor

/- vellumhand.KeptOps: what Ops made is still what it made. -/
namespace Go.Proofs.YtalfdjglbbmjcabGreatDoor
open Go Go.RowKit Go.Lib
set_option linter.unusedVariables false
end Go.Proofs.YtalfdjglbbmjcabGreatDoor

/- vellumhand.OverOps: operations written over, their lists too, and grown. -/
namespace Go.Proofs.YtalfdjglbbmjcabGreatDoor
open Go Go.RowKit Go.Lib
set_option linter.unusedVariables false

theorem Out.widen {lo hi a b : Nat} {w w' : World} (h : Out a b w w') (h1 : lo ≤ a) (h2 : b ≤ hi) : Out lo hi w w' :=
  ⟨h.os, h.tape, h.output, h.size, fun k hk ho => h.block k hk (by omega), fun k cur e fz hc hk => by
    by_cases hb : k < b
    · exact h.shape k cur e fz hc hb
    · exact ⟨cur, (h.block k (Array.getElem?_eq_some_iff.1 hc).1 (Or.inr (by omega))).trans hc, rfl⟩⟩
/-- A row of operations that may be written, in blocks between two marks or in new ones: its shape alone. -/
def LiO (w : World) (L H B : Nat) (v : Value) (n : Nat) : Prop :=
  (v = .slice none 0 0 ∧ n = 0) ∨ ∃ (g cap : Nat) (cur : Array Value), v = .slice (some ⟨g, 0, none⟩) n cap ∧ ((L ≤ g ∧ g < H) ∨ B ≤ g) ∧ w.heap[g]? = some (.cells cur 69 (0, 0)) ∧ n ≤ cap ∧ cur.size = cap * 7
theorem LiO.val {w : World} {L H B n : Nat} {v : Value} (h : LiO w L H B v n) : ∃ p c, v = .slice p n c := by
  rcases h with ⟨h, h0⟩ | ⟨g, cap, cur, h, _⟩
  · exact ⟨none, 0, by rw [h, h0]⟩
  · exact ⟨_, _, h⟩
theorem LiO.below {w w' : World} {L H B n : Nat} {v : Value} (h : LiO w L H B v n) (b : Below w.heap.size w w') : LiO w' L H B v n := by
  rcases h with h | ⟨g, cap, cur, h1, h2, h3, h4⟩
  · exact Or.inl h
  · exact Or.inr ⟨g, cap, cur, h1, h2, (b.block g (Array.getElem?_eq_some_iff.1 h3).1).trans h3, h4⟩
theorem OpAt.same_block {w w' : World} {g j : Nat} {d : OV} (h : OpAt w g j d) (hb : w'.heap[g]? = w.heap[g]?) : OpAt w' g j d := by
  have e : ∀ i, w'.cell? ⟨g, i, none⟩ = w.cell? ⟨g, i, none⟩ := fun i => World.cell?_of_block (a := ⟨g, i, none⟩) hb
  exact ⟨(e _).trans h.c0, (e _).trans h.c1, (e _).trans h.c2, (e _).trans h.c3, (e _).trans h.c4, (e _).trans h.c5, (e _).trans h.c6⟩
/-- append(such a row, one operation). -/
theorem wpList_append_reo {w u : World} {ops : Array Oper} {rest : List Oper} {o : Oper} {a : Act} {Q : Exit → Act → World → Prop} (hgd : o.guard = none) (s x : Operand)
    (ho : o.op = .call { callee := .builtin .append, args := #[s, x], argTypes := #[39, 39] })
    (L H : Nat) (v : Value) (n : Nat) (hs : a.eval s = v) (hv : LiO w L H u.heap.size v n) (hu : Out L H u w)
    (b c : Nat) (q : OV) (hx : a.eval x = .slice (some ⟨b, 0, none⟩) 1 c) (hM : OpAt w b 0 q) (h63 : n ≤ 2097152)
    (h : ∀ v' w', LiO w' L H u.heap.size v' (n + 1) → Out L H u w' → wpList Tryz.prog ops Q rest (a.put o.dst v') w') : wpList Tryz.prog ops Q (o :: rest) a w := by
  obtain ⟨i, z, hi, hz, hz1, hz2, hz3⟩ := infoOp
  have hnew : ∀ (j : Nat) (u : Value), (cellsO [q])[j]? = some u → w.cell? ((⟨b, 0, none⟩ : Addr).add j) = some u := fun j u hu => by
    rw [Addr.add_lit, Nat.zero_add]
    obtain ⟨h0, h1, h2, h3, h4, h5, h6⟩ := hM
    simp only [Nat.zero_add] at h0 h1 h2 h3 h4 h5 h6
    match j, hu with
    | 0, hj => simp [cellsO] at hj; rw [← hj]; exact h0
    | 1, hj => simp [cellsO] at hj; rw [← hj]; exact h1
    | 2, hj => simp [cellsO] at hj; rw [← hj]; exact h2
    | 3, hj => simp [cellsO] at hj; rw [← hj]; exact h3
    | 4, hj => simp [cellsO] at hj; rw [← hj]; exact h4
    | 5, hj => simp [cellsO] at hj; rw [← hj]; exact h5
    | 6, hj => simp [cellsO] at hj; rw [← hj]; exact h6
    | j + 7, hj => simp [cellsO] at hj
  have fin : ∀ (v' : Value) (w' : World) (xs : List Value), w'.ownsRow w.heap.size 69 7 v' (n + 1) xs → Out L H u w' → wpList Tryz.prog ops Q rest (a.put o.dst v') w' := fun v' w' xs hw ho' => by
    refine h _ _ ?_ ho'
    rcases hw.2 with ⟨_, h0⟩ | ⟨g, cap, cur, h1, h2, h3, h4, h5, h6, _⟩
    · omega
    · exact Or.inr ⟨g, cap, cur, h1, Or.inr (Nat.le_trans hu.size h2), h3, h4, h6⟩
  rcases hv with ⟨rfl, rfl⟩ | ⟨g, cap, cur, rfl, h2, h4, h5, h6⟩
  · exact wpList_append_grows w hgd s x _ ho 69 i z 7 88 Tryz.underlying39 hi hz hz1 hz2 hz3 (by decide) none 0 0 [] hs (fun _ => ⟨rfl, rfl⟩) rfl (fun b hb => (by cases hb)) ⟨b, 0, none⟩ 1 c (cellsO [q]) hx rfl hnew (cellsO_one _) (by decide) (by unfold maxLen; omega) (by omega) (fun v' w' r1 r2 => fin v' w' _ r1 (out_grownv hu r2))
  · refine wpList_append_arg w hgd s x _ ho 69 i z 7 88 Tryz.underlying39 hi hz hz1 hz2 hz3 (by decide) g 0 n cap (cur.toList.take (n * 7)) hs (by rw [List.length_take, Array.length_toList, h6]; omega) (fun j u hu => ?_) ⟨b, 0, none⟩ 1 c (cellsO [q]) hx rfl hnew (cellsO_one _) (fun hr j hj => ?_) (by unfold maxLen; omega) (by omega) (fun hr => ?_) (fun hr v' w' r1 r2 => fin v' w' _ r1 (out_grownv hu r2))
    · have hj := (List.getElem?_eq_some_iff.1 hu).1
      rw [List.getElem?_take] at hu
      split at hu
      · rw [Nat.zero_add]
        simp only [World.cell?, h4]
        simpa using hu
      · cases hu
    · have hj' : j < 7 := by simpa [cellsO] using hj
      rw [Nat.zero_add]
      exact ⟨by obtain ⟨u, hu⟩ := cell_atv h4 (n * 7 + j) (by omega); rw [hu]; rfl, frozen_of_row w g _ cur _ h4⟩
    · obtain ⟨cur', hc', hs'⟩ := (out_setCellsv (Nat.le_refl g) (Nat.lt_succ_self g) (cellsO [q]) (0 + n * 7) w (Out.refl g (g + 1) w)).shape g cur _ _ h4 (Nat.lt_succ_self g)
      refine h _ _ (Or.inr ⟨g, cap, cur', rfl, h2, hc', hr, by rw [hs', h6]⟩) ?_
      rcases h2 with ⟨h2, h3⟩ | h2
      · exact out_setCellsv h2 h3 _ _ _ hu
      · exact out_setCellsFar h2 _ _ _ hu

abbrev d98 : OV := (98, ⟨#[]⟩, z0, 0, (none, 0, 0))
end Go.Proofs.YtalfdjglbbmjcabGreatDoor

/- Where a piece of a text ends. -/
namespace Go.Proofs.YtalfdjglbbmjcabGreatDoor
open Go Go.RowKit Go.Lib
set_option linter.unusedVariables false

theorem heap_below {w w' : World} (h : Below w.heap.size w w') {k : Nat} {o : Obj} (hk : w.heap[k]? = some o) : w'.heap[k]? = some o :=
  (h.block k (Array.getElem?_eq_some_iff.1 hk).1).trans hk
set_option maxHeartbeats 2000000 in
set_option maxRecDepth 100000 in
theorem placeOf_any (s : ByteArray) (rs : List Nat) (n : Nat) (w : World) (hv : s.data.toList = encs rs) (hs : ∀ r ∈ rs, scal r) (hn : n ≤ rs.length) (hb : s.size ≤ 281474976710656) (hl : rs.length ≤ s.size) :
    Calls Tryz.prog 138 #[.string s, .int .i64 n] w fun e w' => e = .returned (.int .i64 (pos rs n)) ∧ Below w.heap.size w w' := by
  go_enter Tryz.func138, Tryz.ntmps138
  go_wp2
  go_loopw [1] (fun m w' => ∃ i : Nat, i ≤ n ∧ m = .int .i64 ((n : Int) - i) ∧ w' = w.iter s (pos rs i)) (fun _ w' => s.size - w'.iterPos w.heap.size)
  case atStart => exact ⟨0, Nat.zero_le _, by simp, rfl⟩
  case round =>
    obtain ⟨i, hi, rfl, rfl⟩ := hrel
    by_cases hlt : i < rs.length
    · obtain ⟨hd, hp⟩ := decode_pos s rs hv hs i hlt
      have hps := pos_succ rs i hlt
      have hpl := enc_pos (hs _ (List.getElem_mem hlt))
      obtain ⟨W, hW⟩ : ∃ W, (enc rs[i]).length = W := ⟨_, rfl⟩
      obtain ⟨R, hR⟩ : ∃ R, rs[i] = R := ⟨_, rfl⟩
      obtain ⟨p, hpp⟩ : ∃ p, pos rs i = p := ⟨_, rfl⟩
      obtain ⟨q, hq⟩ : ∃ q, pos rs (i + 1) = q := ⟨_, rfl⟩
      rw [hW, hR, hpp] at hd
      rw [hW] at hpl
      rw [hpp, hW, hq] at hps
      rw [hpp] at hp ⊢
      have hnx : ∀ ty, (Instr.next (.pointer (some ⟨w.heap.size, 0, none⟩)) true ty).run Tryz.prog (w.iter s p) = .ok (.tuple #[.bool true, .int .i64 p, .int .i32 R]) (w.iter s q) := fun ty => by
        have := run_next_any (P := Tryz.prog) w s p ty hp
        rw [hd] at this
        rw [this, hps]
      have HP : Hid (pos rs i = p) := hpp
      have HQ : Hid (pos rs (i + 1) = q) := hq
      have hpq : p < q := by omega
      clear hd hps hpp hq hR hW hv hs
      by_cases hz : i = n
      · have hz' : ((n : Int) - i) = 0 := by omega
        go_wp2
        go_ret
        rw [← HP.out, hz]
        exact ⟨rfl, (Below.refl _ _).alloc (Nat.le_refl _) _⟩
      · have hz' : ¬ ((n : Int) - i) = 0 := by omega
        go_wp2
        go_roundw
        case rel => exact ⟨i + 1, by omega, by go_num, by rw [HQ.out]⟩
        case measure => simp; omega
    · have he : i = n := by omega
      have hpe : pos rs i = s.size := by
        have h1 : i = rs.length := by omega
        rw [h1, pos_all, ← hv, size_toList]
      have hnx : ∀ ty, (Instr.next (.pointer (some ⟨w.heap.size, 0, none⟩)) true ty).run Tryz.prog (w.iter s (pos rs i)) = _ := fun ty => run_next_end w s _ ty (by omega)
      have hP : Hid (pos rs n = s.size) := by show _ = _; rw [← he]; exact hpe
      clear hpe hv hs he
      go_wp2
      go_ret
      rw [hP.out]
      exact ⟨rfl, (Below.refl _ _).alloc (Nat.le_refl _) _⟩

end Go.Proofs.YtalfdjglbbmjcabGreatDoor

/- vellumlaw09.own; vellumhand.OverCells: cells written over, their lists too, and grown. -/
namespace Go.Proofs.YtalfdjglbbmjcabGreatDoor
open Go Go.RowKit Go.Lib
set_option linter.unusedVariables false

/-- Cells whose lists were handed out with spare room. -/
def HandC (w : World) (lo hi : Nat) (D : List CV) (E : List C5) : Prop := All2 (fun (d : CV) (e : C5) => d.1 = e.1 ∧ d.2.1 = e.2.1 ∧ d.2.2.1 = e.2.2.1 ∧ HandO w lo hi (slV d.2.2.2) e.2.2.2) D E
theorem HandC.upto {w w' : World} {lo hi hi' : Nat} {D : List CV} {E : List C5} (h : HandC w lo hi D E) (b : Below hi w w') (hh : hi ≤ hi') : HandC w' lo hi' D E := All2.imp (fun d e h => ⟨h.1, h.2.1, h.2.2.1, h.2.2.2.upto b hh⟩) h
theorem HandC.keep {w w' : World} {lo hi hi' : Nat} {D : List CV} {E : List C5} (h : HandC w lo hi D E) (b : KeepA w w') (hh : hi ≤ hi') : HandC w' lo hi' D E := All2.imp (fun d e h => ⟨h.1, h.2.1, h.2.2.1, h.2.2.2.keep b hh⟩) h
theorem HandC.below {w w' : World} {lo hi hi' : Nat} {D : List CV} {E : List C5} (h : HandC w lo hi D E) (b : Below w.heap.size w w') (hh : hi ≤ hi') : HandC w' lo hi' D E := h.keep (keepA_below b) hh
theorem HandC.are {w : World} {lo hi : Nat} {D : List CV} {E : List C5} (h : HandC w lo hi D E) : Are w D E := All2.imp (fun d e h => ⟨h.1, h.2.1, h.2.2.1, h.2.2.2.RN⟩) h
theorem handC_snoc {w : World} {lo hi : Nat} {D : List CV} {E : List C5} {d : CV} {e : C5} (h : HandC w lo hi D E) (h1 : d.1 = e.1 ∧ d.2.1 = e.2.1 ∧ d.2.2.1 = e.2.2.1 ∧ HandO w lo hi (slV d.2.2.2) e.2.2.2) : HandC w lo hi (D ++ [d]) (E ++ [e]) := forall2_append h (.cons h1 .nil)
theorem rowC_blk' {w : World} {b : Nat} {D : List CV} (h : w.heap[b]? = some (.cells (cellsC D).toArray 30 (0, 0))) : RowC w (.slice (some ⟨b, 0, none⟩) D.length D.length) D := by
  refine ⟨some ⟨b, 0, none⟩, D.length, rfl, Nat.le_refl _, fun h => (by cases h), fun _ => ⟨b, 0, rfl, fun j u hu => ?_⟩⟩
  rw [Nat.zero_add, cell_of_heap h, List.getElem?_toArray]
  exact hu
theorem rowC_one {w : World} {b : Nat} {d : CV} (h : w.heap[b]? = some (.cells (ceC d) 30 (0, 0))) : RowC w (.slice (some ⟨b, 0, none⟩) 1 1) [d] := rowC_blk' (D := [d]) h
set_option maxHeartbeats 4000000 in
set_option maxRecDepth 100000 in
theorem own9_any (v : Value) (D0 : List CV) (E : List C5) (w : World) (hrow : RowC w v D0) (hre : Are w D0 E) (hl : E.length ≤ 1048576) (hA : ∀ e ∈ E, e.2.2.2.length ≤ 1048576) :
    Calls Tryz.prog 9 #[v] w fun r w' => ∃ v', r = .returned v' ∧ (∃ D, OwnC w' w.heap.size v' D ∧ HandC w' w.heap.size w'.heap.size D E) ∧ Below w.heap.size w w' := by
  have hDE := forall2_len hre
  obtain ⟨n, hn⟩ : ∃ n, D0.length = n := ⟨_, rfl⟩
  obtain ⟨p, cap, rfl, hcap, hnz, hc⟩ := hrow
  have HC : Hid (D0 ≠ [] → ∃ b off, p = some ⟨b, off, none⟩ ∧ InC w b off D0) := hc
  have HN : Hid (D0.length = n ∧ E.length = n) := ⟨hn, by rw [← hDE, hn]⟩
  have HE : Hid (Are w D0 E ∧ ∀ e ∈ E, e.2.2.2.length ≤ 1048576) := ⟨hre, hA⟩
  have hl : n ≤ 1048576 := by rw [← hn, hDE]; exact hl
  rw [hn] at hcap ⊢
  clear hc hn hDE hre hA hnz
  have HS : Hid (∀ W, Below w.heap.size w W → ∀ (s : Sl) (A : List A2), RN w (slV s) A → A.length ≤ 1048576 → Calls Tryz.prog 34 #[slV s] W fun r w' => ∃ s' : Sl, r = .returned (slV s') ∧ HandO w' W.heap.size w'.heap.size (slV s') A ∧ Below W.heap.size W w') := fun W hW s A h1 h2 => (hattrs_own _ A W (h1.below hW).row h2).mono fun r w' ⟨v', h3, h4, h5⟩ => by
    obtain ⟨p, l, c, rfl⟩ := h4.val
    exact ⟨(p, l, c), h3, h4, h5⟩
  have o0 := own_emptyC w w.heap.size (Nat.le_refl _)
  have b0 := (Below.refl w.heap.size w).alloc (Nat.le_refl _) (.cells #[] 30)
  obtain ⟨W0, hW0⟩ : ∃ W, W = w.alloc (.cells #[] 30) := ⟨_, rfl⟩
  obtain ⟨v0, hv0⟩ : ∃ v0 : Value, v0 = .slice (some ⟨w.heap.size, 0, none⟩) 0 0 := ⟨_, rfl⟩
  rw [← hW0, ← hv0] at o0
  rw [← hW0] at b0
  go_enter Tryz.func9, Tryz.ntmps9
  go_wp2
  rw [← hW0, ← hv0]
  clear hW0 hv0
  go_loopw [3, 9] (fun o i wr => ∃ (k : Nat) (D : List CV), k ≤ n ∧ i = .int .i64 k ∧ D.length = k ∧ OwnC wr w.heap.size o D ∧ HandC wr w.heap.size wr.heap.size D (E.take k) ∧ Below w.heap.size w wr) (fun _ i _ => n - (RowKit.intOf i).toNat)
  case atStart => exact ⟨0, [], Nat.zero_le _, rfl, rfl, o0, by rw [List.take_zero]; exact .nil, b0⟩
  case round =>
    clear o0 b0
    obtain ⟨k, D, hk, rfl, hDl, hown, hsp, hbw⟩ := hrel
    by_cases hlt : k < n
    · have hltI : (k : Int) < n := by omega
      obtain ⟨d, hd⟩ : ∃ d, D0[k]? = some d := ⟨_, List.getElem?_eq_getElem (by rw [HN.out.1]; exact hlt)⟩
      obtain ⟨e, he, hr⟩ := forall2_get HE.out.1 k d hd
      obtain ⟨b, off, rfl, hin⟩ := HC.out (by intro e; rw [e] at hd; simp at hd)
      obtain ⟨x0, x1, x2, x3, x4, x5⟩ := cellsC_get D0 k d hd
      have c0 := (hin.below hbw) _ _ x0
      have c1 := (hin.below hbw) _ _ x1
      have c2 := (hin.below hbw) _ _ x2
      have c3 := (hin.below hbw) _ _ x3
      have c4 := (hin.below hbw) _ _ x4
      have c5 := (hin.below hbw) _ _ x5
      simp only [← Nat.add_assoc] at c0 c1 c2 c3 c4 c5
      have cS := HS.out _ (hbw.alloc hbw.size (.cells (ceC d) 30)) d.2.2.2 e.2.2.2 hr.2.2.2 (HE.out.2 e (List.mem_of_getElem? he))
      have HT : Hid (E.take (k + 1) = E.take k ++ [e]) := by show _ = _; rw [List.take_add_one, he]; rfl
      have HR : Hid (d.1 = e.1 ∧ d.2.1 = e.2.1 ∧ d.2.2.1 = e.2.2.1) := ⟨hr.1, hr.2.1, hr.2.2.1⟩
      have HO : Hid (OwnC wr w.heap.size u3 D ∧ HandC wr w.heap.size wr.heap.size D (E.take k)) := ⟨hown, hsp⟩
      clear hd he hr hin hown hsp x0 x1 x2 x3 x4 x5
      obtain ⟨dk, dt, ⟨dx, dn, du⟩, ds⟩ := d
      obtain ⟨dp, dl, dcap⟩ := ds
      simp only [slV, ceC] at c0 c1 c2 c3 c4 c5 cS
      go_wp2_with fail
      refine cS.mono ?_; rintro r w5 ⟨⟨sp, sl, sc⟩, rfl, sp5, hb5⟩
      have hblk := heap_below hb5 (heap_alloc_new wr (.cells #[.int .i32 dk, .string dt, .int .i64 dx, .int .i64 dn, .string du, .slice dp dl dcap] 30))
      have q0 : w5.cell? ⟨wr.heap.size, 0, none⟩ = some (.int .i32 dk) := by rw [cell_of_heap hblk]; rfl
      have q1 : w5.cell? ⟨wr.heap.size, 1, none⟩ = some (.string dt) := by rw [cell_of_heap hblk]; rfl
      have q2 : w5.cell? ⟨wr.heap.size, 2, none⟩ = some (.int .i64 dx) := by rw [cell_of_heap hblk]; rfl
      have q3 : w5.cell? ⟨wr.heap.size, 3, none⟩ = some (.int .i64 dn) := by rw [cell_of_heap hblk]; rfl
      have q4 : w5.cell? ⟨wr.heap.size, 4, none⟩ = some (.string du) := by rw [cell_of_heap hblk]; rfl
      have q5 : w5.cell? ⟨wr.heap.size, 5, none⟩ = some (.slice dp dl dcap) := by rw [cell_of_heap hblk]; rfl
      have f5 : w5.frozen? ⟨wr.heap.size, 5, none⟩ = false := frozen_of_row w5 _ 5 _ _ hblk
      have b5 : Below wr.heap.size wr w5 := ((Below.refl wr.heap.size wr).alloc (Nat.le_refl _) _).trans (hb5.mono (by rw [World.size_alloc]; omega))
      have hs5 : wr.heap.size + 1 ≤ w5.heap.size := by have := hb5.size; rw [World.size_alloc] at this; exact this
      rw [World.size_alloc] at sp5
      clear cS hb5 c0 c1 c2 c3 c4 c5
      go_upto_region 6 with fail
      obtain ⟨W6, hW6⟩ : ∃ W, W = w5.setCell ⟨wr.heap.size, 5, none⟩ (.slice sp sl sc) := ⟨_, rfl⟩
      have hb6 : W6.heap[wr.heap.size]? = some (.cells #[.int .i32 dk, .string dt, .int .i64 dx, .int .i64 dn, .string du, .slice sp sl sc] 30 (0, 0)) := by
        rw [hW6]
        exact heap_set_at _ _ 5 _ _ _ _ hblk
      have r0 : W6.cell? ⟨wr.heap.size, 0, none⟩ = some (.int .i32 dk) := by rw [cell_of_heap hb6]; rfl
      have r1 : W6.cell? ⟨wr.heap.size, 1, none⟩ = some (.string dt) := by rw [cell_of_heap hb6]; rfl
      have r2 : W6.cell? ⟨wr.heap.size, 2, none⟩ = some (.int .i64 dx) := by rw [cell_of_heap hb6]; rfl
      have r3 : W6.cell? ⟨wr.heap.size, 3, none⟩ = some (.int .i64 dn) := by rw [cell_of_heap hb6]; rfl
      have r4 : W6.cell? ⟨wr.heap.size, 4, none⟩ = some (.string du) := by rw [cell_of_heap hb6]; rfl
      have r5 : W6.cell? ⟨wr.heap.size, 5, none⟩ = some (.slice sp sl sc) := by rw [cell_of_heap hb6]; rfl
      have b6 : Below wr.heap.size wr W6 := by rw [hW6]; exact b5.setCell (Nat.le_refl _) _
      have sp6 : HandO W6 w.heap.size W6.heap.size (.slice sp sl sc) e.2.2.2 := by
        have h1 := (sp5.setBelow (g := wr.heap.size) (by omega) 5 (.slice sp sl sc)).lower (lo' := w.heap.size) (by have := hbw.size; omega)
        rw [← hW6] at h1
        exact h1.upto (Below.refl _ _) (by rw [hW6]; simp)
      rw [← hW6]
      clear hW6 q0 q1 q2 q3 q4 q5 f5 b5 sp5 hblk hb6
      have ba : Below W6.heap.size W6 (W6.alloc (.cells #[.int .i32 dk, .string dt, .int .i64 dx, .int .i64 dn, .string du, .slice sp sl sc] 30)) := (Below.refl _ _).alloc (Nat.le_refl _) _
      have b7 := b6.trans (ba.mono b6.size)
      have HO7 : Hid (OwnC (W6.alloc (.cells #[.int .i32 dk, .string dt, .int .i64 dx, .int .i64 dn, .string du, .slice sp sl sc] 30)) w.heap.size u3 D ∧ RowC (W6.alloc (.cells #[.int .i32 dk, .string dt, .int .i64 dx, .int .i64 dn, .string du, .slice sp sl sc] 30)) (.slice (some ⟨W6.heap.size, 0, none⟩) 1 1) [(dk, dt, (dx, dn, du), sp, sl, sc)]) := ⟨owns_below HO.out.1 b7, rowC_one (d := (dk, dt, (dx, dn, du), sp, sl, sc)) (heap_alloc_new W6 _)⟩
      have HP7 : Hid (HandC (W6.alloc (.cells #[.int .i32 dk, .string dt, .int .i64 dx, .int .i64 dn, .string du, .slice sp sl sc] 30)) w.heap.size (W6.alloc (.cells #[.int .i32 dk, .string dt, .int .i64 dx, .int .i64 dn, .string du, .slice sp sl sc] 30)).heap.size (D ++ [(dk, dt, (dx, dn, du), sp, sl, sc)]) (E.take (k + 1))) := by
        show HandC _ _ _ _ _
        rw [HT.out]
        refine handC_snoc (HO.out.2.upto b7 b7.size) ⟨HR.out.1, HR.out.2.1, HR.out.2.2, sp6.keep (keepA_below ba) ba.size⟩
      have hge : Hid (∀ j, u3.ownBlock = some j → w.heap.size ≤ j) := fun j hj => (owns_block HO.out.1 j hj).1
      have bw7 := hbw.trans (b7.mono hbw.size)
      have hlen : D.length + [(dk, dt, ((dx, dn, du) : P3), ((sp, sl, sc) : Sl))].length ≤ 33554432 := by simp; omega
      clear sp6 ba b7 b6 HO HT HR
      go_wp2_with (at_builtin; refine wpList_append_cells rfl (.tmp 17) (.tmp 19) rfl w.heap.size u3 D rfl HO7.out.1 _ _ rfl HO7.out.2 hlen bw7.size ?_; intro v8 w8 own8 gr8)
      have hsp8 := HP7.out.keep (keepA_grown HO7.out.1 gr8) gr8.size
      have b8 := bw7.grown gr8 bw7.size (fun j hj => hge.out j hj)
      go_roundw
      case rel => exact ⟨k + 1, _, by omega, by go_num, by simp [hDl], own8, hsp8, b8⟩
      case measure => simp [RowKit.intOf]; omega
    · have hltI : ¬ (k : Int) < n := by omega
      have hE : E.take k = E := List.take_of_length_le (by rw [HN.out.2]; omega)
      rw [hE] at hsp
      have HO : Hid (OwnC wr w.heap.size u3 D ∧ HandC wr w.heap.size wr.heap.size D E) := ⟨hown, hsp⟩
      clear hown hsp hE
      go_wp2
      go_ret
      exact ⟨_, rfl, ⟨D, HO.out.1, HO.out.2⟩, hbw⟩
end Go.Proofs.YtalfdjglbbmjcabGreatDoor

/- vellumhand.OverCells: cells written over, their lists too, and grown. -/
namespace Go.Proofs.YtalfdjglbbmjcabGreatDoor
open Go Go.RowKit Go.Lib
set_option linter.unusedVariables false

/-- A row of cells that may be written, in blocks between two marks or in new ones: its shape alone. -/
def LiC (w : World) (L H B : Nat) (v : Value) (n : Nat) : Prop :=
  (v = .slice none 0 0 ∧ n = 0) ∨ ∃ (g cap : Nat) (cur : Array Value), v = .slice (some ⟨g, 0, none⟩) n cap ∧ ((L ≤ g ∧ g < H) ∨ B ≤ g) ∧ w.heap[g]? = some (.cells cur 30 (0, 0)) ∧ n ≤ cap ∧ cur.size = cap * 6
theorem LiC.val {w : World} {L H B n : Nat} {v : Value} (h : LiC w L H B v n) : ∃ p c, v = .slice p n c := by
  rcases h with ⟨h, h0⟩ | ⟨g, cap, cur, h, _⟩
  · exact ⟨none, 0, by rw [h, h0]⟩
  · exact ⟨_, _, h⟩
theorem LiC.below {w w' : World} {L H B n : Nat} {v : Value} (h : LiC w L H B v n) (b : Below w.heap.size w w') : LiC w' L H B v n := by
  rcases h with h | ⟨g, cap, cur, h1, h2, h3, h4⟩
  · exact Or.inl h
  · exact Or.inr ⟨g, cap, cur, h1, h2, (b.block g (Array.getElem?_eq_some_iff.1 h3).1).trans h3, h4⟩
/-- append(such a row, one cell). -/
theorem wpList_append_rec {w u : World} {ops : Array Oper} {rest : List Oper} {o : Oper} {a : Act} {Q : Exit → Act → World → Prop} (hgd : o.guard = none) (s x : Operand)
    (ho : o.op = .call { callee := .builtin .append, args := #[s, x], argTypes := #[22, 22] })
    (L H : Nat) (v : Value) (n : Nat) (hs : a.eval s = v) (hv : LiC w L H u.heap.size v n) (hu : Out L H u w)
    (b c : Nat) (q : CV) (hx : a.eval x = .slice (some ⟨b, 0, none⟩) 1 c) (hM : InC w b 0 [q]) (h63 : n ≤ 2097152)
    (h : ∀ v' w', LiC w' L H u.heap.size v' (n + 1) → Out L H u w' → wpList Tryz.prog ops Q rest (a.put o.dst v') w') : wpList Tryz.prog ops Q (o :: rest) a w := by
  obtain ⟨i, z, hi, hz, hz1, hz2, hz3⟩ := infoCe
  have hnew : ∀ (j : Nat) (u : Value), (cellsC [q])[j]? = some u → w.cell? ((⟨b, 0, none⟩ : Addr).add j) = some u := fun j u hu => by
    rw [Addr.add_lit, Nat.zero_add]
    have := hM j u hu
    rwa [Nat.zero_add] at this
  have fin : ∀ (v' : Value) (w' : World) (xs : List Value), w'.ownsRow w.heap.size 30 6 v' (n + 1) xs → Out L H u w' → wpList Tryz.prog ops Q rest (a.put o.dst v') w' := fun v' w' xs hw ho' => by
    refine h _ _ ?_ ho'
    rcases hw.2 with ⟨_, h0⟩ | ⟨g, cap, cur, h1, h2, h3, h4, h5, h6, _⟩
    · omega
    · exact Or.inr ⟨g, cap, cur, h1, Or.inr (Nat.le_trans hu.size h2), h3, h4, h6⟩
  rcases hv with ⟨rfl, rfl⟩ | ⟨g, cap, cur, rfl, h2, h4, h5, h6⟩
  · exact wpList_append_grows w hgd s x _ ho 30 i z 6 80 Tryz.underlying22 hi hz hz1 hz2 hz3 (by decide) none 0 0 [] hs (fun _ => ⟨rfl, rfl⟩) rfl (fun b hb => (by cases hb)) ⟨b, 0, none⟩ 1 c (cellsC [q]) hx rfl hnew (cellsC_one _) (by decide) (by unfold maxLen; omega) (by omega) (fun v' w' r1 r2 => fin v' w' _ r1 (out_grownv hu r2))
  · refine wpList_append_arg w hgd s x _ ho 30 i z 6 80 Tryz.underlying22 hi hz hz1 hz2 hz3 (by decide) g 0 n cap (cur.toList.take (n * 6)) hs (by rw [List.length_take, Array.length_toList, h6]; omega) (fun j u hu => ?_) ⟨b, 0, none⟩ 1 c (cellsC [q]) hx rfl hnew (cellsC_one _) (fun hr j hj => ?_) (by unfold maxLen; omega) (by omega) (fun hr => ?_) (fun hr v' w' r1 r2 => fin v' w' _ r1 (out_grownv hu r2))
    · have hj := (List.getElem?_eq_some_iff.1 hu).1
      rw [List.getElem?_take] at hu
      split at hu
      · rw [Nat.zero_add]
        simp only [World.cell?, h4]
        simpa using hu
      · cases hu
    · have hj' : j < 6 := by simpa [cellsC] using hj
      rw [Nat.zero_add]
      exact ⟨by obtain ⟨u, hu⟩ := cell_atv h4 (n * 6 + j) (by omega); rw [hu]; rfl, frozen_of_row w g _ cur _ h4⟩
    · obtain ⟨cur', hc', hs'⟩ := (out_setCellsv (Nat.le_refl g) (Nat.lt_succ_self g) (cellsC [q]) (0 + n * 6) w (Out.refl g (g + 1) w)).shape g cur _ _ h4 (Nat.lt_succ_self g)
      refine h _ _ (Or.inr ⟨g, cap, cur', rfl, h2, hc', hr, by rw [hs', h6]⟩) ?_
      rcases h2 with ⟨h2, h3⟩ | h2
      · exact out_setCellsv h2 h3 _ _ _ hu
      · exact out_setCellsFar h2 _ _ _ hu

theorem out_set6 {lo hi : Nat} {w W : World} (h : Out lo hi w W) {g : Nat} (h1 : lo ≤ g) (h2 : g < hi) (o : Nat) (u0 u1 u2 u3 u4 u5 : Value) :
    Out lo hi w ((((((W.setCell ⟨g, o, none⟩ u0).setCell ⟨g, o + 1, none⟩ u1).setCell ⟨g, o + 2, none⟩ u2).setCell ⟨g, o + 3, none⟩ u3).setCell ⟨g, o + 4, none⟩ u4).setCell ⟨g, o + 5, none⟩ u5) :=
  (((((h.setCell g _ _ h1 h2).setCell g _ _ h1 h2).setCell g _ _ h1 h2).setCell g _ _ h1 h2).setCell g _ _ h1 h2).setCell g _ _ h1 h2
theorem cell_far6 {W : World} {g o i : Nat} {v : Value} (h : W.cell? ⟨g, i, none⟩ = some v) (hi : o + 5 < i) (u0 u1 u2 u3 u4 u5 : Value) :
    ((((((W.setCell ⟨g, o, none⟩ u0).setCell ⟨g, o + 1, none⟩ u1).setCell ⟨g, o + 2, none⟩ u2).setCell ⟨g, o + 3, none⟩ u3).setCell ⟨g, o + 4, none⟩ u4).setCell ⟨g, o + 5, none⟩ u5).cell? ⟨g, i, none⟩ = some v := by
  have e : ∀ (W : World) (j : Nat) (u : Value), j < i → (W.setCell ⟨g, j, none⟩ u).cell? ⟨g, i, none⟩ = W.cell? ⟨g, i, none⟩ := fun W j u hj => World.cell?_setCell_other _ _ _ _ (fun h => by cases h; omega)
  rw [e _ _ _ (by omega), e _ _ _ (by omega), e _ _ _ (by omega), e _ _ _ (by omega), e _ _ _ (by omega), e _ _ _ (by omega)]
  exact h
/-- A list that may be written, known by its shape. -/
def AtS (w : World) (lo hi : Nat) (s : Value) (n : Nat) : Prop := (s = .slice none 0 0 ∧ n = 0) ∨ ∃ (g c : Nat) (cur : Array Value), s = .slice (some ⟨g, 0, none⟩) n c ∧ lo ≤ g ∧ g < hi ∧ w.heap[g]? = some (.cells cur 66 (0, 0)) ∧ n ≤ c ∧ cur.size = c * 4
theorem AtS.hand {w : World} {lo hi : Nat} {s : Sl} {A : List A2} (h : HandO w lo hi (slV s) A) : AtS w lo hi (slV s) s.2.1 := by
  rcases h with ⟨rfl, h⟩ | ⟨g, c, hne, hv, hg, ho⟩
  · simp only [slV, Value.slice.injEq] at h
    obtain ⟨h1, h2, h3⟩ := h
    exact Or.inl ⟨by unfold slV; rw [h1, h2, h3], h2⟩
  · simp only [slV, Value.slice.injEq] at hv
    obtain ⟨h1, h2, h3⟩ := hv
    rcases ho.2 with ⟨h4, _⟩ | ⟨g', c', cur, e1, e2, e3, e4, e5, e6, _⟩
    · cases h4
    · simp only [Value.slice.injEq, Option.some.injEq, Addr.mk.injEq, and_true] at e1
      obtain ⟨rfl, e7, rfl⟩ := e1
      refine Or.inr ⟨g, c, cur, by unfold slV; rw [h1, h2, h3], e2, hg, e3, ?_, e6⟩
      rw [h2]
      have : (A ++ [s1, s2]).length = A.length + 2 := by simp
      omega
theorem AtS.ina {w : World} {lo hi : Nat} {s : Sl} {A : List A2} (h : InA w lo hi (slV s) A) : AtS w lo hi (slV s) s.2.1 := by
  rcases h.own.2 with ⟨h1, h2⟩ | ⟨g, c, cur, h1, e2, e3, e4, e5, e6, _⟩
  · simp only [slV, Value.slice.injEq] at h1
    obtain ⟨k1, k2, k3⟩ := h1
    exact Or.inl ⟨by unfold slV; rw [k1, k2, k3], k2⟩
  · have ht := h.top g (by rw [h1]; rfl)
    simp only [slV, Value.slice.injEq] at h1
    obtain ⟨k1, k2, k3⟩ := h1
    exact Or.inr ⟨g, c, cur, by unfold slV; rw [k1, k2, k3], e2, ht, e3, by rw [k2]; exact e4, e6⟩
/-- Cells that may be written over. -/
def CeH (w : World) (lo hi : Nat) (v : Value) (D : List CV) : Prop := OwnC w lo v D ∧ (∀ k, v.ownBlock = some k → k < hi) ∧ ∀ d ∈ D, AtS w lo hi (slV d.2.2.2) d.2.2.2.2.1 ∧ d.2.2.2.2.1 ≤ 1048576
set_option maxHeartbeats 4000000 in
set_option maxRecDepth 100000 in
theorem over9_any (v : Value) (D : List CV) (lo hi : Nat) (w : World) (h : CeH w lo hi v D) (hl : D.length ≤ 1048576) :
    Calls Tryz.prog 17 #[v] w fun r w' => r = .returned (.tuple #[]) ∧ Out lo hi w w' := by
  obtain ⟨hown, htop, hsp⟩ := h
  obtain ⟨n, hDn⟩ : ∃ n, D.length = n := ⟨_, rfl⟩
  obtain ⟨p, cap, rfl⟩ : ∃ p c, v = .slice p D.length c := by obtain ⟨p, c, h, _⟩ := own_rowC hown; exact ⟨p, c, h⟩
  rw [hDn] at hl
  have hB : 0 < n → ∃ g cur, p = some ⟨g, 0, none⟩ ∧ lo ≤ g ∧ g < hi ∧ w.heap[g]? = some (.cells cur 30 (0, 0)) ∧ n ≤ cap ∧ cur.size = cap * 6 ∧ ∀ j d, D[j]? = some d → w.cell? ⟨g, j * 6 + 5, none⟩ = some (slV d.2.2.2) := fun h0 => by
    have hcc := hown
    rcases hown.2 with ⟨h1, h2⟩ | ⟨g', cap', cur, h1, h2, h3, h4, h5, h6, h7⟩
    · omega
    · simp only [Value.slice.injEq] at h1
      obtain ⟨rfl, -, rfl⟩ := h1
      refine ⟨g', cur, rfl, h2, htop g' rfl, h3, by omega, h6, fun j d hd => ?_⟩
      have := hcc.cells (g := g') rfl (j * 6 + 5) _ (cellsC_get D j d hd).2.2.2.2.2
      rwa [Addr.add_lit, Nat.zero_add] at this
  have HB : Hid _ := hB
  have HL : Hid (D.length = n) := hDn
  have HLI : Hid (∀ wr, Out lo hi w wr → LiC wr lo hi w.heap.size (.slice p n cap) n) := fun wr ho => by
    rcases hown.2 with ⟨h1, h2⟩ | ⟨g', cap', cur, h1, h2, h3, h4, h5, h6, h7⟩
    · simp only [Value.slice.injEq] at h1
      obtain ⟨rfl, _, rfl⟩ := h1
      obtain rfl : n = 0 := by omega
      exact Or.inl ⟨rfl, rfl⟩
    · simp only [Value.slice.injEq] at h1
      obtain ⟨rfl, -, rfl⟩ := h1
      obtain ⟨cur', k1, k2⟩ := ho.shape g' cur _ _ h3 (htop g' rfl)
      exact Or.inr ⟨g', cap, cur', rfl, Or.inl ⟨h2, htop g' rfl⟩, k1, by omega, by omega⟩
  have HC : Hid (∀ (k : Nat) (d : CV) (wr : World) (g : Nat) (cur0 : Array Value), D[k]? = some d → Out lo hi w wr → w.heap[g]? = some (.cells cur0 30 (0, 0)) → Calls Tryz.prog 32 #[slV d.2.2.2] wr fun r w' => r = .returned (.tuple #[]) ∧ Out lo hi wr w' ∧ w'.heap[g]? = wr.heap[g]?) := fun k d wr g cur0 hd ho hg0 => by
    obtain ⟨h5, hal⟩ := hsp d (List.mem_of_getElem? hd)
    have hgw : g < wr.heap.size := Nat.lt_of_lt_of_le (Array.getElem?_eq_some_iff.1 hg0).1 ho.size
    rcases h5 with ⟨hv, hn0⟩ | ⟨ga, c, cur, hv, h8, hga, h9, h10, h12⟩
    · rw [hv]
      refine (overAttrs_any (.slice none 0 0) 0 0 0 wr (Or.inl ⟨rfl, rfl⟩) (by omega)).mono fun r w' q => ⟨q.1, ?_, q.2.block g hgw (Or.inr (Nat.zero_le _))⟩
      exact ⟨q.2.os, q.2.tape, q.2.output, q.2.size, fun k hk _ => q.2.block k hk (Or.inr (Nat.zero_le _)), fun k cur e fz hc _ => ⟨cur, (q.2.block k (Array.getElem?_eq_some_iff.1 hc).1 (Or.inr (Nat.zero_le _))).trans hc, rfl⟩⟩
    · obtain ⟨cur', hb, hs⟩ := ho.shape ga cur _ _ h9 hga
      have hgg : ga ≠ g := fun e => by
        subst e
        rw [hg0] at h9
        simp only [Option.some.injEq, Obj.cells.injEq] at h9
        exact absurd h9.2.1 (by decide)
      have hli : LiR wr ga (ga + 1) wr.heap.size (slV d.2.2.2) d.2.2.2.2.1 := Or.inr ⟨ga, c, cur', hv, Or.inl ⟨Nat.le_refl _, Nat.lt_succ_self _⟩, hb, h10, by rw [hs, h12]⟩
      exact (overAttrs_any _ _ ga (ga + 1) wr hli hal).mono fun r w' q => ⟨q.1, q.2.widen h8 hga, q.2.block g hgw (by omega)⟩
  rw [hDn]
  clear hown hsp hB hDn htop
  go_enter Tryz.func17, Tryz.ntmps17
  go_wp2
  go_loopw [2, 7] (fun _ i wr => ∃ (k : Nat), k ≤ n ∧ i = .int .i64 k ∧ Out lo hi w wr ∧ Hid (∀ g, p = some ⟨g, 0, none⟩ → ∀ j d, k ≤ j → D[j]? = some d → wr.cell? ⟨g, j * 6 + 5, none⟩ = some (slV d.2.2.2))) (fun _ i _ => n - (RowKit.intOf i).toNat)
  case atStart =>
    refine ⟨0, Nat.zero_le _, rfl, Out.refl _ _ _, fun g hg j d _ hd => ?_⟩
    have hj := (List.getElem?_eq_some_iff.1 hd).1
    obtain ⟨g', cur, e, _, _, _, _, _, h⟩ := HB.out (by have := HL.out; omega)
    rw [hg] at e
    simp only [Option.some.injEq, Addr.mk.injEq, and_true] at e
    subst e
    exact h j d hd
  case round =>
    obtain ⟨k, hk, rfl, ho, H⟩ := hrel
    by_cases hlt : k < n
    · have hltI : (k : Int) < n := by omega
      have hk0 : (0 : Int) ≤ (k : Int) := by omega
      obtain ⟨g, cur0, rfl, hlo, hhi, hb0, hcn, hcs, hat0⟩ := HB.out (by omega)
      obtain ⟨d, hd⟩ : ∃ d, D[k]? = some d := ⟨_, List.getElem?_eq_getElem (by rw [HL.out]; exact hlt)⟩
      have c5 := H.out g rfl k d (Nat.le_refl _) hd
      have cC := HC.out k d wr g cur0 hd ho hb0
      have HOO : Hid (Out lo hi w wr) := ho
      have HG : Hid (lo ≤ g ∧ g < hi ∧ w.heap[g]? = some (.cells cur0 30 (0, 0)) ∧ n ≤ cap ∧ cur0.size = cap * 6) := ⟨hlo, hhi, hb0, hcn, hcs⟩
      clear hd ho hlo hhi hb0 hcs hat0
      obtain ⟨dk, dt, ⟨dx, dn, du⟩, ds⟩ := d
      obtain ⟨dp, dl, dcap⟩ := ds
      simp only [slV] at c5 cC
      go_wp2_with fail
      refine cC.mono ?_; rintro r w1 ⟨rfl, ho1, hg1⟩
      have fr : ∀ i, i < n * 6 → (∃ u, w1.cell? ⟨g, i, none⟩ = some u) ∧ w1.frozen? ⟨g, i, none⟩ = false := fun i hi' => by
        obtain ⟨h0, h1, h2, h3, h4⟩ := HG.out
        obtain ⟨cur', h4, h5⟩ := (HOO.out.trans ho1).shape g cur0 _ _ h2 h1
        exact ⟨cell_at h4 i (by omega), frozen_of_row w1 g i cur' _ h4⟩
      obtain ⟨⟨u0, e0⟩, f0⟩ := fr (k * 6) (by omega)
      obtain ⟨⟨u1, e1⟩, f1⟩ := fr (k * 6 + 1) (by omega)
      obtain ⟨⟨u2', e2⟩, f2⟩ := fr (k * 6 + 2) (by omega)
      obtain ⟨⟨u3', e3⟩, f3⟩ := fr (k * 6 + 3) (by omega)
      obtain ⟨⟨u4', e4⟩, f4⟩ := fr (k * 6 + 4) (by omega)
      obtain ⟨⟨u5', e5⟩, f5⟩ := fr (k * 6 + 5) (by omega)
      have HO1 : Hid (Out lo hi w w1 ∧ ∀ j d, k ≤ j → D[j]? = some d → w1.cell? ⟨g, j * 6 + 5, none⟩ = some (slV d.2.2.2)) := ⟨HOO.out.trans ho1, fun j d hj hd => (World.cell?_of_block (a := ⟨g, j * 6 + 5, none⟩) hg1).trans (H.out g rfl j d hj hd)⟩
      clear cC c5 fr ho1 hg1 HOO H
      go_wp2_with fail
      go_roundw
      case rel =>
        refine ⟨k + 1, by omega, by go_num, ?_, fun g' hg' j d hj hd => ?_⟩
        · exact out_set6 HO1.out.1 HG.out.1 HG.out.2.1 _ _ _ _ _ _ _
        · simp only [Option.some.injEq, Addr.mk.injEq, and_true] at hg'
          subst hg'
          exact cell_far6 (HO1.out.2 j d (by omega) hd) (by omega) _ _ _ _ _ _
      case measure => simp [RowKit.intOf]; omega
    · have hltI : ¬ (k : Int) < n := by omega
      have HLI2 : Hid (Out lo hi w wr ∧ LiC wr lo hi w.heap.size (.slice p n cap) n) := ⟨ho, HLI.out wr ho⟩
      clear ho H HC HB HLI
      go_wp2_with fail
      go_loopw [3, 4] (fun s i wr => ∃ (k : Nat), k ≤ 20 ∧ i = .int .i64 k ∧ Hid (Out lo hi w wr ∧ LiC wr lo hi w.heap.size s (n + k))) (fun _ i _ => 20 - (RowKit.intOf i).toNat)
      case atStart => exact ⟨0, Nat.zero_le _, rfl, HLI2.out⟩
      case round =>
        clear HLI2
        obtain ⟨k, hk, rfl, HR⟩ := hrel
        obtain ⟨p', c', rfl⟩ := HR.out.2.val
        by_cases hlt : k < 20
        · have hltJ : (k : Int) < 20 := by omega
          have bA := (Below.refl wr.heap.size wr).alloc (Nat.le_refl _) (.cells #[.int .i32 109, .string ⟨#[]⟩, .int .i64 0, .int .i64 0, .string ⟨#[]⟩, .slice none 0 0] 30)
          have HA : Hid (Out lo hi w (wr.alloc (.cells #[.int .i32 109, .string ⟨#[]⟩, .int .i64 0, .int .i64 0, .string ⟨#[]⟩, .slice none 0 0] 30)) ∧ LiC (wr.alloc (.cells #[.int .i32 109, .string ⟨#[]⟩, .int .i64 0, .int .i64 0, .string ⟨#[]⟩, .slice none 0 0] 30)) lo hi w.heap.size (.slice p' (n + k) c') (n + k) ∧ InC (wr.alloc (.cells #[.int .i32 109, .string ⟨#[]⟩, .int .i64 0, .int .i64 0, .string ⟨#[]⟩, .slice none 0 0] 30)) wr.heap.size 0 [(109, ⟨#[]⟩, z0, (none, 0, 0))]) :=
            ⟨HR.out.1.trans (Out.of_below bA), HR.out.2.below bA, fun j u hu => by rw [Nat.zero_add, cell_of_heap (heap_alloc_new wr _), List.getElem?_toArray]; exact hu⟩
          have hb : n + k ≤ 2097152 := by omega
          clear HR bA
          go_wp2_with (at_builtin; refine wpList_append_rec (u := w) rfl (.tmp 26) (.tmp 28) rfl lo hi (.slice p' (n + k) c') (n + k) rfl HA.out.2.1 HA.out.1 wr.heap.size 1 (109, ⟨#[]⟩, z0, (none, 0, 0)) rfl HA.out.2.2 hb ?_; intro v' w6 hl6 ho6; have HN : Hid (Out lo hi w w6 ∧ LiC w6 lo hi w.heap.size v' (n + (k + 1))) := ⟨ho6, hl6⟩; clear hl6 ho6 HA)
          go_roundw
          case rel => exact ⟨k + 1, by omega, by go_num, HN.out⟩
          case measure => simp [RowKit.intOf]; omega
        · have hltJ : ¬ (k : Int) < 20 := by omega
          go_wp2
          (try simp only [Exit.inBlock, Exit.then])
          refine bodyPost_end (results_none rfl _ _ _) rfl ?_
          exact ⟨rfl, HR.out.1⟩
end Go.Proofs.YtalfdjglbbmjcabGreatDoor

/- cells.Check; the document's Check of a cell. -/
namespace Go.Proofs.YtalfdjglbbmjcabGreatDoor
open Go Go.RowKit Go.Lib
set_option linter.unusedVariables false

set_option maxHeartbeats 2000000 in
theorem checkC_any {I : List Nat} {a : Nat → Addr} (e : C5) (p : Option Addr) (l c : Nat) (w : World) (hI : ∀ i ∈ IxO, i ∈ I) (hS : Std I a w) (hR : RN w (.slice p l c) e.2.2.2) (hF : FitC e) :
    Calls Tryz.prog 11 #[ceP e (.slice p l c)] w fun r w' => r = .returned (errOf a (celE e)) ∧ Below w.heap.size w w' := by
  have b0 := (Below.refl w.heap.size w).alloc (Nat.le_refl _) (.cells (ceA e (.slice p l c)) 30)
  by_cases hb : badC e
  · rw [celE_bad hb, show errOf a 5 = errV a 4 from rfl]
    have c1 := insertC_bad e p l c (w.alloc (.cells (ceA e (.slice p l c)) 30)) (hI 4 (by simp)) (hS.below b0) hb
    obtain ⟨k, t, ⟨x, n, u⟩, A⟩ := e
    simp only [ceA] at b0 c1
    clear hS hI hR hF hb
    go_enter Tryz.func11, Tryz.ntmps11
    go_wp2_with fail
    refine c1.mono ?_; rintro r w2 ⟨rfl, hb2⟩
    have b2 := b0.trans (hb2.mono b0.size)
    clear c1 hb2 b0
    go_wp2
    go_ret
    exact ⟨rfl, b2.alloc b2.size _⟩
  · rw [celE_op hb]
    have c1 := insertC_op e p l c (w.alloc (.cells (ceA e (.slice p l c)) 30)) hb
    have cP : Hid (∀ W, Below w.heap.size w W → Calls Tryz.prog 37 #[opV (opOf e) (.slice p l c)] W fun r w' => r = .returned (errOf a (opE (opOf e))) ∧ Below W.heap.size W w') := fun W hW =>
      checkO_any (opOf e) (.slice p l c) W hI (hS.below hW) (by rw [opOf_A]; exact hR.below hW) hF.fit
    obtain ⟨E, hE⟩ : ∃ E, errOf a (opE (opOf e)) = E := ⟨_, rfl⟩
    rw [hE] at cP ⊢
    obtain ⟨o, ho⟩ : ∃ o, opOf e = o := ⟨_, rfl⟩
    rw [ho] at c1 cP
    obtain ⟨ok, ot, ⟨ox, on, ou⟩, oc, oA⟩ := o
    obtain ⟨k, t, ⟨y, n, u⟩, A⟩ := e
    simp only [ceA] at b0 c1
    clear hS hI hR hF hb ho hE
    go_enter Tryz.func11, Tryz.ntmps11
    go_wp2_with fail
    refine c1.mono ?_; rintro r w2 ⟨rfl, hb2⟩
    have b2 := b0.trans (hb2.mono b0.size)
    have b3 := b2.alloc b2.size (.cells #[.int .i64 ok, .string ot, .int .i64 ox, .int .i64 on, .string ou, .int .i64 oc, .slice p l c] 69)
    have c3 := cP.out _ b3
    clear c1 hb2 b0 cP
    go_wp2_with fail
    refine c3.mono ?_; rintro r w4 ⟨rfl, hb4⟩
    have b4 := b3.trans (hb4.mono b3.size)
    clear c3 hb4
    go_wp2
    go_ret
    exact ⟨rfl, b4⟩
theorem insE_emb (t : ByteArray) (v : P3) (A : List A2) : opE ⟨2, t, v, 0, A⟩ = if t.toList.isEmpty = true ∨ 64 < t.size then 6 else if brk t.data.toList ≠ t.size then 1 else if chkP v ≠ 0 then chkP v else listE false none A := by
  unfold opE
  rw [if_pos (Or.inr rfl)]
  unfold insE
  by_cases h : t.toList.isEmpty = true ∨ 64 < t.size
  · have hf : fldE ⟨2, t, v, 0, A⟩ = 6 := by
      unfold fldE
      rw [if_neg (by simp), if_neg (by simp), if_pos ⟨rfl, h⟩]
    rw [hf, if_pos h]; rfl
  · have hf : fldE ⟨2, t, v, 0, A⟩ = 0 := by
      unfold fldE
      rw [if_neg (by simp), if_neg (by simp), if_neg (fun hh => h hh.2)]
    rw [hf, if_neg h]; rfl
theorem size_emp (t : ByteArray) : t.toList.isEmpty = true ↔ t.size = 0 := by
  rw [toList_data, List.isEmpty_iff_length_eq_zero, size_toList]
set_option maxHeartbeats 4000000 in
theorem checkR9_any {I : List Nat} {a : Nat → Addr} (e : C5) (p : Option Addr) (l c : Nat) (w : World) (hS : Std I a w) (hR : RN w (.slice p l c) e.2.2.2) (hF : FitC e) :
    Calls Tryz.prog 12 #[ceP e (.slice p l c)] w fun r w' => r = .returned (.int .i64 (celE e)) ∧ Below w.heap.size w w' := by
  have b0 := (Below.refl w.heap.size w).alloc (Nat.le_refl _) (.cells (ceA e (.slice p l c)) 30)
  have hn := hF.n
  have cA : Hid (∀ W, Below w.heap.size w W → Calls Tryz.prog 40 #[.slice p l c, .bool false] W fun r w' => r = .returned (.int .i64 (listE false none e.2.2.2)) ∧ Below W.heap.size W w') := fun W hW => ref_check (.slice p l c) e.2.2.2 false W (hS.below hW) (hR.below hW).row hF.A (by omega)
  have cU : Hid (∀ W, Below w.heap.size w W → Calls Tryz.prog 38 #[.string e.2.1] W fun r w' => r = .returned (.bool (decide (brk e.2.1.data.toList = e.2.1.size))) ∧ Below W.heap.size W w') := fun W hW => valid_any e.2.1 W (hS.below hW) (by have := hF.t; omega)
  have cV : Hid (∀ W, Below w.heap.size w W → Calls Tryz.prog 39 #[pl e.2.2.1.1 e.2.2.1.2.1 e.2.2.1.2.2] W fun r w' => r = .returned (.int .i64 (chkP e.2.2.1)) ∧ Below W.heap.size W w') := fun W hW => ref_chk _ _ _ W (by have := hF.v; omega)
  have hB5 : Hid (∀ w2, Below (w.alloc (.cells (ceA e (.slice p l c)) 30)).heap.size (w.alloc (.cells (ceA e (.slice p l c)) 30)) w2 → w2.cell? ⟨w.heap.size, 0, none⟩ = some (.int .i32 e.1) ∧ w2.cell? ⟨w.heap.size, 1, none⟩ = some (.string e.2.1) ∧ w2.cell? ⟨w.heap.size, 2, none⟩ = some (.int .i64 e.2.2.1.1) ∧ w2.cell? ⟨w.heap.size, 3, none⟩ = some (.int .i64 e.2.2.1.2.1) ∧ w2.cell? ⟨w.heap.size, 4, none⟩ = some (.string e.2.2.1.2.2) ∧ w2.cell? ⟨w.heap.size, 5, none⟩ = some (.slice p l c) ∧ Below w.heap.size w w2) := fun w2 hb => by
    have k0 : ∀ j, (w2.cell? ⟨w.heap.size, j, none⟩) = (w.alloc (.cells (ceA e (.slice p l c)) 30)).cell? ⟨w.heap.size, j, none⟩ := fun j => hb.cell (p := ⟨w.heap.size, j, none⟩) (by simp)
    refine ⟨?_, ?_, ?_, ?_, ?_, ?_, b0.trans (hb.mono b0.size)⟩
    all_goals (rw [k0]; simp)
  have hin : Hid (FitC e) := hF
  clear hS hR hF hn
  have hbox : ∀ w2, Below (w.alloc (.cells (ceA e (.slice p l c)) 30)).heap.size (w.alloc (.cells (ceA e (.slice p l c)) 30)) w2 → _ := hB5.out
  clear hB5
  have HB5 : Hid _ := hbox
  clear hbox
  by_cases hk : e.1 = -1
  · have hnb : ¬ badC e := fun h => h.1 hk
    have hop : opOf e = ⟨2, e.2.1, e.2.2.1, 0, e.2.2.2⟩ := if_pos hk
    rw [celE_op hnb, hop, insE_emb]
    obtain ⟨k, t, ⟨x, n, u⟩, A⟩ := e
    simp only at hk
    subst hk
    simp only [ceA] at b0 cA cU cV HB5 ⊢
    have ht := hin.out.t
    simp only at ht
    clear hnb hop hin
    by_cases h6 : t.toList.isEmpty = true ∨ 64 < t.size
    · rw [if_pos h6]
      by_cases h61 : (t.size : Int) < 1
      · clear h6 cA cU cV HB5
        go_enter Tryz.func12, Tryz.ntmps12
        go_wp2
        go_ret
        exact ⟨rfl, b0⟩
      · have h62 : (t.size : Int) > 64 := by
          rcases h6 with h | h
          · rw [size_emp] at h; omega
          · omega
        clear h6 cA cU cV HB5
        go_enter Tryz.func12, Tryz.ntmps12
        go_wp2
        go_ret
        exact ⟨rfl, b0⟩
    · rw [if_neg h6]
      have h61 : ¬ (t.size : Int) < 1 := by
        intro h
        exact h6 (Or.inl ((size_emp t).2 (by omega)))
      have h62 : ¬ (t.size : Int) > 64 := by
        intro h
        exact h6 (Or.inr (by omega))
      have cu := cU.out _ b0
      by_cases h1 : brk t.data.toList = t.size
      · rw [if_neg (by simpa using h1)]
        rw [decide_eq_true h1] at cu
        obtain ⟨z, hz⟩ : ∃ z, chkP (x, n, u) = z := ⟨_, rfl⟩
        simp only [hz] at cV ⊢
        cases z with
        | zero =>
          rw [if_neg (by simp)]
          obtain ⟨L, hL⟩ : ∃ x, listE false none A = x := ⟨_, rfl⟩
          rw [hL] at cA ⊢
          clear h6 h1 hz cU hL
          go_enter Tryz.func12, Tryz.ntmps12
          go_wp2_with fail
          refine cu.mono ?_; rintro r w2 ⟨rfl, b2⟩
          obtain ⟨y0, y1, y2, y3, y4, y5, bw2⟩ := HB5.out w2 b2
          have cv := cV.out w2 bw2
          clear cu cV
          go_wp2_with fail
          refine cv.mono ?_; rintro r w3 ⟨rfl, b3⟩
          have b23 := b2.trans (b3.mono b2.size)
          clear y0 y1 y2 y3 y4 y5 bw2 cv b2 b3
          obtain ⟨y0, y1, y2, y3, y4, y5, bw3⟩ := HB5.out w3 b23
          have ca := cA.out w3 bw3
          clear cA HB5 b23
          go_wp2_with fail
          refine ca.mono ?_; rintro r w4 ⟨rfl, b4⟩
          have bw4 := bw3.trans (b4.mono bw3.size)
          clear ca b4
          go_wp2
          go_ret
          exact ⟨rfl, bw4⟩
        | succ z =>
          rw [if_pos (by simp)]
          have hz1 : (((z + 1 : Nat) : Int) != 0) = true := by rw [bne_iff_ne]; omega
          clear h6 h1 hz cU cA
          obtain ⟨zz, hzz⟩ : ∃ zz : Int, ((z + 1 : Nat) : Int) = zz := ⟨_, rfl⟩
          rw [hzz] at cV hz1 ⊢
          clear hzz
          go_enter Tryz.func12, Tryz.ntmps12
          go_wp2_with fail
          refine cu.mono ?_; rintro r w2 ⟨rfl, b2⟩
          obtain ⟨y0, y1, y2, y3, y4, y5, bw2⟩ := HB5.out w2 b2
          have cv := cV.out w2 bw2
          clear cu cV
          go_wp2_with fail
          refine cv.mono ?_; rintro r w3 ⟨rfl, b3⟩
          have bw3 := bw2.trans (b3.mono bw2.size)
          clear cv b3
          go_wp2
          go_ret
          exact ⟨rfl, bw3⟩
      · rw [if_pos h1]
        rw [decide_eq_false h1] at cu
        clear h6 h1 cU cA cV
        go_enter Tryz.func12, Tryz.ntmps12
        go_wp2_with fail
        refine cu.mono ?_; rintro r w2 ⟨rfl, b2⟩
        have bw2 := b0.trans (b2.mono b0.size)
        clear cu
        go_wp2
        go_ret
        exact ⟨rfl, bw2⟩
  · by_cases hs : isScal e.1
    · obtain ⟨k, t, ⟨x, n, u⟩, A⟩ := e
      simp only at hk hs
      have gd := fun op x' y' w => guard_pl op x' y' (x, n, u) (0, 0, ⟨#[]⟩) w
      have hk0 : k ≥ 0 := by unfold isScal at hs; omega
      have hk1 : k ≤ 1114111 := by unfold isScal at hs; omega
      cases he : t.toList.isEmpty with
      | true =>
        have ht : t = ⟨#[]⟩ := by have := (emp_iff (t := t)).1 he; exact this
        by_cases hz : (x, n, u) = z0
        · have hnb : ¬ badC (k, t, (x, n, u), A) := fun h => by
            rcases h.2 with h | h | h
            · exact h hs
            · exact h ht
            · exact h hz
          have hne := neq_pl (x, n, u) (0, 0, ⟨#[]⟩) false (by rw [hz]; show (!samP z0 z0) = false; rw [samP_self]; rfl)
          rw [celE_op hnb]
          have hE : opE (opOf (k, t, (x, n, u), A)) = listE false none A := by
            obtain ⟨r, rfl, hr⟩ := scal_of hs
            rw [ht, hz, opOf_scal hr, opE_scal hr]
          rw [hE]
          simp only [ceA] at b0 cA HB5 ⊢
          obtain ⟨L, hL⟩ : ∃ x, listE false none A = x := ⟨_, rfl⟩
          rw [hL] at cA ⊢
          have ca := cA.out _ b0
          clear hnb hz hE hL cU cV hin cA ht
          rcases hs with ⟨_, h2⟩ | ⟨h2, _⟩
          · go_enter Tryz.func12, Tryz.ntmps12
            go_wp2_with fail
            refine ca.mono ?_; rintro r w2 ⟨rfl, b2⟩
            have bw2 := b0.trans (b2.mono b0.size)
            clear ca
            go_wp2
            go_ret
            exact ⟨rfl, bw2⟩
          · have h3 : ¬ k < 55296 := by omega
            have h4 : k > 57343 := by omega
            go_enter Tryz.func12, Tryz.ntmps12
            go_wp2_with fail
            refine ca.mono ?_; rintro r w2 ⟨rfl, b2⟩
            have bw2 := b0.trans (b2.mono b0.size)
            clear ca
            go_wp2
            go_ret
            exact ⟨rfl, bw2⟩
        · have hb : badC (k, t, (x, n, u), A) := ⟨hk, Or.inr (Or.inr hz)⟩
          have hne := neq_pl (x, n, u) (0, 0, ⟨#[]⟩) true (by show (!samP (x, n, u) z0) = true; rw [samP_ne hz]; rfl)
          rw [celE_bad hb]
          simp only [ceA] at b0
          clear hb hz cU cV cA hin HB5 ht
          rcases hs with ⟨_, h2⟩ | ⟨h2, _⟩
          · go_enter Tryz.func12, Tryz.ntmps12
            go_wp2
            go_ret
            exact ⟨rfl, b0⟩
          · have h3 : ¬ k < 55296 := by omega
            have h4 : k > 57343 := by omega
            go_enter Tryz.func12, Tryz.ntmps12
            go_wp2
            go_ret
            exact ⟨rfl, b0⟩
      | false =>
        have hb : badC (k, t, (x, n, u), A) := ⟨hk, Or.inr (Or.inl (fun h => by simp only at h; have h2 := (emp_iff (t := t)).2 h; rw [he] at h2; cases h2))⟩
        rw [celE_bad hb]
        simp only [ceA] at b0
        clear hb cU cV cA hin HB5
        rcases hs with ⟨_, h2⟩ | ⟨h2, _⟩
        · go_enter Tryz.func12, Tryz.ntmps12
          go_wp2
          go_ret
          exact ⟨rfl, b0⟩
        · have h3 : ¬ k < 55296 := by omega
          have h4 : k > 57343 := by omega
          go_enter Tryz.func12, Tryz.ntmps12
          go_wp2
          go_ret
          exact ⟨rfl, b0⟩
    · rw [celE_bad ⟨hk, Or.inl hs⟩]
      obtain ⟨k, t, ⟨x, n, u⟩, A⟩ := e
      simp only at hk hs
      simp only [ceA] at b0
      have hk2 : (k != -1) = true := by rw [bne_iff_ne]; exact hk
      clear cU cV cA hin HB5
      by_cases h1 : k < 0
      · have h2 : ¬ k ≥ 0 := by omega
        clear hs hk
        go_enter Tryz.func12, Tryz.ntmps12
        go_wp2
        go_ret
        exact ⟨rfl, b0⟩
      · by_cases h2 : k ≤ 1114111
        · have h3 : ¬ k < 55296 := by unfold isScal at hs; omega
          have h4 : ¬ k > 57343 := by unfold isScal at hs; omega
          have h5 : k ≥ 0 := by omega
          clear hs hk
          go_enter Tryz.func12, Tryz.ntmps12
          go_wp2
          go_ret
          exact ⟨rfl, b0⟩
        · have h5 : k ≥ 0 := by omega
          clear hs hk
          go_enter Tryz.func12, Tryz.ntmps12
          go_wp2
          go_ret
          exact ⟨rfl, b0⟩
end Go.Proofs.YtalfdjglbbmjcabGreatDoor

/- The document's deltas: Canonical: the canonical list of operations. -/
namespace Go.Proofs.YtalfdjglbbmjcabGreatDoor
open Go Go.RowKit Go.Lib
set_option linter.unusedVariables false

set_option maxHeartbeats 1000000 in
theorem plain6_any (o : Op5) (p : Option Addr) (l c : Nat) (w : World) (hl : l = o.A.length) : Calls Tryz.prog 92 #[opV o (.slice p l c)] w fun r w' => r = .returned (.bool (plainR o)) ∧ Below w.heap.size w w' := by
  have hp : plainR o = (o.k == 3 && decide (l = 0)) := by
    unfold plainR
    rw [hl]
    cases o.A <;> simp
  rw [hp]
  obtain ⟨k, t, ⟨x, n, u⟩, cc, A⟩ := o
  simp only
  clear hp hl
  by_cases k3 : k = 3
  · subst k3
    have hz : ((l : Int) == 0) = decide (l = 0) := by rw [Bool.eq_iff_iff]; simp
    go_enter Tryz.func92, Tryz.ntmps92
    go_wp2
    go_ret
    exact ⟨by simp, by go_grown⟩
  · have e3 : (k == 3) = false := by simpa using k3
    rw [e3]
    go_enter Tryz.func92, Tryz.ntmps92
    go_wp2
    go_ret
    exact ⟨rfl, by go_grown⟩
/-- push, whatever comes. -/
theorem push6_any {w0 : World} {B : Nat} (v : Value) (D : List OV) (P : List Op5) (o : Op5) (sp : Option Addr) (sl sc : Nat) (w : World) (hB : B ≤ w.heap.size) (hw : Below w0.heap.size w0 w) (hv : OwnO w B v D) (hD : ReD w0 D P) (ho : RN w0 (.slice sp sl sc) o.A) (hl : P.length ≤ 4194304) (hP : ∀ x ∈ P, Wel x ∧ x.A.length ≤ 2097152 ∧ x.t.size ≤ 8388608 ∧ x.c ≤ 2199023255552) (how : Wel o) (hn2 : o.A.length ≤ 2097152) (hot : o.t.size ≤ 8388608) (hoc : o.c ≤ 2199023255552) :
    Calls Tryz.prog 91 #[v, opV o (.slice sp sl sc)] w fun e w' => PushR w0 B w w' v e (pushL P o) := by
  rcases List.eq_nil_or_concat P with rfl | ⟨F, x, rfl⟩
  · exact push6_nil v D [] o sp sl sc w hB hw hv hD ho (by simp) rfl
  · rw [List.concat_eq_append] at hD hl hP ⊢
    obtain ⟨hx1, hx2, hx3, hx4⟩ := hP x (List.mem_append_right _ (List.mem_singleton.2 rfl))
    by_cases h1 : x.k ≠ o.k ∨ o.k = 2
    · rw [push_apart (by rcases h1 with h | h; exact Or.inl h; exact Or.inr (Or.inl h))]
      exact push6_kind v D _ o sp sl sc w hB hw hv hD ho (by omega) F x rfl h1
    · have hk : x.k = o.k := Decidable.byContradiction fun h => h1 (Or.inl h)
      have h2 : o.k ≠ 2 := fun h => h1 (Or.inr h)
      have hcx : 0 ≤ x.c := by
        rcases hx1.kinds with h | h | h | h
        · rw [(hx1.resolve_right (by rintro (⟨a, _⟩ | ⟨a, _⟩) <;> omega)).1.count]; omega
        · omega
        · have := hx1.count (Or.inl h); omega
        · have := hx1.count (Or.inr h); omega
      have hco : 0 ≤ o.c := by
        rcases how.kinds with h | h | h | h
        · rw [(how.resolve_right (by rintro (⟨a, _⟩ | ⟨a, _⟩) <;> omega)).1.count]; omega
        · omega
        · have := how.count (Or.inl h); omega
        · have := how.count (Or.inr h); omega
      have h := push6_same v D _ o sp sl sc w hB hw hv hD ho (by omega) F x rfl hk h2 hx2 hn2 (by omega) ⟨hcx, hco, by omega⟩
      by_cases hA : x.A = o.A
      · rw [if_pos hA] at h
        rw [push_join (by rintro (e | e | e); exact e hk; exact h2 e; exact e hA)]
        exact h
      · rw [if_neg hA] at h
        rw [push_apart (Or.inr (Or.inr hA))]
        exact h
end Go.Proofs.YtalfdjglbbmjcabGreatDoor

/- The document's deltas: Len. -/
namespace Go.Proofs.YtalfdjglbbmjcabGreatDoor
open Go Go.RowKit Go.Lib
set_option linter.unusedVariables false
end Go.Proofs.YtalfdjglbbmjcabGreatDoor

/- What the methods Op of api.Insert and api.Embed answer. -/
namespace Go.Proofs.YtalfdjglbbmjcabGreatDoor
open Go Go.RowKit Go.Lib
set_option linter.unusedVariables false

theorem cell_drew0 (W : World) (a : Addr) : W.drew.cell? a = W.cell? a := rfl
set_option maxHeartbeats 1000000 in
set_option maxRecDepth 100000 in
theorem insOp (s : Value) (A : List A2) (t : ByteArray) (n : Int) (w : World) (hR : RN w s A) (hl : A.length ≤ 2097152) :
    Calls Tryz.prog 163 #[.agg #[s, .string t, .int .i64 n]] w fun r w' => ∃ v', r = .returned (opV ⟨1, t, z0, 0, []⟩ v') ∧ OwnA w' w.heap.size v' A ∧ Below w.heap.size w w' := by
  have HC : Hid (∀ W, Below w.heap.size w W → Calls Tryz.prog 95 #[.agg #[s]] W fun r w' => ∃ v', r = .returned v' ∧ OwnA w' W.heap.size v' A ∧ Below W.heap.size W w') := fun W hW => attributes_any s A W (hR.row.below hW) hR.nz hl
  obtain ⟨p, l, cc, rfl⟩ : ∃ p l c, s = .slice p l c := by obtain ⟨p, c, h, _⟩ := hR.row.val; exact ⟨_, _, _, h⟩
  clear hR hl
  obtain ⟨W1, hW1⟩ : ∃ W, W = (w.alloc (.cells #[.slice p l cc, .string t, .int .i64 n] 159)).alloc (.cells #[.int .i64 0, .string ⟨#[]⟩, .int .i64 0, .int .i64 0, .string ⟨#[]⟩, .int .i64 0, .slice none 0 0] 69) := ⟨_, rfl⟩
  have b0 : Below w.heap.size w W1 := by rw [hW1]; exact ((Below.refl _ _).alloc (Nat.le_refl _) _).alloc (by simp) _
  have e0 : W1.cell? ⟨w.heap.size, 0, none⟩ = some (.slice p l cc) := by rw [hW1]; simp
  have e1 : W1.cell? ⟨w.heap.size, 1, none⟩ = some (.string t) := by rw [hW1]; simp
  have hB : BoxO W1 (w.heap.size + 1) opZ nilS ∧ FrO W1 (w.heap.size + 1) := by
    have q1 := BoxO.new (w.alloc (.cells #[.slice p l cc, .string t, .int .i64 n] 159)) opZ nilS
    have q2 := FrO.new (w.alloc (.cells #[.slice p l cc, .string t, .int .i64 n] 159)) opZ nilS
    rw [World.size_alloc] at q1 q2
    rw [hW1]
    exact ⟨q1, q2⟩
  go_enter Tryz.func163, Tryz.ntmps163
  go_upto_region 1 with fail
  rw [← hW1]
  clear hW1
  have HB : Hid (BoxO W1.drew (w.heap.size + 1) opZ nilS ∧ FrO W1.drew (w.heap.size + 1)) := ⟨hB.1.drew, hB.2.drew⟩
  have b1 : Below w.heap.size w W1.drew := b0.drew
  have hz1 : w.heap.size ≤ W1.drew.heap.size := b1.size
  have hz2 : w.heap.size + 1 < W1.drew.heap.size := lt_of_cell hB.1.d0
  have cA := HC.out W1.drew b1
  have n1 : w.heap.size ≠ w.heap.size + 1 := by omega
  have hs1 : w.heap.size ≤ w.heap.size + 1 := by omega
  have HU : Hid (∀ W : World, (∀ i, W.cell? ⟨w.heap.size, i, none⟩ = W1.drew.cell? ⟨w.heap.size, i, none⟩) → W.cell? ⟨w.heap.size, 0, none⟩ = some (.slice p l cc) ∧ W.cell? ⟨w.heap.size, 1, none⟩ = some (.string t)) := fun W h => ⟨(h 0).trans e0, (h 1).trans e1⟩
  have M0 := HU.out W1.drew (fun _ => rfl)
  have HW : Hid (∀ W, Below W1.drew.heap.size W1.drew W → ∀ i, W.cell? ⟨w.heap.size, i, none⟩ = W1.drew.cell? ⟨w.heap.size, i, none⟩) := fun W h i => World.cell?_of_block (a := ⟨w.heap.size, i, none⟩) (h.block w.heap.size (by omega))
  have HS : Hid (∀ W, Below W1.drew.heap.size W1.drew W → (∀ u0 u1 u2 u3 u4 u5 u6 : Value, ((((((((W.setCell ⟨w.heap.size + 1, 0, none⟩ u0).setCell ⟨w.heap.size + 1, 1, none⟩ u1).setCell ⟨w.heap.size + 1, 2, none⟩ u2).setCell ⟨w.heap.size + 1, 3, none⟩ u3).setCell ⟨w.heap.size + 1, 4, none⟩ u4).setCell ⟨w.heap.size + 1, 5, none⟩ u5).setCell ⟨w.heap.size + 1, 6, none⟩ u6).cell? ⟨w.heap.size, 0, none⟩ = some (.slice p l cc) ∧ (((((((W.setCell ⟨w.heap.size + 1, 0, none⟩ u0).setCell ⟨w.heap.size + 1, 1, none⟩ u1).setCell ⟨w.heap.size + 1, 2, none⟩ u2).setCell ⟨w.heap.size + 1, 3, none⟩ u3).setCell ⟨w.heap.size + 1, 4, none⟩ u4).setCell ⟨w.heap.size + 1, 5, none⟩ u5).setCell ⟨w.heap.size + 1, 6, none⟩ u6).cell? ⟨w.heap.size, 1, none⟩ = some (.string t)) ∧ Below w.heap.size w (((((((W.setCell ⟨w.heap.size + 1, 0, none⟩ u0).setCell ⟨w.heap.size + 1, 1, none⟩ u1).setCell ⟨w.heap.size + 1, 2, none⟩ u2).setCell ⟨w.heap.size + 1, 3, none⟩ u3).setCell ⟨w.heap.size + 1, 4, none⟩ u4).setCell ⟨w.heap.size + 1, 5, none⟩ u5).setCell ⟨w.heap.size + 1, 6, none⟩ u6))) := fun W h u0 u1 u2 u3 u4 u5 u6 => ⟨HU.out _ (fun i => (cell_set7 (B := w.heap.size + 1) (j := i) W n1 u0 u1 u2 u3 u4 u5 u6).trans (HW.out W h i)), below_set7 (B := w.heap.size + 1) (b1.trans (h.mono hz1)) hs1 u0 u1 u2 u3 u4 u5 u6⟩
  clear hB e0 e1 b0
  go_region_held3 (fun w' => (w'.cell? ⟨w.heap.size, 0, none⟩ = some (.slice p l cc) ∧ w'.cell? ⟨w.heap.size, 1, none⟩ = some (.string t)) ∧ Below w.heap.size w w')
    (first | exact ⟨by with_reducible first | assumption | exact M0 | exact MS _ _ _ _ _ _ _, by with_reducible first | assumption | exact b1 | exact BS _ _ _ _ _ _ _⟩)
    (first
      | (go_at_call 95; refine cA.mono ?_; rintro r wA ⟨vA, rfl, oA, hA⟩; obtain ⟨pA, cA', rfl⟩ := own_slice oA; have HA' := hA; have bA := b1.trans (HA'.mono hz1); have mA := HU.out wA (HW.out wA HA'); have OA : Hid (OwnA wA W1.drew.heap.size (.slice pA A.length cA') A) := oA; clear oA; obtain ⟨q0, q1, q2, q3, q4, q5, q6⟩ := HB.out.1.below HA'; obtain ⟨h0, h1, h2, h3, h4, h5, h6⟩ := HB.out.2.below HB.out.1 HA'; simp only [z0] at q0 q1 q2 q3 q4 q5 q6; have MS := fun u0 u1 u2 u3 u4 u5 u6 => (HS.out wA HA' u0 u1 u2 u3 u4 u5 u6).1; have BS := fun u0 u1 u2 u3 u4 u5 u6 => (HS.out wA HA' u0 u1 u2 u3 u4 u5 u6).2))
  · have same : ∀ (u0 u1 u2 u3 u4 u5 u6 : Value) (v : Value) (hv : OwnA wA W1.drew.heap.size v A), OwnA (((((((wA.setCell ⟨w.heap.size + 1, 0, none⟩ u0).setCell ⟨w.heap.size + 1, 1, none⟩ u1).setCell ⟨w.heap.size + 1, 2, none⟩ u2).setCell ⟨w.heap.size + 1, 3, none⟩ u3).setCell ⟨w.heap.size + 1, 4, none⟩ u4).setCell ⟨w.heap.size + 1, 5, none⟩ u5).setCell ⟨w.heap.size + 1, 6, none⟩ u6) w.heap.size v A := fun u0 u1 u2 u3 u4 u5 u6 v hv =>
      own_weaken (owns_same hv fun k hk => by
        have := (owns_block hv k hk).1
        exact heap_set7 _ (by omega) _ _ _ _ _ _ _) hz1
    go_wp2
    exact bodyPost_ret (v := opV ⟨1, t, z0, 0, []⟩ (.slice pA A.length cA')) (by simp [results, Tryz.results163, go_sem, z0, q0, q1, q2, q3, q4, q5, q6]) rfl ⟨_, rfl, same _ _ _ _ _ _ _ _ OA.out, BS _ _ _ _ _ _ _⟩

set_option maxHeartbeats 1000000 in
set_option maxRecDepth 100000 in
theorem embOp_null (s : Value) (A : List A2) (t : ByteArray) (w : World) (hR : RN w s A) (hl : A.length ≤ 2097152) :
    Calls Tryz.prog 165 #[.agg #[s, .string t, .iface 184 (.agg #[])]] w fun r w' => ∃ v', r = .returned (opV ⟨2, t, z0, 0, []⟩ v') ∧ OwnA w' w.heap.size v' A ∧ Below w.heap.size w w' := by
  have HC : Hid (∀ W, Below w.heap.size w W → Calls Tryz.prog 95 #[.agg #[s]] W fun r w' => ∃ v', r = .returned v' ∧ OwnA w' W.heap.size v' A ∧ Below W.heap.size W w') := fun W hW => attributes_any s A W (hR.row.below hW) hR.nz hl
  obtain ⟨p, l, cc, rfl⟩ : ∃ p l c, s = .slice p l c := by obtain ⟨p, c, h, _⟩ := hR.row.val; exact ⟨_, _, _, h⟩
  clear hR hl
  obtain ⟨W1, hW1⟩ : ∃ W, W = (w.alloc (.cells #[.slice p l cc, .string t, .iface 184 (.agg #[])] 164)).alloc (.cells #[.int .i64 0, .string ⟨#[]⟩, .int .i64 0, .int .i64 0, .string ⟨#[]⟩, .int .i64 0, .slice none 0 0] 69) := ⟨_, rfl⟩
  have b0 : Below w.heap.size w W1 := by rw [hW1]; exact ((Below.refl _ _).alloc (Nat.le_refl _) _).alloc (by simp) _
  have e0 : W1.cell? ⟨w.heap.size, 0, none⟩ = some (.slice p l cc) := by rw [hW1]; simp
  have e1 : W1.cell? ⟨w.heap.size, 1, none⟩ = some (.string t) := by rw [hW1]; simp
  have e2 : W1.cell? ⟨w.heap.size, 2, none⟩ = some (.iface 184 (.agg #[])) := by rw [hW1]; simp
  have hB : BoxO W1 (w.heap.size + 1) opZ nilS ∧ FrO W1 (w.heap.size + 1) := by
    have q1 := BoxO.new (w.alloc (.cells #[.slice p l cc, .string t, .iface 184 (.agg #[])] 164)) opZ nilS
    have q2 := FrO.new (w.alloc (.cells #[.slice p l cc, .string t, .iface 184 (.agg #[])] 164)) opZ nilS
    rw [World.size_alloc] at q1 q2
    rw [hW1]
    exact ⟨q1, q2⟩
  go_enter Tryz.func165, Tryz.ntmps165
  go_upto_region 1 with fail
  rw [← hW1]
  clear hW1
  have HB : Hid (BoxO W1.drew (w.heap.size + 1) opZ nilS ∧ FrO W1.drew (w.heap.size + 1)) := ⟨hB.1.drew, hB.2.drew⟩
  have b1 : Below w.heap.size w W1.drew := b0.drew
  have hz1 : w.heap.size ≤ W1.drew.heap.size := b1.size
  have hz2 : w.heap.size + 1 < W1.drew.heap.size := lt_of_cell hB.1.d0
  have cA := HC.out W1.drew b1
  have n1 : w.heap.size ≠ w.heap.size + 1 := by omega
  have hs1 : w.heap.size ≤ w.heap.size + 1 := by omega
  have HU : Hid (∀ W : World, (∀ i, W.cell? ⟨w.heap.size, i, none⟩ = W1.drew.cell? ⟨w.heap.size, i, none⟩) → W.cell? ⟨w.heap.size, 0, none⟩ = some (.slice p l cc) ∧ W.cell? ⟨w.heap.size, 1, none⟩ = some (.string t) ∧ W.cell? ⟨w.heap.size, 2, none⟩ = some (.iface 184 (.agg #[]))) := fun W h => ⟨(h 0).trans e0, (h 1).trans e1, (h 2).trans e2⟩
  have M0 := HU.out W1.drew (fun _ => rfl)
  have HW : Hid (∀ W, Below W1.drew.heap.size W1.drew W → ∀ i, W.cell? ⟨w.heap.size, i, none⟩ = W1.drew.cell? ⟨w.heap.size, i, none⟩) := fun W h i => World.cell?_of_block (a := ⟨w.heap.size, i, none⟩) (h.block w.heap.size (by omega))
  have HS : Hid (∀ W, Below W1.drew.heap.size W1.drew W → (∀ u0 u1 u2 u3 u4 u5 u6 : Value, ((((((((W.setCell ⟨w.heap.size + 1, 0, none⟩ u0).setCell ⟨w.heap.size + 1, 1, none⟩ u1).setCell ⟨w.heap.size + 1, 2, none⟩ u2).setCell ⟨w.heap.size + 1, 3, none⟩ u3).setCell ⟨w.heap.size + 1, 4, none⟩ u4).setCell ⟨w.heap.size + 1, 5, none⟩ u5).setCell ⟨w.heap.size + 1, 6, none⟩ u6).cell? ⟨w.heap.size, 0, none⟩ = some (.slice p l cc) ∧ (((((((W.setCell ⟨w.heap.size + 1, 0, none⟩ u0).setCell ⟨w.heap.size + 1, 1, none⟩ u1).setCell ⟨w.heap.size + 1, 2, none⟩ u2).setCell ⟨w.heap.size + 1, 3, none⟩ u3).setCell ⟨w.heap.size + 1, 4, none⟩ u4).setCell ⟨w.heap.size + 1, 5, none⟩ u5).setCell ⟨w.heap.size + 1, 6, none⟩ u6).cell? ⟨w.heap.size, 1, none⟩ = some (.string t) ∧ (((((((W.setCell ⟨w.heap.size + 1, 0, none⟩ u0).setCell ⟨w.heap.size + 1, 1, none⟩ u1).setCell ⟨w.heap.size + 1, 2, none⟩ u2).setCell ⟨w.heap.size + 1, 3, none⟩ u3).setCell ⟨w.heap.size + 1, 4, none⟩ u4).setCell ⟨w.heap.size + 1, 5, none⟩ u5).setCell ⟨w.heap.size + 1, 6, none⟩ u6).cell? ⟨w.heap.size, 2, none⟩ = some (.iface 184 (.agg #[]))) ∧ Below w.heap.size w (((((((W.setCell ⟨w.heap.size + 1, 0, none⟩ u0).setCell ⟨w.heap.size + 1, 1, none⟩ u1).setCell ⟨w.heap.size + 1, 2, none⟩ u2).setCell ⟨w.heap.size + 1, 3, none⟩ u3).setCell ⟨w.heap.size + 1, 4, none⟩ u4).setCell ⟨w.heap.size + 1, 5, none⟩ u5).setCell ⟨w.heap.size + 1, 6, none⟩ u6))) := fun W h u0 u1 u2 u3 u4 u5 u6 => ⟨HU.out _ (fun i => (cell_set7 (B := w.heap.size + 1) (j := i) W n1 u0 u1 u2 u3 u4 u5 u6).trans (HW.out W h i)), below_set7 (B := w.heap.size + 1) (b1.trans (h.mono hz1)) hs1 u0 u1 u2 u3 u4 u5 u6⟩
  clear hB e0 e1 e2 b0
  go_region_held3 (fun w' => (w'.cell? ⟨w.heap.size, 0, none⟩ = some (.slice p l cc) ∧ w'.cell? ⟨w.heap.size, 1, none⟩ = some (.string t) ∧ w'.cell? ⟨w.heap.size, 2, none⟩ = some (.iface 184 (.agg #[]))) ∧ Below w.heap.size w w')
    (first | exact ⟨by with_reducible first | assumption | exact M0 | exact MS _ _ _ _ _ _ _, by with_reducible first | assumption | exact b1 | exact BS _ _ _ _ _ _ _⟩)
    (first
      | (go_at_call 173; have hx := OA; clear hx; refine (plain_n wA).mono ?_; rintro r wP ⟨rfl, hP⟩; have HP' := HA'.trans (hP.mono HA'.size); have bP := b1.trans (HP'.mono hz1); have mP := HU.out wP (HW.out wP HP'); have OF : Hid (OwnA wP W1.drew.heap.size (.slice pA A.length cA') A) := owns_below OA.out hP; obtain ⟨q0, q1, q2, q3, q4, q5, q6⟩ := HB.out.1.below HP'; obtain ⟨h0, h1, h2, h3, h4, h5, h6⟩ := HB.out.2.below HB.out.1 HP'; simp only [z0] at q0 q1 q2 q3 q4 q5 q6; have MS := fun u0 u1 u2 u3 u4 u5 u6 => (HS.out wP HP' u0 u1 u2 u3 u4 u5 u6).1; have BS := fun u0 u1 u2 u3 u4 u5 u6 => (HS.out wP HP' u0 u1 u2 u3 u4 u5 u6).2)
      | (go_at_call 95; refine cA2.mono ?_; rintro r wA ⟨vA, rfl, oA, hA⟩; obtain ⟨pA, cA', rfl⟩ := own_slice oA; have HA' := HP'.trans (hA.mono HP'.size); have bA := b1.trans (HA'.mono hz1); have mA := HU.out wA (HW.out wA HA'); have OA : Hid (OwnA wA W1.drew.heap.size (.slice pA A.length cA') A) := own_weaken oA HP'.size; clear oA; have OF := OA; obtain ⟨q0, q1, q2, q3, q4, q5, q6⟩ := HB.out.1.below HA'; obtain ⟨h0, h1, h2, h3, h4, h5, h6⟩ := HB.out.2.below HB.out.1 HA'; simp only [z0] at q0 q1 q2 q3 q4 q5 q6; have MS := fun u0 u1 u2 u3 u4 u5 u6 => (HS.out wA HA' u0 u1 u2 u3 u4 u5 u6).1; have BS := fun u0 u1 u2 u3 u4 u5 u6 => (HS.out wA HA' u0 u1 u2 u3 u4 u5 u6).2)
      | (go_at_call 95; refine cA.mono ?_; rintro r wA ⟨vA, rfl, oA, hA⟩; obtain ⟨pA, cA', rfl⟩ := own_slice oA; have HA' := hA; have bA := b1.trans (HA'.mono hz1); have mA := HU.out wA (HW.out wA HA'); have OA : Hid (OwnA wA W1.drew.heap.size (.slice pA A.length cA') A) := oA; clear oA)
      | (go_at_call 173; refine (plain_n W1.drew).mono ?_; rintro r wP ⟨rfl, hP⟩; have HP' := hP; have bP := b1.trans (HP'.mono hz1); have mP := HU.out wP (HW.out wP HP'); have cA2 := HC.out wP bP))
  · have same : ∀ (u0 u1 u2 u3 u4 u5 u6 : Value) (v : Value) (hv : OwnA wA W1.drew.heap.size v A), OwnA (((((((wA.setCell ⟨w.heap.size + 1, 0, none⟩ u0).setCell ⟨w.heap.size + 1, 1, none⟩ u1).setCell ⟨w.heap.size + 1, 2, none⟩ u2).setCell ⟨w.heap.size + 1, 3, none⟩ u3).setCell ⟨w.heap.size + 1, 4, none⟩ u4).setCell ⟨w.heap.size + 1, 5, none⟩ u5).setCell ⟨w.heap.size + 1, 6, none⟩ u6) w.heap.size v A := fun u0 u1 u2 u3 u4 u5 u6 v hv =>
      own_weaken (owns_same hv fun k hk => by
        have := (owns_block hv k hk).1
        exact heap_set7 _ (by omega) _ _ _ _ _ _ _) hz1
    go_wp2
    exact bodyPost_ret (v := opV ⟨2, t, z0, 0, []⟩ (.slice pA A.length cA')) (by simp [results, Tryz.results165, go_sem, z0, q0, q1, q2, q3, q4, q5, q6]) rfl ⟨_, rfl, same _ _ _ _ _ _ _ _ OF.out, BS _ _ _ _ _ _ _⟩

set_option maxHeartbeats 1000000 in
set_option maxRecDepth 100000 in
theorem embOp_flag0 (s : Value) (A : List A2) (t : ByteArray) (w : World) (hR : RN w s A) (hl : A.length ≤ 2097152) :
    Calls Tryz.prog 165 #[.agg #[s, .string t, .iface 180 (.bool false)]] w fun r w' => ∃ v', r = .returned (opV ⟨2, t, (1, 0, ⟨#[]⟩), 0, []⟩ v') ∧ OwnA w' w.heap.size v' A ∧ Below w.heap.size w w' := by
  have HC : Hid (∀ W, Below w.heap.size w W → Calls Tryz.prog 95 #[.agg #[s]] W fun r w' => ∃ v', r = .returned v' ∧ OwnA w' W.heap.size v' A ∧ Below W.heap.size W w') := fun W hW => attributes_any s A W (hR.row.below hW) hR.nz hl
  obtain ⟨p, l, cc, rfl⟩ : ∃ p l c, s = .slice p l c := by obtain ⟨p, c, h, _⟩ := hR.row.val; exact ⟨_, _, _, h⟩
  clear hR hl
  obtain ⟨W1, hW1⟩ : ∃ W, W = (w.alloc (.cells #[.slice p l cc, .string t, .iface 180 (.bool false)] 164)).alloc (.cells #[.int .i64 0, .string ⟨#[]⟩, .int .i64 0, .int .i64 0, .string ⟨#[]⟩, .int .i64 0, .slice none 0 0] 69) := ⟨_, rfl⟩
  have b0 : Below w.heap.size w W1 := by rw [hW1]; exact ((Below.refl _ _).alloc (Nat.le_refl _) _).alloc (by simp) _
  have e0 : W1.cell? ⟨w.heap.size, 0, none⟩ = some (.slice p l cc) := by rw [hW1]; simp
  have e1 : W1.cell? ⟨w.heap.size, 1, none⟩ = some (.string t) := by rw [hW1]; simp
  have e2 : W1.cell? ⟨w.heap.size, 2, none⟩ = some (.iface 180 (.bool false)) := by rw [hW1]; simp
  have hB : BoxO W1 (w.heap.size + 1) opZ nilS ∧ FrO W1 (w.heap.size + 1) := by
    have q1 := BoxO.new (w.alloc (.cells #[.slice p l cc, .string t, .iface 180 (.bool false)] 164)) opZ nilS
    have q2 := FrO.new (w.alloc (.cells #[.slice p l cc, .string t, .iface 180 (.bool false)] 164)) opZ nilS
    rw [World.size_alloc] at q1 q2
    rw [hW1]
    exact ⟨q1, q2⟩
  go_enter Tryz.func165, Tryz.ntmps165
  go_upto_region 1 with fail
  rw [← hW1]
  clear hW1
  have HB : Hid (BoxO W1.drew (w.heap.size + 1) opZ nilS ∧ FrO W1.drew (w.heap.size + 1)) := ⟨hB.1.drew, hB.2.drew⟩
  have b1 : Below w.heap.size w W1.drew := b0.drew
  have hz1 : w.heap.size ≤ W1.drew.heap.size := b1.size
  have hz2 : w.heap.size + 1 < W1.drew.heap.size := lt_of_cell hB.1.d0
  have cA := HC.out W1.drew b1
  have n1 : w.heap.size ≠ w.heap.size + 1 := by omega
  have hs1 : w.heap.size ≤ w.heap.size + 1 := by omega
  have HU : Hid (∀ W : World, (∀ i, W.cell? ⟨w.heap.size, i, none⟩ = W1.drew.cell? ⟨w.heap.size, i, none⟩) → W.cell? ⟨w.heap.size, 0, none⟩ = some (.slice p l cc) ∧ W.cell? ⟨w.heap.size, 1, none⟩ = some (.string t) ∧ W.cell? ⟨w.heap.size, 2, none⟩ = some (.iface 180 (.bool false))) := fun W h => ⟨(h 0).trans e0, (h 1).trans e1, (h 2).trans e2⟩
  have M0 := HU.out W1.drew (fun _ => rfl)
  have HW : Hid (∀ W, Below W1.drew.heap.size W1.drew W → ∀ i, W.cell? ⟨w.heap.size, i, none⟩ = W1.drew.cell? ⟨w.heap.size, i, none⟩) := fun W h i => World.cell?_of_block (a := ⟨w.heap.size, i, none⟩) (h.block w.heap.size (by omega))
  have HS : Hid (∀ W, Below W1.drew.heap.size W1.drew W → (∀ u0 u1 u2 u3 u4 u5 u6 : Value, ((((((((W.setCell ⟨w.heap.size + 1, 0, none⟩ u0).setCell ⟨w.heap.size + 1, 1, none⟩ u1).setCell ⟨w.heap.size + 1, 2, none⟩ u2).setCell ⟨w.heap.size + 1, 3, none⟩ u3).setCell ⟨w.heap.size + 1, 4, none⟩ u4).setCell ⟨w.heap.size + 1, 5, none⟩ u5).setCell ⟨w.heap.size + 1, 6, none⟩ u6).cell? ⟨w.heap.size, 0, none⟩ = some (.slice p l cc) ∧ (((((((W.setCell ⟨w.heap.size + 1, 0, none⟩ u0).setCell ⟨w.heap.size + 1, 1, none⟩ u1).setCell ⟨w.heap.size + 1, 2, none⟩ u2).setCell ⟨w.heap.size + 1, 3, none⟩ u3).setCell ⟨w.heap.size + 1, 4, none⟩ u4).setCell ⟨w.heap.size + 1, 5, none⟩ u5).setCell ⟨w.heap.size + 1, 6, none⟩ u6).cell? ⟨w.heap.size, 1, none⟩ = some (.string t) ∧ (((((((W.setCell ⟨w.heap.size + 1, 0, none⟩ u0).setCell ⟨w.heap.size + 1, 1, none⟩ u1).setCell ⟨w.heap.size + 1, 2, none⟩ u2).setCell ⟨w.heap.size + 1, 3, none⟩ u3).setCell ⟨w.heap.size + 1, 4, none⟩ u4).setCell ⟨w.heap.size + 1, 5, none⟩ u5).setCell ⟨w.heap.size + 1, 6, none⟩ u6).cell? ⟨w.heap.size, 2, none⟩ = some (.iface 180 (.bool false))) ∧ Below w.heap.size w (((((((W.setCell ⟨w.heap.size + 1, 0, none⟩ u0).setCell ⟨w.heap.size + 1, 1, none⟩ u1).setCell ⟨w.heap.size + 1, 2, none⟩ u2).setCell ⟨w.heap.size + 1, 3, none⟩ u3).setCell ⟨w.heap.size + 1, 4, none⟩ u4).setCell ⟨w.heap.size + 1, 5, none⟩ u5).setCell ⟨w.heap.size + 1, 6, none⟩ u6))) := fun W h u0 u1 u2 u3 u4 u5 u6 => ⟨HU.out _ (fun i => (cell_set7 (B := w.heap.size + 1) (j := i) W n1 u0 u1 u2 u3 u4 u5 u6).trans (HW.out W h i)), below_set7 (B := w.heap.size + 1) (b1.trans (h.mono hz1)) hs1 u0 u1 u2 u3 u4 u5 u6⟩
  clear hB e0 e1 e2 b0
  go_region_held3 (fun w' => (w'.cell? ⟨w.heap.size, 0, none⟩ = some (.slice p l cc) ∧ w'.cell? ⟨w.heap.size, 1, none⟩ = some (.string t) ∧ w'.cell? ⟨w.heap.size, 2, none⟩ = some (.iface 180 (.bool false))) ∧ Below w.heap.size w w')
    (first | exact ⟨by with_reducible first | assumption | exact M0 | exact MS _ _ _ _ _ _ _, by with_reducible first | assumption | exact b1 | exact BS _ _ _ _ _ _ _⟩)
    (first
      | (go_at_call 167; have hx := OA; clear hx; refine (plain_f0 wA).mono ?_; rintro r wP ⟨rfl, hP⟩; have HP' := HA'.trans (hP.mono HA'.size); have bP := b1.trans (HP'.mono hz1); have mP := HU.out wP (HW.out wP HP'); have OF : Hid (OwnA wP W1.drew.heap.size (.slice pA A.length cA') A) := owns_below OA.out hP; obtain ⟨q0, q1, q2, q3, q4, q5, q6⟩ := HB.out.1.below HP'; obtain ⟨h0, h1, h2, h3, h4, h5, h6⟩ := HB.out.2.below HB.out.1 HP'; simp only [z0] at q0 q1 q2 q3 q4 q5 q6; have MS := fun u0 u1 u2 u3 u4 u5 u6 => (HS.out wP HP' u0 u1 u2 u3 u4 u5 u6).1; have BS := fun u0 u1 u2 u3 u4 u5 u6 => (HS.out wP HP' u0 u1 u2 u3 u4 u5 u6).2)
      | (go_at_call 95; refine cA2.mono ?_; rintro r wA ⟨vA, rfl, oA, hA⟩; obtain ⟨pA, cA', rfl⟩ := own_slice oA; have HA' := HP'.trans (hA.mono HP'.size); have bA := b1.trans (HA'.mono hz1); have mA := HU.out wA (HW.out wA HA'); have OA : Hid (OwnA wA W1.drew.heap.size (.slice pA A.length cA') A) := own_weaken oA HP'.size; clear oA; have OF := OA; obtain ⟨q0, q1, q2, q3, q4, q5, q6⟩ := HB.out.1.below HA'; obtain ⟨h0, h1, h2, h3, h4, h5, h6⟩ := HB.out.2.below HB.out.1 HA'; simp only [z0] at q0 q1 q2 q3 q4 q5 q6; have MS := fun u0 u1 u2 u3 u4 u5 u6 => (HS.out wA HA' u0 u1 u2 u3 u4 u5 u6).1; have BS := fun u0 u1 u2 u3 u4 u5 u6 => (HS.out wA HA' u0 u1 u2 u3 u4 u5 u6).2)
      | (go_at_call 95; refine cA.mono ?_; rintro r wA ⟨vA, rfl, oA, hA⟩; obtain ⟨pA, cA', rfl⟩ := own_slice oA; have HA' := hA; have bA := b1.trans (HA'.mono hz1); have mA := HU.out wA (HW.out wA HA'); have OA : Hid (OwnA wA W1.drew.heap.size (.slice pA A.length cA') A) := oA; clear oA)
      | (go_at_call 167; refine (plain_f0 W1.drew).mono ?_; rintro r wP ⟨rfl, hP⟩; have HP' := hP; have bP := b1.trans (HP'.mono hz1); have mP := HU.out wP (HW.out wP HP'); have cA2 := HC.out wP bP))
  · have same : ∀ (u0 u1 u2 u3 u4 u5 u6 : Value) (v : Value) (hv : OwnA wA W1.drew.heap.size v A), OwnA (((((((wA.setCell ⟨w.heap.size + 1, 0, none⟩ u0).setCell ⟨w.heap.size + 1, 1, none⟩ u1).setCell ⟨w.heap.size + 1, 2, none⟩ u2).setCell ⟨w.heap.size + 1, 3, none⟩ u3).setCell ⟨w.heap.size + 1, 4, none⟩ u4).setCell ⟨w.heap.size + 1, 5, none⟩ u5).setCell ⟨w.heap.size + 1, 6, none⟩ u6) w.heap.size v A := fun u0 u1 u2 u3 u4 u5 u6 v hv =>
      own_weaken (owns_same hv fun k hk => by
        have := (owns_block hv k hk).1
        exact heap_set7 _ (by omega) _ _ _ _ _ _ _) hz1
    go_wp2
    exact bodyPost_ret (v := opV ⟨2, t, (1, 0, ⟨#[]⟩), 0, []⟩ (.slice pA A.length cA')) (by simp [results, Tryz.results165, go_sem, q0, q1, q2, q3, q4, q5, q6]) rfl ⟨_, rfl, same _ _ _ _ _ _ _ _ OF.out, BS _ _ _ _ _ _ _⟩

set_option maxHeartbeats 1000000 in
set_option maxRecDepth 100000 in
theorem embOp_flag1 (s : Value) (A : List A2) (t : ByteArray) (w : World) (hR : RN w s A) (hl : A.length ≤ 2097152) :
    Calls Tryz.prog 165 #[.agg #[s, .string t, .iface 180 (.bool true)]] w fun r w' => ∃ v', r = .returned (opV ⟨2, t, (1, 1, ⟨#[]⟩), 0, []⟩ v') ∧ OwnA w' w.heap.size v' A ∧ Below w.heap.size w w' := by
  have HC : Hid (∀ W, Below w.heap.size w W → Calls Tryz.prog 95 #[.agg #[s]] W fun r w' => ∃ v', r = .returned v' ∧ OwnA w' W.heap.size v' A ∧ Below W.heap.size W w') := fun W hW => attributes_any s A W (hR.row.below hW) hR.nz hl
  obtain ⟨p, l, cc, rfl⟩ : ∃ p l c, s = .slice p l c := by obtain ⟨p, c, h, _⟩ := hR.row.val; exact ⟨_, _, _, h⟩
  clear hR hl
  obtain ⟨W1, hW1⟩ : ∃ W, W = (w.alloc (.cells #[.slice p l cc, .string t, .iface 180 (.bool true)] 164)).alloc (.cells #[.int .i64 0, .string ⟨#[]⟩, .int .i64 0, .int .i64 0, .string ⟨#[]⟩, .int .i64 0, .slice none 0 0] 69) := ⟨_, rfl⟩
  have b0 : Below w.heap.size w W1 := by rw [hW1]; exact ((Below.refl _ _).alloc (Nat.le_refl _) _).alloc (by simp) _
  have e0 : W1.cell? ⟨w.heap.size, 0, none⟩ = some (.slice p l cc) := by rw [hW1]; simp
  have e1 : W1.cell? ⟨w.heap.size, 1, none⟩ = some (.string t) := by rw [hW1]; simp
  have e2 : W1.cell? ⟨w.heap.size, 2, none⟩ = some (.iface 180 (.bool true)) := by rw [hW1]; simp
  have hB : BoxO W1 (w.heap.size + 1) opZ nilS ∧ FrO W1 (w.heap.size + 1) := by
    have q1 := BoxO.new (w.alloc (.cells #[.slice p l cc, .string t, .iface 180 (.bool true)] 164)) opZ nilS
    have q2 := FrO.new (w.alloc (.cells #[.slice p l cc, .string t, .iface 180 (.bool true)] 164)) opZ nilS
    rw [World.size_alloc] at q1 q2
    rw [hW1]
    exact ⟨q1, q2⟩
  go_enter Tryz.func165, Tryz.ntmps165
  go_upto_region 1 with fail
  rw [← hW1]
  clear hW1
  have HB : Hid (BoxO W1.drew (w.heap.size + 1) opZ nilS ∧ FrO W1.drew (w.heap.size + 1)) := ⟨hB.1.drew, hB.2.drew⟩
  have b1 : Below w.heap.size w W1.drew := b0.drew
  have hz1 : w.heap.size ≤ W1.drew.heap.size := b1.size
  have hz2 : w.heap.size + 1 < W1.drew.heap.size := lt_of_cell hB.1.d0
  have cA := HC.out W1.drew b1
  have n1 : w.heap.size ≠ w.heap.size + 1 := by omega
  have hs1 : w.heap.size ≤ w.heap.size + 1 := by omega
  have HU : Hid (∀ W : World, (∀ i, W.cell? ⟨w.heap.size, i, none⟩ = W1.drew.cell? ⟨w.heap.size, i, none⟩) → W.cell? ⟨w.heap.size, 0, none⟩ = some (.slice p l cc) ∧ W.cell? ⟨w.heap.size, 1, none⟩ = some (.string t) ∧ W.cell? ⟨w.heap.size, 2, none⟩ = some (.iface 180 (.bool true))) := fun W h => ⟨(h 0).trans e0, (h 1).trans e1, (h 2).trans e2⟩
  have M0 := HU.out W1.drew (fun _ => rfl)
  have HW : Hid (∀ W, Below W1.drew.heap.size W1.drew W → ∀ i, W.cell? ⟨w.heap.size, i, none⟩ = W1.drew.cell? ⟨w.heap.size, i, none⟩) := fun W h i => World.cell?_of_block (a := ⟨w.heap.size, i, none⟩) (h.block w.heap.size (by omega))
  have HS : Hid (∀ W, Below W1.drew.heap.size W1.drew W → (∀ u0 u1 u2 u3 u4 u5 u6 : Value, ((((((((W.setCell ⟨w.heap.size + 1, 0, none⟩ u0).setCell ⟨w.heap.size + 1, 1, none⟩ u1).setCell ⟨w.heap.size + 1, 2, none⟩ u2).setCell ⟨w.heap.size + 1, 3, none⟩ u3).setCell ⟨w.heap.size + 1, 4, none⟩ u4).setCell ⟨w.heap.size + 1, 5, none⟩ u5).setCell ⟨w.heap.size + 1, 6, none⟩ u6).cell? ⟨w.heap.size, 0, none⟩ = some (.slice p l cc) ∧ (((((((W.setCell ⟨w.heap.size + 1, 0, none⟩ u0).setCell ⟨w.heap.size + 1, 1, none⟩ u1).setCell ⟨w.heap.size + 1, 2, none⟩ u2).setCell ⟨w.heap.size + 1, 3, none⟩ u3).setCell ⟨w.heap.size + 1, 4, none⟩ u4).setCell ⟨w.heap.size + 1, 5, none⟩ u5).setCell ⟨w.heap.size + 1, 6, none⟩ u6).cell? ⟨w.heap.size, 1, none⟩ = some (.string t) ∧ (((((((W.setCell ⟨w.heap.size + 1, 0, none⟩ u0).setCell ⟨w.heap.size + 1, 1, none⟩ u1).setCell ⟨w.heap.size + 1, 2, none⟩ u2).setCell ⟨w.heap.size + 1, 3, none⟩ u3).setCell ⟨w.heap.size + 1, 4, none⟩ u4).setCell ⟨w.heap.size + 1, 5, none⟩ u5).setCell ⟨w.heap.size + 1, 6, none⟩ u6).cell? ⟨w.heap.size, 2, none⟩ = some (.iface 180 (.bool true))) ∧ Below w.heap.size w (((((((W.setCell ⟨w.heap.size + 1, 0, none⟩ u0).setCell ⟨w.heap.size + 1, 1, none⟩ u1).setCell ⟨w.heap.size + 1, 2, none⟩ u2).setCell ⟨w.heap.size + 1, 3, none⟩ u3).setCell ⟨w.heap.size + 1, 4, none⟩ u4).setCell ⟨w.heap.size + 1, 5, none⟩ u5).setCell ⟨w.heap.size + 1, 6, none⟩ u6))) := fun W h u0 u1 u2 u3 u4 u5 u6 => ⟨HU.out _ (fun i => (cell_set7 (B := w.heap.size + 1) (j := i) W n1 u0 u1 u2 u3 u4 u5 u6).trans (HW.out W h i)), below_set7 (B := w.heap.size + 1) (b1.trans (h.mono hz1)) hs1 u0 u1 u2 u3 u4 u5 u6⟩
  clear hB e0 e1 e2 b0
  go_region_held3 (fun w' => (w'.cell? ⟨w.heap.size, 0, none⟩ = some (.slice p l cc) ∧ w'.cell? ⟨w.heap.size, 1, none⟩ = some (.string t) ∧ w'.cell? ⟨w.heap.size, 2, none⟩ = some (.iface 180 (.bool true))) ∧ Below w.heap.size w w')
    (first | exact ⟨by with_reducible first | assumption | exact M0 | exact MS _ _ _ _ _ _ _, by with_reducible first | assumption | exact b1 | exact BS _ _ _ _ _ _ _⟩)
    (first
      | (go_at_call 167; have hx := OA; clear hx; refine (plain_f1 wA).mono ?_; rintro r wP ⟨rfl, hP⟩; have HP' := HA'.trans (hP.mono HA'.size); have bP := b1.trans (HP'.mono hz1); have mP := HU.out wP (HW.out wP HP'); have OF : Hid (OwnA wP W1.drew.heap.size (.slice pA A.length cA') A) := owns_below OA.out hP; obtain ⟨q0, q1, q2, q3, q4, q5, q6⟩ := HB.out.1.below HP'; obtain ⟨h0, h1, h2, h3, h4, h5, h6⟩ := HB.out.2.below HB.out.1 HP'; simp only [z0] at q0 q1 q2 q3 q4 q5 q6; have MS := fun u0 u1 u2 u3 u4 u5 u6 => (HS.out wP HP' u0 u1 u2 u3 u4 u5 u6).1; have BS := fun u0 u1 u2 u3 u4 u5 u6 => (HS.out wP HP' u0 u1 u2 u3 u4 u5 u6).2)
      | (go_at_call 95; refine cA2.mono ?_; rintro r wA ⟨vA, rfl, oA, hA⟩; obtain ⟨pA, cA', rfl⟩ := own_slice oA; have HA' := HP'.trans (hA.mono HP'.size); have bA := b1.trans (HA'.mono hz1); have mA := HU.out wA (HW.out wA HA'); have OA : Hid (OwnA wA W1.drew.heap.size (.slice pA A.length cA') A) := own_weaken oA HP'.size; clear oA; have OF := OA; obtain ⟨q0, q1, q2, q3, q4, q5, q6⟩ := HB.out.1.below HA'; obtain ⟨h0, h1, h2, h3, h4, h5, h6⟩ := HB.out.2.below HB.out.1 HA'; simp only [z0] at q0 q1 q2 q3 q4 q5 q6; have MS := fun u0 u1 u2 u3 u4 u5 u6 => (HS.out wA HA' u0 u1 u2 u3 u4 u5 u6).1; have BS := fun u0 u1 u2 u3 u4 u5 u6 => (HS.out wA HA' u0 u1 u2 u3 u4 u5 u6).2)
      | (go_at_call 95; refine cA.mono ?_; rintro r wA ⟨vA, rfl, oA, hA⟩; obtain ⟨pA, cA', rfl⟩ := own_slice oA; have HA' := hA; have bA := b1.trans (HA'.mono hz1); have mA := HU.out wA (HW.out wA HA'); have OA : Hid (OwnA wA W1.drew.heap.size (.slice pA A.length cA') A) := oA; clear oA)
      | (go_at_call 167; refine (plain_f1 W1.drew).mono ?_; rintro r wP ⟨rfl, hP⟩; have HP' := hP; have bP := b1.trans (HP'.mono hz1); have mP := HU.out wP (HW.out wP HP'); have cA2 := HC.out wP bP))
  · have same : ∀ (u0 u1 u2 u3 u4 u5 u6 : Value) (v : Value) (hv : OwnA wA W1.drew.heap.size v A), OwnA (((((((wA.setCell ⟨w.heap.size + 1, 0, none⟩ u0).setCell ⟨w.heap.size + 1, 1, none⟩ u1).setCell ⟨w.heap.size + 1, 2, none⟩ u2).setCell ⟨w.heap.size + 1, 3, none⟩ u3).setCell ⟨w.heap.size + 1, 4, none⟩ u4).setCell ⟨w.heap.size + 1, 5, none⟩ u5).setCell ⟨w.heap.size + 1, 6, none⟩ u6) w.heap.size v A := fun u0 u1 u2 u3 u4 u5 u6 v hv =>
      own_weaken (owns_same hv fun k hk => by
        have := (owns_block hv k hk).1
        exact heap_set7 _ (by omega) _ _ _ _ _ _ _) hz1
    go_wp2
    exact bodyPost_ret (v := opV ⟨2, t, (1, 1, ⟨#[]⟩), 0, []⟩ (.slice pA A.length cA')) (by simp [results, Tryz.results165, go_sem, q0, q1, q2, q3, q4, q5, q6]) rfl ⟨_, rfl, same _ _ _ _ _ _ _ _ OF.out, BS _ _ _ _ _ _ _⟩

set_option maxHeartbeats 1000000 in
set_option maxRecDepth 100000 in
theorem embOp_num (z : Int) (s : Value) (A : List A2) (t : ByteArray) (w : World) (hR : RN w s A) (hl : A.length ≤ 2097152) :
    Calls Tryz.prog 165 #[.agg #[s, .string t, .iface 181 (.int .i64 z)]] w fun r w' => ∃ v', r = .returned (opV ⟨2, t, (2, z, ⟨#[]⟩), 0, []⟩ v') ∧ OwnA w' w.heap.size v' A ∧ Below w.heap.size w w' := by
  have HC : Hid (∀ W, Below w.heap.size w W → Calls Tryz.prog 95 #[.agg #[s]] W fun r w' => ∃ v', r = .returned v' ∧ OwnA w' W.heap.size v' A ∧ Below W.heap.size W w') := fun W hW => attributes_any s A W (hR.row.below hW) hR.nz hl
  obtain ⟨p, l, cc, rfl⟩ : ∃ p l c, s = .slice p l c := by obtain ⟨p, c, h, _⟩ := hR.row.val; exact ⟨_, _, _, h⟩
  clear hR hl
  obtain ⟨W1, hW1⟩ : ∃ W, W = (w.alloc (.cells #[.slice p l cc, .string t, .iface 181 (.int .i64 z)] 164)).alloc (.cells #[.int .i64 0, .string ⟨#[]⟩, .int .i64 0, .int .i64 0, .string ⟨#[]⟩, .int .i64 0, .slice none 0 0] 69) := ⟨_, rfl⟩
  have b0 : Below w.heap.size w W1 := by rw [hW1]; exact ((Below.refl _ _).alloc (Nat.le_refl _) _).alloc (by simp) _
  have e0 : W1.cell? ⟨w.heap.size, 0, none⟩ = some (.slice p l cc) := by rw [hW1]; simp
  have e1 : W1.cell? ⟨w.heap.size, 1, none⟩ = some (.string t) := by rw [hW1]; simp
  have e2 : W1.cell? ⟨w.heap.size, 2, none⟩ = some (.iface 181 (.int .i64 z)) := by rw [hW1]; simp
  have hB : BoxO W1 (w.heap.size + 1) opZ nilS ∧ FrO W1 (w.heap.size + 1) := by
    have q1 := BoxO.new (w.alloc (.cells #[.slice p l cc, .string t, .iface 181 (.int .i64 z)] 164)) opZ nilS
    have q2 := FrO.new (w.alloc (.cells #[.slice p l cc, .string t, .iface 181 (.int .i64 z)] 164)) opZ nilS
    rw [World.size_alloc] at q1 q2
    rw [hW1]
    exact ⟨q1, q2⟩
  go_enter Tryz.func165, Tryz.ntmps165
  go_upto_region 1 with fail
  rw [← hW1]
  clear hW1
  have HB : Hid (BoxO W1.drew (w.heap.size + 1) opZ nilS ∧ FrO W1.drew (w.heap.size + 1)) := ⟨hB.1.drew, hB.2.drew⟩
  have b1 : Below w.heap.size w W1.drew := b0.drew
  have hz1 : w.heap.size ≤ W1.drew.heap.size := b1.size
  have hz2 : w.heap.size + 1 < W1.drew.heap.size := lt_of_cell hB.1.d0
  have cA := HC.out W1.drew b1
  have n1 : w.heap.size ≠ w.heap.size + 1 := by omega
  have hs1 : w.heap.size ≤ w.heap.size + 1 := by omega
  have HU : Hid (∀ W : World, (∀ i, W.cell? ⟨w.heap.size, i, none⟩ = W1.drew.cell? ⟨w.heap.size, i, none⟩) → W.cell? ⟨w.heap.size, 0, none⟩ = some (.slice p l cc) ∧ W.cell? ⟨w.heap.size, 1, none⟩ = some (.string t) ∧ W.cell? ⟨w.heap.size, 2, none⟩ = some (.iface 181 (.int .i64 z))) := fun W h => ⟨(h 0).trans e0, (h 1).trans e1, (h 2).trans e2⟩
  have M0 := HU.out W1.drew (fun _ => rfl)
  have HW : Hid (∀ W, Below W1.drew.heap.size W1.drew W → ∀ i, W.cell? ⟨w.heap.size, i, none⟩ = W1.drew.cell? ⟨w.heap.size, i, none⟩) := fun W h i => World.cell?_of_block (a := ⟨w.heap.size, i, none⟩) (h.block w.heap.size (by omega))
  have HS : Hid (∀ W, Below W1.drew.heap.size W1.drew W → (∀ u0 u1 u2 u3 u4 u5 u6 : Value, ((((((((W.setCell ⟨w.heap.size + 1, 0, none⟩ u0).setCell ⟨w.heap.size + 1, 1, none⟩ u1).setCell ⟨w.heap.size + 1, 2, none⟩ u2).setCell ⟨w.heap.size + 1, 3, none⟩ u3).setCell ⟨w.heap.size + 1, 4, none⟩ u4).setCell ⟨w.heap.size + 1, 5, none⟩ u5).setCell ⟨w.heap.size + 1, 6, none⟩ u6).cell? ⟨w.heap.size, 0, none⟩ = some (.slice p l cc) ∧ (((((((W.setCell ⟨w.heap.size + 1, 0, none⟩ u0).setCell ⟨w.heap.size + 1, 1, none⟩ u1).setCell ⟨w.heap.size + 1, 2, none⟩ u2).setCell ⟨w.heap.size + 1, 3, none⟩ u3).setCell ⟨w.heap.size + 1, 4, none⟩ u4).setCell ⟨w.heap.size + 1, 5, none⟩ u5).setCell ⟨w.heap.size + 1, 6, none⟩ u6).cell? ⟨w.heap.size, 1, none⟩ = some (.string t) ∧ (((((((W.setCell ⟨w.heap.size + 1, 0, none⟩ u0).setCell ⟨w.heap.size + 1, 1, none⟩ u1).setCell ⟨w.heap.size + 1, 2, none⟩ u2).setCell ⟨w.heap.size + 1, 3, none⟩ u3).setCell ⟨w.heap.size + 1, 4, none⟩ u4).setCell ⟨w.heap.size + 1, 5, none⟩ u5).setCell ⟨w.heap.size + 1, 6, none⟩ u6).cell? ⟨w.heap.size, 2, none⟩ = some (.iface 181 (.int .i64 z))) ∧ Below w.heap.size w (((((((W.setCell ⟨w.heap.size + 1, 0, none⟩ u0).setCell ⟨w.heap.size + 1, 1, none⟩ u1).setCell ⟨w.heap.size + 1, 2, none⟩ u2).setCell ⟨w.heap.size + 1, 3, none⟩ u3).setCell ⟨w.heap.size + 1, 4, none⟩ u4).setCell ⟨w.heap.size + 1, 5, none⟩ u5).setCell ⟨w.heap.size + 1, 6, none⟩ u6))) := fun W h u0 u1 u2 u3 u4 u5 u6 => ⟨HU.out _ (fun i => (cell_set7 (B := w.heap.size + 1) (j := i) W n1 u0 u1 u2 u3 u4 u5 u6).trans (HW.out W h i)), below_set7 (B := w.heap.size + 1) (b1.trans (h.mono hz1)) hs1 u0 u1 u2 u3 u4 u5 u6⟩
  clear hB e0 e1 e2 b0
  go_region_held3 (fun w' => (w'.cell? ⟨w.heap.size, 0, none⟩ = some (.slice p l cc) ∧ w'.cell? ⟨w.heap.size, 1, none⟩ = some (.string t) ∧ w'.cell? ⟨w.heap.size, 2, none⟩ = some (.iface 181 (.int .i64 z))) ∧ Below w.heap.size w w')
    (first | exact ⟨by with_reducible first | assumption | exact M0 | exact MS _ _ _ _ _ _ _, by with_reducible first | assumption | exact b1 | exact BS _ _ _ _ _ _ _⟩)
    (first
      | (go_at_call 169; have hx := OA; clear hx; refine (plain_d z wA).mono ?_; rintro r wP ⟨rfl, hP⟩; have HP' := HA'.trans (hP.mono HA'.size); have bP := b1.trans (HP'.mono hz1); have mP := HU.out wP (HW.out wP HP'); have OF : Hid (OwnA wP W1.drew.heap.size (.slice pA A.length cA') A) := owns_below OA.out hP; obtain ⟨q0, q1, q2, q3, q4, q5, q6⟩ := HB.out.1.below HP'; obtain ⟨h0, h1, h2, h3, h4, h5, h6⟩ := HB.out.2.below HB.out.1 HP'; simp only [z0] at q0 q1 q2 q3 q4 q5 q6; have MS := fun u0 u1 u2 u3 u4 u5 u6 => (HS.out wP HP' u0 u1 u2 u3 u4 u5 u6).1; have BS := fun u0 u1 u2 u3 u4 u5 u6 => (HS.out wP HP' u0 u1 u2 u3 u4 u5 u6).2)
      | (go_at_call 95; refine cA2.mono ?_; rintro r wA ⟨vA, rfl, oA, hA⟩; obtain ⟨pA, cA', rfl⟩ := own_slice oA; have HA' := HP'.trans (hA.mono HP'.size); have bA := b1.trans (HA'.mono hz1); have mA := HU.out wA (HW.out wA HA'); have OA : Hid (OwnA wA W1.drew.heap.size (.slice pA A.length cA') A) := own_weaken oA HP'.size; clear oA; have OF := OA; obtain ⟨q0, q1, q2, q3, q4, q5, q6⟩ := HB.out.1.below HA'; obtain ⟨h0, h1, h2, h3, h4, h5, h6⟩ := HB.out.2.below HB.out.1 HA'; simp only [z0] at q0 q1 q2 q3 q4 q5 q6; have MS := fun u0 u1 u2 u3 u4 u5 u6 => (HS.out wA HA' u0 u1 u2 u3 u4 u5 u6).1; have BS := fun u0 u1 u2 u3 u4 u5 u6 => (HS.out wA HA' u0 u1 u2 u3 u4 u5 u6).2)
      | (go_at_call 95; refine cA.mono ?_; rintro r wA ⟨vA, rfl, oA, hA⟩; obtain ⟨pA, cA', rfl⟩ := own_slice oA; have HA' := hA; have bA := b1.trans (HA'.mono hz1); have mA := HU.out wA (HW.out wA HA'); have OA : Hid (OwnA wA W1.drew.heap.size (.slice pA A.length cA') A) := oA; clear oA)
      | (go_at_call 169; refine (plain_d z W1.drew).mono ?_; rintro r wP ⟨rfl, hP⟩; have HP' := hP; have bP := b1.trans (HP'.mono hz1); have mP := HU.out wP (HW.out wP HP'); have cA2 := HC.out wP bP))
  · have same : ∀ (u0 u1 u2 u3 u4 u5 u6 : Value) (v : Value) (hv : OwnA wA W1.drew.heap.size v A), OwnA (((((((wA.setCell ⟨w.heap.size + 1, 0, none⟩ u0).setCell ⟨w.heap.size + 1, 1, none⟩ u1).setCell ⟨w.heap.size + 1, 2, none⟩ u2).setCell ⟨w.heap.size + 1, 3, none⟩ u3).setCell ⟨w.heap.size + 1, 4, none⟩ u4).setCell ⟨w.heap.size + 1, 5, none⟩ u5).setCell ⟨w.heap.size + 1, 6, none⟩ u6) w.heap.size v A := fun u0 u1 u2 u3 u4 u5 u6 v hv =>
      own_weaken (owns_same hv fun k hk => by
        have := (owns_block hv k hk).1
        exact heap_set7 _ (by omega) _ _ _ _ _ _ _) hz1
    go_wp2
    exact bodyPost_ret (v := opV ⟨2, t, (2, z, ⟨#[]⟩), 0, []⟩ (.slice pA A.length cA')) (by simp [results, Tryz.results165, go_sem, q0, q1, q2, q3, q4, q5, q6]) rfl ⟨_, rfl, same _ _ _ _ _ _ _ _ OF.out, BS _ _ _ _ _ _ _⟩

set_option maxHeartbeats 1000000 in
set_option maxRecDepth 100000 in
theorem embOp_text (y : ByteArray) (s : Value) (A : List A2) (t : ByteArray) (w : World) (hR : RN w s A) (hl : A.length ≤ 2097152) :
    Calls Tryz.prog 165 #[.agg #[s, .string t, .iface 182 (.string y)]] w fun r w' => ∃ v', r = .returned (opV ⟨2, t, (3, 0, y), 0, []⟩ v') ∧ OwnA w' w.heap.size v' A ∧ Below w.heap.size w w' := by
  have HC : Hid (∀ W, Below w.heap.size w W → Calls Tryz.prog 95 #[.agg #[s]] W fun r w' => ∃ v', r = .returned v' ∧ OwnA w' W.heap.size v' A ∧ Below W.heap.size W w') := fun W hW => attributes_any s A W (hR.row.below hW) hR.nz hl
  obtain ⟨p, l, cc, rfl⟩ : ∃ p l c, s = .slice p l c := by obtain ⟨p, c, h, _⟩ := hR.row.val; exact ⟨_, _, _, h⟩
  clear hR hl
  obtain ⟨W1, hW1⟩ : ∃ W, W = (w.alloc (.cells #[.slice p l cc, .string t, .iface 182 (.string y)] 164)).alloc (.cells #[.int .i64 0, .string ⟨#[]⟩, .int .i64 0, .int .i64 0, .string ⟨#[]⟩, .int .i64 0, .slice none 0 0] 69) := ⟨_, rfl⟩
  have b0 : Below w.heap.size w W1 := by rw [hW1]; exact ((Below.refl _ _).alloc (Nat.le_refl _) _).alloc (by simp) _
  have e0 : W1.cell? ⟨w.heap.size, 0, none⟩ = some (.slice p l cc) := by rw [hW1]; simp
  have e1 : W1.cell? ⟨w.heap.size, 1, none⟩ = some (.string t) := by rw [hW1]; simp
  have e2 : W1.cell? ⟨w.heap.size, 2, none⟩ = some (.iface 182 (.string y)) := by rw [hW1]; simp
  have hB : BoxO W1 (w.heap.size + 1) opZ nilS ∧ FrO W1 (w.heap.size + 1) := by
    have q1 := BoxO.new (w.alloc (.cells #[.slice p l cc, .string t, .iface 182 (.string y)] 164)) opZ nilS
    have q2 := FrO.new (w.alloc (.cells #[.slice p l cc, .string t, .iface 182 (.string y)] 164)) opZ nilS
    rw [World.size_alloc] at q1 q2
    rw [hW1]
    exact ⟨q1, q2⟩
  go_enter Tryz.func165, Tryz.ntmps165
  go_upto_region 1 with fail
  rw [← hW1]
  clear hW1
  have HB : Hid (BoxO W1.drew (w.heap.size + 1) opZ nilS ∧ FrO W1.drew (w.heap.size + 1)) := ⟨hB.1.drew, hB.2.drew⟩
  have b1 : Below w.heap.size w W1.drew := b0.drew
  have hz1 : w.heap.size ≤ W1.drew.heap.size := b1.size
  have hz2 : w.heap.size + 1 < W1.drew.heap.size := lt_of_cell hB.1.d0
  have cA := HC.out W1.drew b1
  have n1 : w.heap.size ≠ w.heap.size + 1 := by omega
  have hs1 : w.heap.size ≤ w.heap.size + 1 := by omega
  have HU : Hid (∀ W : World, (∀ i, W.cell? ⟨w.heap.size, i, none⟩ = W1.drew.cell? ⟨w.heap.size, i, none⟩) → W.cell? ⟨w.heap.size, 0, none⟩ = some (.slice p l cc) ∧ W.cell? ⟨w.heap.size, 1, none⟩ = some (.string t) ∧ W.cell? ⟨w.heap.size, 2, none⟩ = some (.iface 182 (.string y))) := fun W h => ⟨(h 0).trans e0, (h 1).trans e1, (h 2).trans e2⟩
  have M0 := HU.out W1.drew (fun _ => rfl)
  have HW : Hid (∀ W, Below W1.drew.heap.size W1.drew W → ∀ i, W.cell? ⟨w.heap.size, i, none⟩ = W1.drew.cell? ⟨w.heap.size, i, none⟩) := fun W h i => World.cell?_of_block (a := ⟨w.heap.size, i, none⟩) (h.block w.heap.size (by omega))
  have HS : Hid (∀ W, Below W1.drew.heap.size W1.drew W → (∀ u0 u1 u2 u3 u4 u5 u6 : Value, ((((((((W.setCell ⟨w.heap.size + 1, 0, none⟩ u0).setCell ⟨w.heap.size + 1, 1, none⟩ u1).setCell ⟨w.heap.size + 1, 2, none⟩ u2).setCell ⟨w.heap.size + 1, 3, none⟩ u3).setCell ⟨w.heap.size + 1, 4, none⟩ u4).setCell ⟨w.heap.size + 1, 5, none⟩ u5).setCell ⟨w.heap.size + 1, 6, none⟩ u6).cell? ⟨w.heap.size, 0, none⟩ = some (.slice p l cc) ∧ (((((((W.setCell ⟨w.heap.size + 1, 0, none⟩ u0).setCell ⟨w.heap.size + 1, 1, none⟩ u1).setCell ⟨w.heap.size + 1, 2, none⟩ u2).setCell ⟨w.heap.size + 1, 3, none⟩ u3).setCell ⟨w.heap.size + 1, 4, none⟩ u4).setCell ⟨w.heap.size + 1, 5, none⟩ u5).setCell ⟨w.heap.size + 1, 6, none⟩ u6).cell? ⟨w.heap.size, 1, none⟩ = some (.string t) ∧ (((((((W.setCell ⟨w.heap.size + 1, 0, none⟩ u0).setCell ⟨w.heap.size + 1, 1, none⟩ u1).setCell ⟨w.heap.size + 1, 2, none⟩ u2).setCell ⟨w.heap.size + 1, 3, none⟩ u3).setCell ⟨w.heap.size + 1, 4, none⟩ u4).setCell ⟨w.heap.size + 1, 5, none⟩ u5).setCell ⟨w.heap.size + 1, 6, none⟩ u6).cell? ⟨w.heap.size, 2, none⟩ = some (.iface 182 (.string y))) ∧ Below w.heap.size w (((((((W.setCell ⟨w.heap.size + 1, 0, none⟩ u0).setCell ⟨w.heap.size + 1, 1, none⟩ u1).setCell ⟨w.heap.size + 1, 2, none⟩ u2).setCell ⟨w.heap.size + 1, 3, none⟩ u3).setCell ⟨w.heap.size + 1, 4, none⟩ u4).setCell ⟨w.heap.size + 1, 5, none⟩ u5).setCell ⟨w.heap.size + 1, 6, none⟩ u6))) := fun W h u0 u1 u2 u3 u4 u5 u6 => ⟨HU.out _ (fun i => (cell_set7 (B := w.heap.size + 1) (j := i) W n1 u0 u1 u2 u3 u4 u5 u6).trans (HW.out W h i)), below_set7 (B := w.heap.size + 1) (b1.trans (h.mono hz1)) hs1 u0 u1 u2 u3 u4 u5 u6⟩
  clear hB e0 e1 e2 b0
  go_region_held3 (fun w' => (w'.cell? ⟨w.heap.size, 0, none⟩ = some (.slice p l cc) ∧ w'.cell? ⟨w.heap.size, 1, none⟩ = some (.string t) ∧ w'.cell? ⟨w.heap.size, 2, none⟩ = some (.iface 182 (.string y))) ∧ Below w.heap.size w w')
    (first | exact ⟨by with_reducible first | assumption | exact M0 | exact MS _ _ _ _ _ _ _, by with_reducible first | assumption | exact b1 | exact BS _ _ _ _ _ _ _⟩)
    (first
      | (go_at_call 171; have hx := OA; clear hx; refine (plain_t y wA).mono ?_; rintro r wP ⟨rfl, hP⟩; have HP' := HA'.trans (hP.mono HA'.size); have bP := b1.trans (HP'.mono hz1); have mP := HU.out wP (HW.out wP HP'); have OF : Hid (OwnA wP W1.drew.heap.size (.slice pA A.length cA') A) := owns_below OA.out hP; obtain ⟨q0, q1, q2, q3, q4, q5, q6⟩ := HB.out.1.below HP'; obtain ⟨h0, h1, h2, h3, h4, h5, h6⟩ := HB.out.2.below HB.out.1 HP'; simp only [z0] at q0 q1 q2 q3 q4 q5 q6; have MS := fun u0 u1 u2 u3 u4 u5 u6 => (HS.out wP HP' u0 u1 u2 u3 u4 u5 u6).1; have BS := fun u0 u1 u2 u3 u4 u5 u6 => (HS.out wP HP' u0 u1 u2 u3 u4 u5 u6).2)
      | (go_at_call 95; refine cA2.mono ?_; rintro r wA ⟨vA, rfl, oA, hA⟩; obtain ⟨pA, cA', rfl⟩ := own_slice oA; have HA' := HP'.trans (hA.mono HP'.size); have bA := b1.trans (HA'.mono hz1); have mA := HU.out wA (HW.out wA HA'); have OA : Hid (OwnA wA W1.drew.heap.size (.slice pA A.length cA') A) := own_weaken oA HP'.size; clear oA; have OF := OA; obtain ⟨q0, q1, q2, q3, q4, q5, q6⟩ := HB.out.1.below HA'; obtain ⟨h0, h1, h2, h3, h4, h5, h6⟩ := HB.out.2.below HB.out.1 HA'; simp only [z0] at q0 q1 q2 q3 q4 q5 q6; have MS := fun u0 u1 u2 u3 u4 u5 u6 => (HS.out wA HA' u0 u1 u2 u3 u4 u5 u6).1; have BS := fun u0 u1 u2 u3 u4 u5 u6 => (HS.out wA HA' u0 u1 u2 u3 u4 u5 u6).2)
      | (go_at_call 95; refine cA.mono ?_; rintro r wA ⟨vA, rfl, oA, hA⟩; obtain ⟨pA, cA', rfl⟩ := own_slice oA; have HA' := hA; have bA := b1.trans (HA'.mono hz1); have mA := HU.out wA (HW.out wA HA'); have OA : Hid (OwnA wA W1.drew.heap.size (.slice pA A.length cA') A) := oA; clear oA)
      | (go_at_call 171; refine (plain_t y W1.drew).mono ?_; rintro r wP ⟨rfl, hP⟩; have HP' := hP; have bP := b1.trans (HP'.mono hz1); have mP := HU.out wP (HW.out wP HP'); have cA2 := HC.out wP bP))
  · have same : ∀ (u0 u1 u2 u3 u4 u5 u6 : Value) (v : Value) (hv : OwnA wA W1.drew.heap.size v A), OwnA (((((((wA.setCell ⟨w.heap.size + 1, 0, none⟩ u0).setCell ⟨w.heap.size + 1, 1, none⟩ u1).setCell ⟨w.heap.size + 1, 2, none⟩ u2).setCell ⟨w.heap.size + 1, 3, none⟩ u3).setCell ⟨w.heap.size + 1, 4, none⟩ u4).setCell ⟨w.heap.size + 1, 5, none⟩ u5).setCell ⟨w.heap.size + 1, 6, none⟩ u6) w.heap.size v A := fun u0 u1 u2 u3 u4 u5 u6 v hv =>
      own_weaken (owns_same hv fun k hk => by
        have := (owns_block hv k hk).1
        exact heap_set7 _ (by omega) _ _ _ _ _ _ _) hz1
    go_wp2
    exact bodyPost_ret (v := opV ⟨2, t, (3, 0, y), 0, []⟩ (.slice pA A.length cA')) (by simp [results, Tryz.results165, go_sem, q0, q1, q2, q3, q4, q5, q6]) rfl ⟨_, rfl, same _ _ _ _ _ _ _ _ OF.out, BS _ _ _ _ _ _ _⟩
end Go.Proofs.YtalfdjglbbmjcabGreatDoor

/- What the methods Op of pieces answer. -/
namespace Go.Proofs.YtalfdjglbbmjcabGreatDoor
open Go Go.RowKit Go.Lib
set_option linter.unusedVariables false

set_option maxHeartbeats 1000000 in
set_option maxRecDepth 100000 in
theorem retOp (s : Value) (A : List A2) (n : Int) (w : World) (hR : RN w s A) (hl : A.length ≤ 2097152) :
    Calls Tryz.prog 161 #[.agg #[s, .int .i64 n]] w fun r w' => ∃ v', r = .returned (opV ⟨3, ⟨#[]⟩, z0, n, []⟩ v') ∧ OwnA w' w.heap.size v' A ∧ Below w.heap.size w w' := by
  have HC : Hid (∀ W, Below w.heap.size w W → Calls Tryz.prog 95 #[.agg #[s]] W fun r w' => ∃ v', r = .returned v' ∧ OwnA w' W.heap.size v' A ∧ Below W.heap.size W w') := fun W hW => attributes_any s A W (hR.row.below hW) hR.nz hl
  obtain ⟨p, l, cc, rfl⟩ : ∃ p l c, s = .slice p l c := by obtain ⟨p, c, h, _⟩ := hR.row.val; exact ⟨_, _, _, h⟩
  clear hR hl
  obtain ⟨W1, hW1⟩ : ∃ W, W = (w.alloc (.cells #[.slice p l cc, .int .i64 n] 142)).alloc (.cells #[.int .i64 0, .string ⟨#[]⟩, .int .i64 0, .int .i64 0, .string ⟨#[]⟩, .int .i64 0, .slice none 0 0] 69) := ⟨_, rfl⟩
  have b0 : Below w.heap.size w W1 := by rw [hW1]; exact ((Below.refl _ _).alloc (Nat.le_refl _) _).alloc (by simp) _
  have e0 : W1.cell? ⟨w.heap.size, 0, none⟩ = some (.slice p l cc) := by rw [hW1]; simp
  have e1 : W1.cell? ⟨w.heap.size, 1, none⟩ = some (.int .i64 n) := by rw [hW1]; simp
  have hB : BoxO W1 (w.heap.size + 1) opZ nilS ∧ FrO W1 (w.heap.size + 1) := by
    have q1 := BoxO.new (w.alloc (.cells #[.slice p l cc, .int .i64 n] 142)) opZ nilS
    have q2 := FrO.new (w.alloc (.cells #[.slice p l cc, .int .i64 n] 142)) opZ nilS
    rw [World.size_alloc] at q1 q2
    rw [hW1]
    exact ⟨q1, q2⟩
  go_enter Tryz.func161, Tryz.ntmps161
  go_upto_region 1 with fail
  rw [← hW1]
  clear hW1
  have HB : Hid (BoxO W1.drew (w.heap.size + 1) opZ nilS ∧ FrO W1.drew (w.heap.size + 1)) := ⟨hB.1.drew, hB.2.drew⟩
  have b1 : Below w.heap.size w W1.drew := b0.drew
  have hz1 : w.heap.size ≤ W1.drew.heap.size := b1.size
  have hz2 : w.heap.size + 1 < W1.drew.heap.size := lt_of_cell hB.1.d0
  have cA := HC.out W1.drew b1
  have n1 : w.heap.size ≠ w.heap.size + 1 := by omega
  have hs1 : w.heap.size ≤ w.heap.size + 1 := by omega
  have HU : Hid (∀ W : World, (∀ i, W.cell? ⟨w.heap.size, i, none⟩ = W1.drew.cell? ⟨w.heap.size, i, none⟩) → W.cell? ⟨w.heap.size, 0, none⟩ = some (.slice p l cc) ∧ W.cell? ⟨w.heap.size, 1, none⟩ = some (.int .i64 n)) := fun W h => ⟨(h 0).trans e0, (h 1).trans e1⟩
  have M0 := HU.out W1.drew (fun _ => rfl)
  have HW : Hid (∀ W, Below W1.drew.heap.size W1.drew W → ∀ i, W.cell? ⟨w.heap.size, i, none⟩ = W1.drew.cell? ⟨w.heap.size, i, none⟩) := fun W h i => World.cell?_of_block (a := ⟨w.heap.size, i, none⟩) (h.block w.heap.size (by omega))
  have HS : Hid (∀ W, Below W1.drew.heap.size W1.drew W → (∀ u0 u1 u2 u3 u4 u5 u6 : Value, ((((((((W.setCell ⟨w.heap.size + 1, 0, none⟩ u0).setCell ⟨w.heap.size + 1, 1, none⟩ u1).setCell ⟨w.heap.size + 1, 2, none⟩ u2).setCell ⟨w.heap.size + 1, 3, none⟩ u3).setCell ⟨w.heap.size + 1, 4, none⟩ u4).setCell ⟨w.heap.size + 1, 5, none⟩ u5).setCell ⟨w.heap.size + 1, 6, none⟩ u6).cell? ⟨w.heap.size, 0, none⟩ = some (.slice p l cc) ∧ (((((((W.setCell ⟨w.heap.size + 1, 0, none⟩ u0).setCell ⟨w.heap.size + 1, 1, none⟩ u1).setCell ⟨w.heap.size + 1, 2, none⟩ u2).setCell ⟨w.heap.size + 1, 3, none⟩ u3).setCell ⟨w.heap.size + 1, 4, none⟩ u4).setCell ⟨w.heap.size + 1, 5, none⟩ u5).setCell ⟨w.heap.size + 1, 6, none⟩ u6).cell? ⟨w.heap.size, 1, none⟩ = some (.int .i64 n)) ∧ Below w.heap.size w (((((((W.setCell ⟨w.heap.size + 1, 0, none⟩ u0).setCell ⟨w.heap.size + 1, 1, none⟩ u1).setCell ⟨w.heap.size + 1, 2, none⟩ u2).setCell ⟨w.heap.size + 1, 3, none⟩ u3).setCell ⟨w.heap.size + 1, 4, none⟩ u4).setCell ⟨w.heap.size + 1, 5, none⟩ u5).setCell ⟨w.heap.size + 1, 6, none⟩ u6))) := fun W h u0 u1 u2 u3 u4 u5 u6 => ⟨HU.out _ (fun i => (cell_set7 (B := w.heap.size + 1) (j := i) W n1 u0 u1 u2 u3 u4 u5 u6).trans (HW.out W h i)), below_set7 (B := w.heap.size + 1) (b1.trans (h.mono hz1)) hs1 u0 u1 u2 u3 u4 u5 u6⟩
  clear hB e0 e1 b0
  go_region_held3 (fun w' => (w'.cell? ⟨w.heap.size, 0, none⟩ = some (.slice p l cc) ∧ w'.cell? ⟨w.heap.size, 1, none⟩ = some (.int .i64 n)) ∧ Below w.heap.size w w')
    (first | exact ⟨by with_reducible first | assumption | exact M0 | exact MS _ _ _ _ _ _ _, by with_reducible first | assumption | exact b1 | exact BS _ _ _ _ _ _ _⟩)
    (first
      | (go_at_call 95; refine cA.mono ?_; rintro r wA ⟨vA, rfl, oA, hA⟩; obtain ⟨pA, cA', rfl⟩ := own_slice oA; have HA' := hA; have bA := b1.trans (HA'.mono hz1); have mA := HU.out wA (HW.out wA HA'); have OA : Hid (OwnA wA W1.drew.heap.size (.slice pA A.length cA') A) := oA; clear oA; obtain ⟨q0, q1, q2, q3, q4, q5, q6⟩ := HB.out.1.below HA'; obtain ⟨h0, h1, h2, h3, h4, h5, h6⟩ := HB.out.2.below HB.out.1 HA'; simp only [z0] at q0 q1 q2 q3 q4 q5 q6; have MS := fun u0 u1 u2 u3 u4 u5 u6 => (HS.out wA HA' u0 u1 u2 u3 u4 u5 u6).1; have BS := fun u0 u1 u2 u3 u4 u5 u6 => (HS.out wA HA' u0 u1 u2 u3 u4 u5 u6).2))
  · have same : ∀ (u0 u1 u2 u3 u4 u5 u6 : Value) (v : Value) (hv : OwnA wA W1.drew.heap.size v A), OwnA (((((((wA.setCell ⟨w.heap.size + 1, 0, none⟩ u0).setCell ⟨w.heap.size + 1, 1, none⟩ u1).setCell ⟨w.heap.size + 1, 2, none⟩ u2).setCell ⟨w.heap.size + 1, 3, none⟩ u3).setCell ⟨w.heap.size + 1, 4, none⟩ u4).setCell ⟨w.heap.size + 1, 5, none⟩ u5).setCell ⟨w.heap.size + 1, 6, none⟩ u6) w.heap.size v A := fun u0 u1 u2 u3 u4 u5 u6 v hv =>
      own_weaken (owns_same hv fun k hk => by
        have := (owns_block hv k hk).1
        exact heap_set7 _ (by omega) _ _ _ _ _ _ _) hz1
    go_wp2
    exact bodyPost_ret (v := opV ⟨3, ⟨#[]⟩, z0, n, []⟩ (.slice pA A.length cA')) (by simp [results, Tryz.results161, go_sem, z0, q0, q1, q2, q3, q4, q5, q6]) rfl ⟨_, rfl, same _ _ _ _ _ _ _ _ OA.out, BS _ _ _ _ _ _ _⟩

set_option maxHeartbeats 1000000 in
theorem delOp (n : Int) (w : World) :
    Calls Tryz.prog 159 #[.agg #[.int .i64 n]] w fun r w' => r = .returned (opV ⟨4, ⟨#[]⟩, z0, n, []⟩ (.slice none 0 0)) ∧ Below w.heap.size w w' := by
  go_enter Tryz.func159, Tryz.ntmps159
  go_wp2
  exact bodyPost_ret (v := opV ⟨4, ⟨#[]⟩, z0, n, []⟩ (.slice none 0 0)) (by simp [results, Tryz.results159, go_sem, z0]) rfl ⟨rfl, by go_grown⟩
theorem embOp_any (s : Value) (A : List A2) (t : ByteArray) (v : P3) (w : World) (hv : chkP v = 0) (hR : RN w s A) (hl : A.length ≤ 2097152) :
    Calls Tryz.prog 165 #[.agg #[s, .string t, valP v]] w fun r w' => ∃ v', r = .returned (opV ⟨2, t, v, 0, []⟩ v') ∧ OwnA w' w.heap.size v' A ∧ Below w.heap.size w w' := by
  obtain ⟨x, z, u⟩ := v
  rcases good_cases hv with ⟨rfl, rfl, rfl⟩ | ⟨rfl, rfl, rfl⟩ | ⟨rfl, rfl, rfl⟩ | ⟨rfl, rfl⟩ | ⟨rfl, rfl, _⟩
  · exact embOp_null s A t w hR hl
  · exact embOp_flag0 s A t w hR hl
  · exact embOp_flag1 s A t w hR hl
  · exact embOp_num z s A t w hR hl
  · exact embOp_text u s A t w hR hl
theorem opQ_1 {e : Op5} (hg : opE e = 0) (hk : e.k = 1) (s : Value) (w : World) (hR : RN w s e.A) (hl : e.A.length ≤ 2097152) :
    Calls Tryz.prog 163 #[.agg #[s, .string e.t, .int .i64 (scs e.t.data.toList).length]] w fun r w' => ∃ v', r = .returned (opV e v') ∧ OwnA w' w.heap.size v' e.A ∧ Below w.heap.size w w' := by
  refine (insOp s e.A e.t _ w hR hl).mono fun r w' ⟨v', h1, h2, h3⟩ => ⟨v', ?_, h2, h3⟩
  rw [h1]
  rcases op_good hg with ⟨hi, _⟩ | ⟨_, _, h⟩ | ⟨_, _, h⟩
  · have hc := hi.count
    rcases hi.kind with ⟨_, hv⟩ | ⟨h2, _⟩
    · obtain ⟨k, t, v, c, A⟩ := e
      simp only at hk hv hc
      subst hk hv hc
      rfl
    · omega
  · omega
  · omega
theorem opQ_2 {e : Op5} (hg : opE e = 0) (hk : e.k = 2) (s : Value) (w : World) (hR : RN w s e.A) (hl : e.A.length ≤ 2097152) :
    Calls Tryz.prog 165 #[.agg #[s, .string e.t, valP e.v]] w fun r w' => ∃ v', r = .returned (opV e v') ∧ OwnA w' w.heap.size v' e.A ∧ Below w.heap.size w w' := by
  rcases op_good hg with ⟨hi, _⟩ | ⟨_, _, h⟩ | ⟨_, _, h⟩
  · refine (embOp_any s e.A e.t e.v w hi.val hR hl).mono fun r w' ⟨v', h1, h2, h3⟩ => ⟨v', ?_, h2, h3⟩
    rw [h1]
    have hc := hi.count
    obtain ⟨k, t, v, c, A⟩ := e
    simp only at hk hc
    subst hk hc
    rfl
  · omega
  · omega
theorem cnt_flds {e : Op5} (h : Cnt e) : e.t = ⟨#[]⟩ ∧ e.v = z0 := by
  refine ⟨?_, h.val⟩
  have := h.text
  have h0 : e.t.toList = [] := List.isEmpty_iff.1 this
  rw [toList_data] at h0
  exact ByteArray.ext (Array.ext' h0)
theorem opQ_3 {e : Op5} (hg : opE e = 0) (hk : e.k = 3) (s : Value) (w : World) (hR : RN w s e.A) (hl : e.A.length ≤ 2097152) :
    Calls Tryz.prog 161 #[.agg #[s, .int .i64 e.c]] w fun r w' => ∃ v', r = .returned (opV e v') ∧ OwnA w' w.heap.size v' e.A ∧ Below w.heap.size w w' := by
  refine (retOp s e.A e.c w hR hl).mono fun r w' ⟨v', h1, h2, h3⟩ => ⟨v', ?_, h2, h3⟩
  rw [h1]
  rcases op_good hg with ⟨_, h⟩ | ⟨hc, _, _⟩ | ⟨_, _, h⟩
  · omega
  · obtain ⟨ht, hv⟩ := cnt_flds hc
    obtain ⟨k, t, v, c, A⟩ := e
    simp only at hk ht hv
    subst hk ht hv
    rfl
  · omega
theorem opQ_4 {e : Op5} (hg : opE e = 0) (hk : e.k = 4) (w : World) :
    Calls Tryz.prog 159 #[.agg #[.int .i64 e.c]] w fun r w' => ∃ v', r = .returned (opV e v') ∧ OwnA w' w.heap.size v' e.A ∧ Below w.heap.size w w' := by
  refine (delOp e.c w).mono fun r w' ⟨h1, h3⟩ => ⟨.slice none 0 0, ?_, ?_, h3⟩
  · rw [h1]
    rcases op_good hg with ⟨_, h⟩ | ⟨_, _, h⟩ | ⟨hc, _, _⟩
    · omega
    · omega
    · obtain ⟨ht, hv⟩ := cnt_flds hc
      obtain ⟨k, t, v, c, A⟩ := e
      simp only at hk ht hv
      subst hk ht hv
      rfl
  · rw [drop_A hg hk]; exact ⟨rfl, Or.inl ⟨rfl, rfl⟩⟩
end Go.Proofs.YtalfdjglbbmjcabGreatDoor
