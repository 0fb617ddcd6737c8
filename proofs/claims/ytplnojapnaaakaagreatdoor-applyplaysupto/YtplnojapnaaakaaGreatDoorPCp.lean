/- content.Of: an insert as a piece. -/
import Derived.Test.YtplnojapnaaakaaGreatDoorPCf
namespace Go.Proofs.YtplnojapnaaakaaGreatDoor
open Go Go.RowKit Go.Lib
set_option linter.unusedVariables false
/-- A row of pairs whose nil is empty. -/
structure RN (w : World) (v : Value) (A : List A2) : Prop where
  row : RowA w v A
  nz : ∀ m c, v = .slice none m c → m = 0 ∧ c = 0
theorem RN.below {w w' : World} {v : Value} {A : List A2} (h : RN w v A) (b : Below w.heap.size w w') : RN w' v A := ⟨h.row.below b, h.nz⟩
theorem own_RN {w : World} {B : Nat} {v : Value} {A : List A2} (h : OwnA w B v A) : RN w v A := ⟨own_rowA h, own_nil h⟩
theorem RN.nil (w : World) : RN w (.slice none 0 0) [] := ⟨RowA.nil _ _ _, fun m c h => by simp only [Value.slice.injEq] at h; exact ⟨h.2.1.symm, h.2.2.symm⟩⟩
/-- An operation that isn't too great. -/
structure Fit (o : Op5) : Prop where
  t : o.t.size ≤ 8388608
  v : o.v.2.2.size ≤ 1048576
  A : ∀ q ∈ o.A, q.1.size ≤ 1048576 ∧ q.2.2.2.size ≤ 1048576
  n : o.A.length ≤ 1048576
theorem Fit.small {o : Op5} (h : Fit o) : Small o.A := fun q hq => by have := h.A q hq; unfold big; omega
/-- An operation in memory. -/
structure BoxO (w : World) (B : Nat) (o : Op5) (s : Value) : Prop where
  d0 : w.cell? ⟨B, 0, none⟩ = some (.int .i64 o.k)
  d1 : w.cell? ⟨B, 1, none⟩ = some (.string o.t)
  d2 : w.cell? ⟨B, 2, none⟩ = some (.int .i64 o.v.1)
  d3 : w.cell? ⟨B, 3, none⟩ = some (.int .i64 o.v.2.1)
  d4 : w.cell? ⟨B, 4, none⟩ = some (.string o.v.2.2)
  d5 : w.cell? ⟨B, 5, none⟩ = some (.int .i64 o.c)
  d6 : w.cell? ⟨B, 6, none⟩ = some s
theorem BoxO.below {w w' : World} {B : Nat} {o : Op5} {s : Value} (h : BoxO w B o s) (b : Below w.heap.size w w') : BoxO w' B o s :=
  ⟨(b.cell (lt_of_cell h.d0)).trans h.d0, (b.cell (lt_of_cell h.d1)).trans h.d1, (b.cell (lt_of_cell h.d2)).trans h.d2, (b.cell (lt_of_cell h.d3)).trans h.d3, (b.cell (lt_of_cell h.d4)).trans h.d4, (b.cell (lt_of_cell h.d5)).trans h.d5, (b.cell (lt_of_cell h.d6)).trans h.d6⟩
theorem BoxO.drew {w : World} {B : Nat} {o : Op5} {s : Value} (h : BoxO w B o s) : BoxO w.drew B o s := ⟨h.d0, h.d1, h.d2, h.d3, h.d4, h.d5, h.d6⟩
theorem BoxO.new (w : World) (o : Op5) (s : Value) : BoxO (w.alloc (.cells (opC o s) 33)) w.heap.size o s := ⟨by simp [opC], by simp [opC], by simp [opC], by simp [opC], by simp [opC], by simp [opC], by simp [opC]⟩
abbrev pieceV (o : Op5) (s : Value) : Value :=
  if o.k = 1 then .iface 183 (.agg #[s, .string o.t, .int .i64 (scs o.t.data.toList).length]) else .iface 187 (.agg #[s, .string o.t, valP o.v])

theorem valP_if (p : P3) : ∃ u x, valP p = .iface u x := by
  unfold valP valOf
  split
  · exact ⟨_, _, rfl⟩
  · split
    · exact ⟨_, _, rfl⟩
    · split <;> exact ⟨_, _, rfl⟩
theorem IW_v {I : List Nat} (hI : ∀ i ∈ IW, i ∈ I) : ∀ i ∈ [0, 4, 9], i ∈ I := fun i hi => hI i (by simp at hi ⊢; omega)
theorem IW_x {I : List Nat} (hI : ∀ i ∈ IW, i ∈ I) : ∀ i ∈ IX, i ∈ I := fun i hi => hI i (by simp at hi ⊢; omega)
/-- What Of asks of the calls that it makes, from a world on. -/
structure OfC (a : Nat → Addr) (o : Op5) (s : Value) (w : World) : Prop where
  c1 : ∀ W, Below w.heap.size w W → Calls Tryz.prog 148 #[opV o s] W fun r w' => r = .returned (errOf a (fldE o)) ∧ Below W.heap.size W w'
  l1 : ∀ W, Below w.heap.size w W → brk o.t.data.toList ≠ o.t.size → Calls Tryz.prog 149 #[.string o.t] W fun e w' => e = .returned (.tuple #[.int .i64 0, errV a 0]) ∧ Below W.heap.size W w'
  l0 : ∀ W, Below w.heap.size w W → brk o.t.data.toList = o.t.size → Calls Tryz.prog 149 #[.string o.t] W fun e w' => e = .returned (.tuple #[.int .i64 (scs o.t.data.toList).length, .nilIface]) ∧ Below W.heap.size W w'
  v1 : ∀ W e', Below w.heap.size w W → chkP o.v = e' + 1 → Calls Tryz.prog 150 #[pl o.v.1 o.v.2.1 o.v.2.2] W fun r w' => r = .returned (.tuple #[.nilIface, errV a e']) ∧ Below W.heap.size W w'
  v0 : ∀ W, Below w.heap.size w W → chkP o.v = 0 → Calls Tryz.prog 150 #[pl o.v.1 o.v.2.1 o.v.2.2] W fun r w' => r = .returned (.tuple #[valP o.v, .nilIface]) ∧ Below W.heap.size W w'
  a1 : ∀ W e', Below w.heap.size w W → listE false none o.A = e' + 1 → Calls Tryz.prog 112 #[s, .slice none 0 0] W fun r w' => r = .returned (.tuple #[.slice none 0 0, errV a e']) ∧ Below W.heap.size W w'
  a0 : ∀ W, Below w.heap.size w W → listE false none o.A = 0 → Calls Tryz.prog 112 #[s, .slice none 0 0] W fun r w' => ∃ v', r = .returned (.tuple #[v', .nilIface]) ∧ OwnA w' W.heap.size v' o.A ∧ Below W.heap.size W w'
  cl : ∀ W, Calls Tryz.prog 151 #[.string o.t] W fun e w' => e = .returned (.string o.t) ∧ Below W.heap.size W w'
theorem ofC {I : List Nat} {a : Nat → Addr} (o : Op5) (s : Value) (w : World) (hI : ∀ i ∈ IW, i ∈ I) (hS : Std I a w) (hR : RN w s o.A) (hF : Fit o) : OfC a o s w where
  c1 W hW := fields_any0 o s W hI (hS.below hW)
  l1 W hW h := len_no0 o.t W (hI 0 (by decide)) (hS.below hW) (by have := hF.t; omega) h
  l0 W hW h := len_ok0 o.t W (hI 0 (by decide)) (hS.below hW) (by have := hF.t; omega) h
  v1 W e' hW h := of_no _ _ _ W (IW_v hI) (hS.below hW) (by have := hF.v; omega) e' h
  v0 W hW h := of_ok _ _ _ W (IW_v hI) (hS.below hW) (by have := hF.v; omega) h
  a1 W e' hW h := appl_no s (.slice none 0 0) o.A [] W (IW_x hI) (hS.below hW) (hR.row.below hW) (RowA.nil _ _ _) hF.small (fun q hq => by cases hq) (by have := hF.n; simp; omega) e' (by rw [bothE_nil]; exact h)
  a0 W hW h := by
    have := appl_ok s (.slice none 0 0) o.A [] W (IW_x hI) (hS.below hW) (hR.row.below hW) (RowA.nil _ _ _) hF.small (fun q hq => by cases hq) (by have := hF.n; simp; omega) (by rw [bothE_nil]; exact h)
    rw [comp_nil h] at this
    exact this
  cl W := clone_any o.t W (by have := hF.t; omega)

set_option maxHeartbeats 1000000 in
theorem op_no0 {I : List Nat} {a : Nat → Addr} (o : Op5) (s : Value) (w : World) (hI : ∀ i ∈ IW, i ∈ I) (hS : Std I a w) (hR : RN w s o.A) (hF : Fit o) (e : Nat) (he : insE o = e + 1) :
    Calls Tryz.prog 128 #[opV o s] w fun r w' => r = .returned (.tuple #[.nilIface, errV a e]) ∧ Below w.heap.size w w' := by
  have b0 := (Below.refl w.heap.size w).alloc (Nat.le_refl _) (.cells (opC o s) 33)
  have D0 := BoxO.new w o s
  have HC := ofC o s w hI hS hR hF
  have c1 := HC.c1 _ b0
  clear hR hS hI hF
  unfold insE at he
  by_cases hf : fldE o = 0
  · rw [if_neg (by simpa using hf)] at he
    rw [hf, errOf_zero] at c1
    by_cases hb : brk o.t.data.toList = o.t.size
    · rw [if_neg (by simpa using hb)] at he
      have cl := fun W hW => HC.l0 W hW hb
      obtain ⟨m, hm⟩ : ∃ m, (scs o.t.data.toList).length = m := ⟨_, rfl⟩
      rw [hm] at cl
      by_cases hv : chkP o.v = 0
      · rw [if_neg (by simpa using hv)] at he
        have cv := fun W hW => HC.v0 W hW hv
        have ca := fun W hW => HC.a1 W e hW he
        obtain ⟨V, hV⟩ : ∃ V, valP o.v = V := ⟨_, rfl⟩
        rw [hV] at cv
        clear HC hf hb hv he hm hV
        obtain ⟨k, t, ⟨x, n, u⟩, c, A⟩ := o
        simp only [opC] at b0 D0 c1 cl cv ca
        go_enter Tryz.func128, Tryz.ntmps128
        go_wp2_with fail
        refine c1.mono ?_; rintro r w2 ⟨rfl, hb2⟩
        have b2 := b0.trans (hb2.mono b0.size)
        have D2 := D0.below hb2
        have e1 := D2.d1
        simp only at e1
        clear c1 D0 b0 hb2
        go_wp2_with fail
        refine (cl _ b2).mono ?_; rintro r w3 ⟨rfl, hb3⟩
        have b3 := b2.trans (hb3.mono b2.size)
        have D3 := D2.below hb3
        have f2 := D3.d2
        have f3 := D3.d3
        have f4 := D3.d4
        simp only at f2 f3 f4
        clear cl D2 b2 hb3 e1
        go_wp2_with fail
        refine (cv _ b3).mono ?_; rintro r w4 ⟨rfl, hb4⟩
        have b4 := b3.trans (hb4.mono b3.size)
        have D4 := D3.below hb4
        have e6 := D4.d6
        clear cv D3 b3 hb4 f2 f3 f4 D4
        go_wp2_with fail
        refine (ca _ b4).mono ?_; rintro r w5 ⟨rfl, hb5⟩
        have b5 := b4.trans (hb5.mono b4.size)
        clear ca b4 hb5 e6
        go_wp2
        go_ret2
        exact ⟨rfl, b5⟩
      · rw [if_pos (by simpa using hv)] at he
        have cv := fun W hW => HC.v1 W e hW he
        clear HC hf hb hv he hm
        obtain ⟨k, t, ⟨x, n, u⟩, c, A⟩ := o
        simp only [opC] at b0 D0 c1 cl cv
        go_enter Tryz.func128, Tryz.ntmps128
        go_wp2_with fail
        refine c1.mono ?_; rintro r w2 ⟨rfl, hb2⟩
        have b2 := b0.trans (hb2.mono b0.size)
        have D2 := D0.below hb2
        have e1 := D2.d1
        simp only at e1
        clear c1 D0 b0 hb2
        go_wp2_with fail
        refine (cl _ b2).mono ?_; rintro r w3 ⟨rfl, hb3⟩
        have b3 := b2.trans (hb3.mono b2.size)
        have D3 := D2.below hb3
        have f2 := D3.d2
        have f3 := D3.d3
        have f4 := D3.d4
        simp only at f2 f3 f4
        clear cl D2 b2 hb3 e1
        go_wp2_with fail
        refine (cv _ b3).mono ?_; rintro r w4 ⟨rfl, hb4⟩
        have b4 := b3.trans (hb4.mono b3.size)
        clear cv D3 b3 hb4 f2 f3 f4
        go_wp2
        go_ret2
        exact ⟨rfl, b4⟩
    · rw [if_pos (by simpa using hb)] at he
      obtain rfl : e = 0 := by omega
      have cl := fun W hW => HC.l1 W hW hb
      clear HC hf hb he
      obtain ⟨k, t, ⟨x, n, u⟩, c, A⟩ := o
      simp only [opC] at b0 D0 c1 cl
      go_enter Tryz.func128, Tryz.ntmps128
      go_wp2_with fail
      refine c1.mono ?_; rintro r w2 ⟨rfl, hb2⟩
      have b2 := b0.trans (hb2.mono b0.size)
      have D2 := D0.below hb2
      have e1 := D2.d1
      simp only at e1
      clear c1 D0 b0 hb2
      go_wp2_with fail
      refine (cl _ b2).mono ?_; rintro r w3 ⟨rfl, hb3⟩
      have b3 := b2.trans (hb3.mono b2.size)
      clear cl D2 b2 hb3 e1
      go_wp2
      go_ret2
      exact ⟨rfl, b3⟩
  · rw [if_pos (by simpa using hf)] at he
    rw [he, errOf_succ] at c1
    clear HC hf he
    obtain ⟨k, t, ⟨x, n, u⟩, c, A⟩ := o
    simp only [opC] at b0 D0 c1
    go_enter Tryz.func128, Tryz.ntmps128
    go_wp2_with fail
    refine c1.mono ?_; rintro r w2 ⟨rfl, hb2⟩
    have b2 := b0.trans (hb2.mono b0.size)
    clear c1 D0 b0 hb2
    go_wp2
    go_ret2
    exact ⟨rfl, b2⟩

set_option maxHeartbeats 1000000 in
theorem op_ok0 {I : List Nat} {a : Nat → Addr} (o : Op5) (s : Value) (w : World) (hI : ∀ i ∈ IW, i ∈ I) (hS : Std I a w) (hR : RN w s o.A) (hF : Fit o) (hO : Ins o) :
    Calls Tryz.prog 128 #[opV o s] w fun r w' => ∃ v', r = .returned (.tuple #[pieceV o v', .nilIface]) ∧ OwnA w' w.heap.size v' o.A ∧ Below w.heap.size w w' := by
  have b0 := (Below.refl w.heap.size w).alloc (Nat.le_refl _) (.cells (opC o s) 33)
  have D0 := BoxO.new w o s
  have HC := ofC o s w hI hS hR hF
  have c1 := HC.c1 _ b0
  rw [hO.fld, errOf_zero] at c1
  have cl := fun W hW => HC.l0 W hW hO.utf
  have cv := fun W hW => HC.v0 W hW hO.val
  have ca := fun W hW => HC.a0 W hW hO.set
  have cc := HC.cl
  have hk : o.k = 1 ∨ (o.k = 2) := by rcases hO.kind with ⟨h, _⟩ | ⟨h, _⟩; exact Or.inl h; exact Or.inr h
  obtain ⟨m, hm⟩ : ∃ m, (scs o.t.data.toList).length = m := ⟨_, rfl⟩
  obtain ⟨V, hV⟩ : ∃ V, valP o.v = V := ⟨_, rfl⟩
  unfold pieceV
  rw [hm] at cl
  rw [hV] at cv
  rw [hm, hV]
  obtain ⟨Vu, Vx, rfl⟩ : ∃ u x, V = .iface u x := by rw [← hV]; exact valP_if _
  clear HC hR hS hI hF hO hm hV
  obtain ⟨k, t, ⟨x, n, u⟩, c, A⟩ := o
  simp only [opC] at b0 D0 c1 cl cv ca cc hk ⊢
  have HK : Hid (k = 1 ∨ k = 2) := hk
  clear hk
  go_enter Tryz.func128, Tryz.ntmps128
  go_wp2_with fail
  refine c1.mono ?_; rintro r w2 ⟨rfl, hb2⟩
  have b2 := b0.trans (hb2.mono b0.size)
  have D2 := D0.below hb2
  have e1 := D2.d1
  simp only at e1
  clear c1 D0 b0 hb2
  go_wp2_with fail
  refine (cl _ b2).mono ?_; rintro r w3 ⟨rfl, hb3⟩
  have b3 := b2.trans (hb3.mono b2.size)
  have D3 := D2.below hb3
  have f2 := D3.d2
  have f3 := D3.d3
  have f4 := D3.d4
  simp only at f2 f3 f4
  clear cl D2 b2 hb3 e1
  go_wp2_with fail
  refine (cv _ b3).mono ?_; rintro r w4 ⟨rfl, hb4⟩
  have b4 := b3.trans (hb4.mono b3.size)
  have D4 := D3.below hb4
  have e6 := D4.d6
  clear cv D3 b3 hb4 f2 f3 f4
  go_wp2_with fail
  refine (ca _ b4).mono ?_; rintro r w5 ⟨v', rfl, own, hb5⟩
  obtain ⟨p', c', rfl⟩ := own_slice own
  have b5 := b4.trans (hb5.mono b4.size)
  have ba := (Below.refl w5.heap.size w5).alloc (Nat.le_refl _) (.cells #[.slice p' A.length c'] 149)
  have D5 := (D4.below hb5).below ba
  have e1 := D5.d1
  simp only at e1
  have O5 : Hid (OwnA (w5.alloc (.cells #[.slice p' A.length c'] 149)) w.heap.size (.slice p' A.length c') A) := own_weaken (owns_below own ba) b4.size
  clear ca e6 D4 hb5 own b4
  go_wp2_with fail
  refine (cc _).mono ?_; rintro r w6 ⟨rfl, hb6⟩
  have b6 := (b5.alloc b5.size (.cells #[.slice p' A.length c'] 149)).trans (hb6.mono (Nat.le_trans b5.size ba.size))
  have D6 := D5.below hb6
  have g0 := D6.d0
  have gm := hb6.cell (p := ⟨w5.heap.size, 0, none⟩) (by simp)
  have O6 : Hid (OwnA w6 w.heap.size (.slice p' A.length c') A) := owns_below O5.out hb6
  simp only at g0
  clear cc D5 D6 e1 hb6 b5 ba O5
  rcases HK.out with rfl | rfl
  · go_wp2
    go_ret2
    exact ⟨.slice p' A.length c', rfl, O6.out, b6⟩
  · go_wp2
    go_ret2
    exact ⟨.slice p' A.length c', rfl, O6.out, b6⟩
end Go.Proofs.YtplnojapnaaakaaGreatDoor
