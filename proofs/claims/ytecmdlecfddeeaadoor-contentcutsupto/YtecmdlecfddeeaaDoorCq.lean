/- What content.Length and content.Newlines answer; textOf. -/
import Derived.Test.YtecmdlecfddeeaaDoorSw
namespace Go.Proofs.YtecmdlecfddeeaaDoor
open Go Go.RowKit Go.Lib
set_option linter.unusedVariables false

abbrev opZ : Op5 := ⟨0, ⟨#[]⟩, z0, 0, []⟩
abbrev nilS : Value := .slice none 0 0
/-- Seven cells that may be written. -/
structure FrO (w : World) (B : Nat) : Prop where
  f0 : w.frozen? ⟨B, 0, none⟩ = false
  f1 : w.frozen? ⟨B, 1, none⟩ = false
  f2 : w.frozen? ⟨B, 2, none⟩ = false
  f3 : w.frozen? ⟨B, 3, none⟩ = false
  f4 : w.frozen? ⟨B, 4, none⟩ = false
  f5 : w.frozen? ⟨B, 5, none⟩ = false
  f6 : w.frozen? ⟨B, 6, none⟩ = false
theorem FrO.below {w w' : World} {B : Nat} {o : Op5} {s : Value} (h : FrO w B) (d : BoxO w B o s) (b : Below w.heap.size w w') : FrO w' B :=
  ⟨(b.frozen (lt_of_cell d.d0)).trans h.f0, (b.frozen (lt_of_cell d.d1)).trans h.f1, (b.frozen (lt_of_cell d.d2)).trans h.f2, (b.frozen (lt_of_cell d.d3)).trans h.f3, (b.frozen (lt_of_cell d.d4)).trans h.f4, (b.frozen (lt_of_cell d.d5)).trans h.f5, (b.frozen (lt_of_cell d.d6)).trans h.f6⟩
theorem FrO.drew {w : World} {B : Nat} (h : FrO w B) : FrO w.drew B := ⟨h.f0, h.f1, h.f2, h.f3, h.f4, h.f5, h.f6⟩
theorem FrO.new (w : World) (o : Op5) (s : Value) : FrO (w.alloc (.cells (opC o s) 26)) w.heap.size := ⟨by simp [opC], by simp [opC], by simp [opC], by simp [opC], by simp [opC], by simp [opC], by simp [opC]⟩

theorem as_i_i (v : Value) (W : World) : (Instr.typeAssert (.iface 67 v) 39 67 true).run Tryd.prog W = .ok (.tuple #[v, .bool true]) W := by kernel_rfl
theorem as_e_i (v : Value) (W : World) : (Instr.typeAssert (.iface 72 v) 39 67 true).run Tryd.prog W = .ok (.tuple #[.agg #[.slice none 0 0, .string ⟨#[]⟩, .int .i64 0], .bool false]) W := by kernel_rfl
theorem as_e_e (v : Value) (W : World) : (Instr.typeAssert (.iface 72 v) 39 72 true).run Tryd.prog W = .ok (.tuple #[v, .bool true]) W := by kernel_rfl

theorem ilen_any (s : Value) (t : ByteArray) (n : Int) (w : World) : Calls Tryd.prog 105 #[.agg #[s, .string t, .int .i64 n]] w fun e w' => e = .returned (.int .i64 n) ∧ Below w.heap.size w w' := by
  go_enter Tryd.func105, Tryd.ntmps105
  go_wp2
  go_ret
  exact ⟨rfl, (Below.refl _ _).alloc (Nat.le_refl _) _⟩
theorem elen_any (v s : Value) (t : ByteArray) (w : World) : Calls Tryd.prog 107 #[.agg #[s, .string t, v]] w fun e w' => e = .returned (.int .i64 1) ∧ Below w.heap.size w w' := by
  go_enter Tryd.func107, Tryd.ntmps107
  go_wp2
  go_ret
  exact ⟨rfl, (Below.refl _ _).alloc (Nat.le_refl _) _⟩

theorem length_no {I : List Nat} {a : Nat → Addr} (o : Op5) (s : Value) (w : World) (hI : ∀ i ∈ IC, i ∈ I) (hS : Std I a w) (hR : RN w s o.A) (hF : Fit o) (e : Nat) (he : insE o = e + 1) :
    Calls Tryd.prog 12 #[opV o s] w fun r w' => r = .returned (.tuple #[.int .i64 0, errV a e]) ∧ Below w.heap.size w w' := by
  have b0 := (Below.refl w.heap.size w).alloc (Nat.le_refl _) (.cells (opC o s) 26)
  have c1 := op_no o s _ hI (hS.below b0) (hR.below b0) hF e he
  clear hR hS hI hF he
  obtain ⟨k, t, ⟨x, n, u⟩, c, A⟩ := o
  simp only [opC] at b0 c1
  go_enter Tryd.func12, Tryd.ntmps12
  go_wp2_with fail
  refine c1.mono ?_; rintro r w2 ⟨rfl, hb2⟩
  have b2 := b0.trans (hb2.mono b0.size)
  clear c1 b0 hb2
  go_wp2
  go_ret2
  exact ⟨rfl, b2⟩
theorem length_ok {I : List Nat} {a : Nat → Addr} (o : Op5) (s : Value) (w : World) (hI : ∀ i ∈ IC, i ∈ I) (hS : Std I a w) (hR : RN w s o.A) (hF : Fit o) (hO : Ins o) :
    Calls Tryd.prog 12 #[opV o s] w fun r w' => r = .returned (.tuple #[.int .i64 (lenO o), .nilIface]) ∧ Below w.heap.size w w' := by
  have b0 := (Below.refl w.heap.size w).alloc (Nat.le_refl _) (.cells (opC o s) 26)
  have c1 := op_ok o s _ hI (hS.below b0) (hR.below b0) hF hO
  have hk : o.k = 1 ∨ (o.k = 2) := by rcases hO.kind with ⟨h, _⟩ | ⟨h, _⟩; exact Or.inl h; exact Or.inr h
  obtain ⟨Vu, Vx, hV⟩ := valP_if o.v
  unfold lenO
  unfold pieceV at c1
  rw [hV] at c1
  clear hR hS hI hF hO hV
  obtain ⟨k, t, ⟨x, n, u⟩, c, A⟩ := o
  simp only [opC] at b0 c1 hk ⊢
  rcases hk with rfl | rfl
  · simp only [if_true] at c1 ⊢
    go_enter Tryd.func12, Tryd.ntmps12
    go_wp2_with fail
    refine c1.mono ?_; rintro r w2 ⟨v', rfl, own, hb2⟩
    obtain ⟨p', c', rfl⟩ := own_slice own
    have b2 := b0.trans (hb2.mono b0.size)
    clear c1 b0 hb2 own
    go_wp2_with fail
    refine (ilen_any _ _ _ _).mono ?_; rintro r w3 ⟨rfl, hb3⟩
    have b3 := b2.trans (hb3.mono b2.size)
    go_wp2
    go_ret2
    exact ⟨rfl, b3⟩
  · simp only [show ¬ ((2 : Int) = 1) by omega, if_false] at c1 ⊢
    go_enter Tryd.func12, Tryd.ntmps12
    go_wp2_with fail
    refine c1.mono ?_; rintro r w2 ⟨v', rfl, own, hb2⟩
    obtain ⟨p', c', rfl⟩ := own_slice own
    have b2 := b0.trans (hb2.mono b0.size)
    clear c1 b0 hb2 own
    go_wp2_with fail
    refine (elen_any _ _ _ _).mono ?_; rintro r w3 ⟨rfl, hb3⟩
    have b3 := b2.trans (hb3.mono b2.size)
    go_wp2
    go_ret2
    exact ⟨rfl, b3⟩

theorem textOf_any (t : ByteArray) (p : Option Addr) (n c : Nat) (w : World) :
    Calls Tryd.prog 49 #[.string t, .slice p n c] w fun e w' => e = .returned (opV ⟨1, t, z0, 0, []⟩ (.slice p n c)) ∧ Below w.heap.size w w' := by
  go_enter Tryd.func49, Tryd.ntmps49
  go_wp2
  exact bodyPost_ret (v := opV ⟨1, t, z0, 0, []⟩ (.slice p n c)) (by simp [results, Tryd.results49, go_sem, z0]) rfl ⟨rfl, by first | exact (Below.refl _ _).alloc (Nat.le_refl _) _ | exact ((Below.refl _ _).alloc (Nat.le_refl _) _).drew⟩
end Go.Proofs.YtecmdlecfddeeaaDoor
