/- What content.Length and content.Newlines answer; textOf. -/
import Derived.Test.YtplnojapnaaakaaGreatDoorPSw
namespace Go.Proofs.YtplnojapnaaakaaGreatDoor
open Go Go.RowKit Go.Lib
set_option linter.unusedVariables false
abbrev opZ : Op5 := ⟨0, ⟨#[]⟩, z0, 0, []⟩
abbrev nilS : Value := .slice none 0 0
/-- Seven cells that may be written. -/
structure FrO (w : World) (B : Nat) : Prop where
  f0 : w.frozen? ⟨B, 0, none⟩ = false
  f1 : w.frozen? ⟨B, 1, none⟩ = false
  f2 : w.frozen? ⟨B, 2, none⟩ = false
  f3 : w.frozen? ⟨B, 3, none⟩ = false
  f4 : w.frozen? ⟨B, 4, none⟩ = false
  f5 : w.frozen? ⟨B, 5, none⟩ = false
  f6 : w.frozen? ⟨B, 6, none⟩ = false
theorem FrO.below {w w' : World} {B : Nat} {o : Op5} {s : Value} (h : FrO w B) (d : BoxO w B o s) (b : Below w.heap.size w w') : FrO w' B :=
  ⟨(b.frozen (lt_of_cell d.d0)).trans h.f0, (b.frozen (lt_of_cell d.d1)).trans h.f1, (b.frozen (lt_of_cell d.d2)).trans h.f2, (b.frozen (lt_of_cell d.d3)).trans h.f3, (b.frozen (lt_of_cell d.d4)).trans h.f4, (b.frozen (lt_of_cell d.d5)).trans h.f5, (b.frozen (lt_of_cell d.d6)).trans h.f6⟩
theorem FrO.drew {w : World} {B : Nat} (h : FrO w B) : FrO w.drew B := ⟨h.f0, h.f1, h.f2, h.f3, h.f4, h.f5, h.f6⟩
theorem FrO.new (w : World) (o : Op5) (s : Value) : FrO (w.alloc (.cells (opC o s) 33)) w.heap.size := ⟨by simp [opC], by simp [opC], by simp [opC], by simp [opC], by simp [opC], by simp [opC], by simp [opC]⟩

theorem as_i_i (v : Value) (W : World) : (Instr.typeAssert (.iface 183 v) 56 183 true).run Tryz.prog W = .ok (.tuple #[v, .bool true]) W := by kernel_rfl
theorem as_e_i (v : Value) (W : World) : (Instr.typeAssert (.iface 187 v) 56 183 true).run Tryz.prog W = .ok (.tuple #[.agg #[.slice none 0 0, .string ⟨#[]⟩, .int .i64 0], .bool false]) W := by kernel_rfl
theorem as_e_e (v : Value) (W : World) : (Instr.typeAssert (.iface 187 v) 56 187 true).run Tryz.prog W = .ok (.tuple #[v, .bool true]) W := by kernel_rfl

theorem ilen_any (s : Value) (t : ByteArray) (n : Int) (w : World) : Calls Tryz.prog 198 #[.agg #[s, .string t, .int .i64 n]] w fun e w' => e = .returned (.int .i64 n) ∧ Below w.heap.size w w' := by
  go_enter Tryz.func198, Tryz.ntmps198
  go_wp2
  go_ret
  exact ⟨rfl, (Below.refl _ _).alloc (Nat.le_refl _) _⟩
theorem elen_any (v s : Value) (t : ByteArray) (w : World) : Calls Tryz.prog 200 #[.agg #[s, .string t, v]] w fun e w' => e = .returned (.int .i64 1) ∧ Below w.heap.size w w' := by
  go_enter Tryz.func200, Tryz.ntmps200
  go_wp2
  go_ret
  exact ⟨rfl, (Below.refl _ _).alloc (Nat.le_refl _) _⟩

end Go.Proofs.YtplnojapnaaakaaGreatDoor
