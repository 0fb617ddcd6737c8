/- Of all Plains vellumlaw02.ValuesTypes answers true: the walk. -/
import Derived.Test.YtlmibpfikafbdaaDoorFx
namespace Go.Proofs.YtlmibpfikafbdaaDoor
open Go Go.RowKit Go.Lib
set_option linter.unusedVariables false

/-- A boxed Plain. -/
structure Box (B : Nat) (k n : Int) (t : ByteArray) (W : World) : Prop where
  c0 : W.cell? ⟨B, 0, none⟩ = some (.int .i64 k)
  c1 : W.cell? ⟨B, 1, none⟩ = some (.int .i64 n)
  c2 : W.cell? ⟨B, 2, none⟩ = some (.string t)
theorem Box.below {B : Nat} {k n : Int} {t : ByteArray} {W W' : World} (h : Box B k n t W) (hb : Below W.heap.size W W') : Box B k n t W' :=
  ⟨by rw [hb.cell (lt_of_cell h.c0)]; exact h.c0, by rw [hb.cell (lt_of_cell h.c1)]; exact h.c1, by rw [hb.cell (lt_of_cell h.c2)]; exact h.c2⟩
theorem box_new (w : World) (k n : Int) (t : ByteArray) : ∃ W0, W0 = w.alloc (.cells #[.int .i64 k, .int .i64 n, .string t] 23) ∧ Box w.heap.size k n t W0 ∧ Below w.heap.size w W0 :=
  ⟨_, rfl, ⟨by simp, by simp, by simp⟩, (Below.refl _ _).alloc (Nat.le_refl _) _⟩

theorem types_bad {I : List Nat} {a : Nat → Addr} (k n : Int) (t : ByteArray) (w : World) (hI : ∀ i ∈ [0, 3, 4, 9], i ∈ I) (hS : Std I a w) (hT : Strc w) (hs : t.size ≤ 281474976710656) (e : Nat) (he : chk k n t = e + 1) :
    Calls Tryd.prog 6 #[pl k n t] w fun r w' => r = .returned (.bool true) ∧ Below w.heap.size w w' := by
  obtain ⟨W0, hW0, hB, b0⟩ := box_new w k n t
  have hI' : ∀ i ∈ [0, 4, 9], i ∈ I := fun i hi => hI i (by simp at hi ⊢; omega)
  have cF := fixed_any W0 hI (hS.below b0) (hT.below b0)
  have cO := fun W (hW : Below W0.heap.size W0 W) => from_below hW (of_no k n t W hI' ((hS.below b0).below hW) hs e he)
  have hx := fun W (hW : Below W0.heap.size W0 W) => hB.below hW
  clear hS hT hI hI' he hB
  go_enter Tryd.func6, Tryd.ntmps6
  go_wp2_with fail
  rw [← hW0]
  clear hW0
  refine cF.mono ?_; rintro r w1 ⟨rfl, b1⟩
  obtain ⟨k0, k1, k2⟩ := hx _ b1
  go_wp2_with (go_at_call 11; refine (cO _ b1).mono ?_; rintro r w2 ⟨rfl, b2⟩)
  go_ret
  exact ⟨rfl, b0.trans (b2.mono b0.size)⟩

set_option maxHeartbeats 400000 in
theorem types_good {I : List Nat} {a : Nat → Addr} (k n : Int) (t : ByteArray) (w : World) (hI : ∀ i ∈ [0, 3, 4, 9], i ∈ I) (hS : Std I a w) (hT : Strc w) (hs : t.size ≤ 281474976710656) (he : chk k n t = 0) :
    Calls Tryd.prog 6 #[pl k n t] w fun r w' => r = .returned (.bool true) ∧ Below w.heap.size w w' := by
  obtain ⟨W0, hW0, hB, b0⟩ := box_new w k n t
  have hI' : ∀ i ∈ [0, 4, 9], i ∈ I := fun i hi => hI i (by simp at hi ⊢; omega)
  have cF := fixed_any W0 hI (hS.below b0) (hT.below b0)
  have cO := fun W (hW : Below W0.heap.size W0 W) => from_below hW (of_ok k n t W hI' ((hS.below b0).below hW) hs he)
  have hx := fun W (hW : Below W0.heap.size W0 W) => hB.below hW
  clear hS hT hI hI' hB
  have an : ∀ W : World, (Instr.typeAssert (.iface 52 (.agg #[])) 27 52 true).run Tryd.prog W = .ok (.tuple #[.agg #[], .bool true]) W := fun W => by kernel_rfl
  have fn' : ∀ (b : Bool) (W : World), (Instr.typeAssert (.iface 54 (.bool b)) 27 52 true).run Tryd.prog W = .ok (.tuple #[.agg #[], .bool false]) W := fun b W => by kernel_rfl
  have dn : ∀ (b : Int) (W : World), (Instr.typeAssert (.iface 50 (.int .i64 b)) 27 52 true).run Tryd.prog W = .ok (.tuple #[.agg #[], .bool false]) W := fun b W => by kernel_rfl
  have tn : ∀ (b : ByteArray) (W : World), (Instr.typeAssert (.iface 55 (.string b)) 27 52 true).run Tryd.prog W = .ok (.tuple #[.agg #[], .bool false]) W := fun b W => by kernel_rfl
  have ff := as_f_f
  have df := as_d_f
  have dd := as_d_d
  have tf := as_t_f
  have td := as_t_d
  have tt := as_t_t
  obtain ⟨V, hV⟩ : ∃ V, valOf k n t = V := ⟨_, rfl⟩
  rw [hV] at cO
  have hgc := good_cases he
  have hlen : k = 3 → (t.size : Int) ≤ 1048576 := fun h3 => by
    rcases hgc with ⟨h, _⟩ | ⟨h, _⟩ | ⟨h, _⟩ | ⟨h, _⟩ | ⟨_, _, h⟩
    all_goals first | omega | (rcases txtE_cases t with ⟨_, _, h2⟩ | ⟨h2, _⟩ | ⟨h2, _⟩ <;> omega)
  rcases hgc with ⟨rfl, rfl, rfl⟩ | ⟨rfl, rfl, rfl⟩ | ⟨rfl, rfl, rfl⟩ | ⟨rfl, rfl⟩ | ⟨rfl, rfl, _⟩
  all_goals simp [valOf] at hV; subst hV; clear he
  case inr.inr.inr.inr =>
    have hl := hlen rfl
    clear hlen
    go_enter Tryd.func6, Tryd.ntmps6
    go_wp2_with fail
    rw [← hW0]
    clear hW0
    refine cF.mono ?_; rintro r w1 ⟨rfl, b1⟩
    obtain ⟨k0, k1, k2⟩ := hx _ b1
    go_wp2_with (go_at_call 11; refine (cO _ b1).mono ?_; rintro r w2 ⟨rfl, b2⟩; obtain ⟨m0, m1, m2⟩ := hx _ b2; have z2 : w.heap.size < w2.heap.size := lt_of_cell m0)
    go_ret
    exact ⟨rfl, b0.trans (b2.mono b0.size)⟩
  all_goals
    clear hlen
    go_enter Tryd.func6, Tryd.ntmps6
    go_wp2_with fail
    rw [← hW0]
    clear hW0
    refine cF.mono ?_; rintro r w1 ⟨rfl, b1⟩
    obtain ⟨k0, k1, k2⟩ := hx _ b1
    go_wp2_with (go_at_call 11; refine (cO _ b1).mono ?_; rintro r w2 ⟨rfl, b2⟩; obtain ⟨m0, m1, m2⟩ := hx _ b2; have z2 : w.heap.size < w2.heap.size := lt_of_cell m0)
    go_ret
    exact ⟨rfl, b0.trans (by first | exact b2.mono b0.size | exact (b2.alloc b2.size _).mono b0.size)⟩
end Go.Proofs.YtlmibpfikafbdaaDoor
