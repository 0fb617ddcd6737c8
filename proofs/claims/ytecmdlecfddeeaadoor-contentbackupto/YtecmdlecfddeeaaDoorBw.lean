/- Of all operations and numbers vellumlaw04.ContentBack answers true: the walks. -/
import Derived.Test.YtecmdlecfddeeaaDoorBk
import Derived.Test.YtecmdlecfddeeaaDoorThre
import Derived.Deep.DeepCutAuto
namespace Go.Proofs.YtecmdlecfddeeaaDoor
open Go Go.RowKit Go.Lib
set_option linter.unusedVariables false

abbrev bxO (w : World) (o : Op5) (s : Value) : World := w.alloc (.cells (opC o s) 26)
theorem bxO_below (w : World) (o : Op5) (s : Value) : Below w.heap.size w (bxO w o s) := (Below.refl _ _).alloc (Nat.le_refl _) _
/-- What Length answers, from a world on. -/
def LC (o : Op5) (s : Value) (W0 : World) (n : Nat) (E : Value) : Prop :=
  ∀ W, Below W0.heap.size W0 W → RN W s o.A → Calls Tryd.prog 12 #[opV o s] W fun r w' => r = .returned (.tuple #[.int .i64 n, E]) ∧ Below W.heap.size W w'
/-- What Cut answers, from a world on. -/
def KC (o : Op5) (s : Value) (m : Nat) (W0 : World) (X Y : Op5) : Prop :=
  ∀ W, Below W0.heap.size W0 W → RN W s o.A → Calls Tryd.prog 23 #[opV o s, .int .i64 m] W fun r w' => ∃ s1 s2, r = .returned (.tuple #[opV X s1, opV Y s2, .nilIface]) ∧ RN w' s1 X.A ∧ RN w' s2 Y.A ∧ Below W.heap.size W w'

set_option maxHeartbeats 4000000 in
set_option maxRecDepth 100000 in
theorem back_1 {ad : Nat → Addr} (o : Op5) (va : Value) (x : Int) (w : World) (e : Nat)
    (cL : Calls Tryd.prog 9 #[] (bxO w o va) fun e w' => e = .returned (.bool true) ∧ Below (bxO w o va).heap.size (bxO w o va) w')
    (ra : RN (bxO w o va) va o.A) (cN : LC o va (bxO w o va) 0 (errV ad e)) :
    Calls Tryd.prog 6 #[opV o va, .int .i64 x] w fun r w' => r = .returned (.bool true) ∧ Below w.heap.size w w' := by
  have b0 := bxO_below w o va
  have X0 : BoxO (bxO w o va) w.heap.size o va := BoxO.new w o va
  obtain ⟨ak, at', ⟨ax, an, au⟩, ac, aA⟩ := o
  obtain ⟨W0, hW0⟩ : ∃ W0, W0 = bxO w ⟨ak, at', (ax, an, au), ac, aA⟩ va := ⟨_, rfl⟩
  go_enter Tryd.func6, Tryd.ntmps6
  go_wp2_with fail
  rw [← hW0] at cL b0 X0 cN ra
  refine (hW0 ▸ cL : Calls Tryd.prog 9 #[] (bxO w ⟨ak, at', (ax, an, au), ac, aA⟩ va) fun e w' => e = .returned (.bool true) ∧ Below W0.heap.size W0 w').mono ?_; rintro r w1 ⟨rfl, d1⟩
  obtain ⟨p0, p1, p2, p3, p4, p5, p6⟩ := X0.below d1
  simp only at p0 p1 p2 p3 p4 p5 p6
  have c1 := cN _ d1 (ra.below d1)
  clear cL hW0 cN ra
  go_wp2_with fail
  refine c1.mono ?_; rintro r w2 ⟨rfl, h2⟩
  have d2 := d1.trans (h2.mono d1.size)
  clear c1 h2 p0 p1 p2 p3 p4 p5 p6 d1
  go_wp2
  go_ret
  exact ⟨rfl, b0.trans (d2.mono b0.size)⟩

set_option maxHeartbeats 4000000 in
set_option maxRecDepth 100000 in
theorem back_2 {ad : Nat → Addr} (o : Op5) (va : Value) (x : Int) (w : World)
    (cL : Calls Tryd.prog 9 #[] (bxO w o va) fun e w' => e = .returned (.bool true) ∧ Below (bxO w o va).heap.size (bxO w o va) w')
    (ra : RN (bxO w o va) va o.A) (cN : LC o va (bxO w o va) 1 .nilIface) :
    Calls Tryd.prog 6 #[opV o va, .int .i64 x] w fun r w' => r = .returned (.bool true) ∧ Below w.heap.size w w' := by
  have b0 := bxO_below w o va
  have X0 : BoxO (bxO w o va) w.heap.size o va := BoxO.new w o va
  obtain ⟨ak, at', ⟨ax, an, au⟩, ac, aA⟩ := o
  obtain ⟨W0, hW0⟩ : ∃ W0, W0 = bxO w ⟨ak, at', (ax, an, au), ac, aA⟩ va := ⟨_, rfl⟩
  go_enter Tryd.func6, Tryd.ntmps6
  go_wp2_with fail
  rw [← hW0] at cL b0 X0 cN ra
  refine (hW0 ▸ cL : Calls Tryd.prog 9 #[] (bxO w ⟨ak, at', (ax, an, au), ac, aA⟩ va) fun e w' => e = .returned (.bool true) ∧ Below W0.heap.size W0 w').mono ?_; rintro r w1 ⟨rfl, d1⟩
  obtain ⟨p0, p1, p2, p3, p4, p5, p6⟩ := X0.below d1
  simp only at p0 p1 p2 p3 p4 p5 p6
  have c1 := cN _ d1 (ra.below d1)
  clear cL hW0 cN ra
  go_wp2_with fail
  refine c1.mono ?_; rintro r w2 ⟨rfl, h2⟩
  have d2 := d1.trans (h2.mono d1.size)
  clear c1 h2 p0 p1 p2 p3 p4 p5 p6 d1
  go_wp2
  go_ret
  exact ⟨rfl, b0.trans (d2.mono b0.size)⟩
end Go.Proofs.YtecmdlecfddeeaaDoor
