/- What vellumref04.SameAttrs, content.Same and vellumref04.Same answer. -/
import Derived.Test.YtalfdjglbbmjcabGreatDoorCp
import Derived.Test.YtalfdjglbbmjcabGreatDoorSm
import Derived.Deep.DeepBigQuietO
namespace Go.Proofs.YtalfdjglbbmjcabGreatDoor
open Go Go.RowKit Go.Lib
set_option linter.unusedVariables false
theorem eql_pl (p q : P3) (b : Bool) (h : samP p q = b) (w : World) : (binOp .eql 27 (plV p) (plV q)).run Tryz.prog w = .ok (.bool b) w := by
  rw [run_eql_struct, show (Op.equalIn 10000 27 (plV p) (plV q)).run Tryz.prog w = .ok (samP p q) w from eqIn_pl p.1 p.2.1 p.2.2 q.1 q.2.1 q.2.2 w, ← h]; rfl

set_option maxHeartbeats 1000000 in
theorem sameC_any (o o' : Op5) (s s' : Value) (w : World) (hA : RowA w s o.A) (hB : RowA w s' o'.A) (hl : o.A.length ≤ 4194304) (hl2 : o'.A.length ≤ 4194304) :
    Calls Tryz.prog 80 #[opV o s, opV o' s'] w fun r w' => r = .returned (.bool (decide (o = o'))) ∧ Below w.heap.size w w' := by
  have b0 := ((Below.refl w.heap.size w).alloc (Nat.le_refl _) (.cells (opC o s) 69)).alloc (by simp) (.cells (opC o' s') 69)
  have cS := from_below b0 (same_any' s s' o.A o'.A _ (hA.below b0) (hB.below b0) (by omega) (by omega))
  obtain ⟨pa, ca, rfl, _⟩ := hA.val
  obtain ⟨pb, cb, rfl, _⟩ := hB.val
  obtain ⟨k, t, ⟨x, n, u⟩, c, A⟩ := o
  obtain ⟨k', t', ⟨x', n', u'⟩, c', A'⟩ := o'
  simp only at cS
  simp only [opC] at b0 cS
  clear hA hB hl hl2
  have gd := fun op e e' w => guard_pl op e e' (x, n, u) (x', n', u') w
  by_cases hk : k = k'
  · subst hk
    by_cases ht : t = t'
    · subst ht
      have q1 := beq_key (x := t) (y := t) true (decide_eq_true rfl)
      by_cases hv : ((x, n, u) : P3) = (x', n', u')
      · have hne := eql_pl (x, n, u) (x', n', u') true (by rw [hv, samP_self])
        by_cases hc : c = c'
        · subst hc
          have hd : decide (({ k := k, t := t, v := (x, n, u), c := c, A := A } : Op5) = { k := k, t := t, v := (x', n', u'), c := c, A := A' }) = decide (A = A') := by
            simp only [Op5.mk.injEq, true_and, hv]
          rw [hd]
          generalize decide (A = A') = R at cS ⊢
          clear hd hv
          go_enter Tryz.func80, Tryz.ntmps80
          go_wp2_with fail
          refine cS.mono ?_; rintro r w2 ⟨rfl, hb2⟩
          go_wp2
          go_ret
          exact ⟨rfl, hb2⟩
        · rw [decide_eq_false (by intro e; exact hc (congrArg Op5.c e))]
          have hcc : (c == c') = false := by simpa using hc
          clear cS hv hc
          go_enter Tryz.func80, Tryz.ntmps80
          go_wp2
          go_ret
          exact ⟨rfl, b0⟩
      · rw [decide_eq_false (by intro e; exact hv (congrArg Op5.v e))]
        have hne := eql_pl (x, n, u) (x', n', u') false (samP_ne hv)
        clear cS hv
        go_enter Tryz.func80, Tryz.ntmps80
        go_wp2
        go_ret
        exact ⟨rfl, b0⟩
    · rw [decide_eq_false (by intro e; exact ht (congrArg Op5.t e))]
      have q1 := beq_key (x := t) (y := t') false (decide_eq_false ht)
      clear cS ht gd
      go_enter Tryz.func80, Tryz.ntmps80
      go_wp2
      go_ret
      exact ⟨rfl, b0⟩
  · rw [decide_eq_false (by intro e; exact hk (congrArg Op5.k e))]
    have hkk : (k == k') = false := by simpa using hk
    clear cS hk gd
    go_enter Tryz.func80, Tryz.ntmps80
    go_wp2
    go_ret
    exact ⟨rfl, b0⟩

end Go.Proofs.YtalfdjglbbmjcabGreatDoor
