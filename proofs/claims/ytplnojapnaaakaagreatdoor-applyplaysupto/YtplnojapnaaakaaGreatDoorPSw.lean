/- What vellumref04.SameAttrs, content.Same and vellumref04.Same answer. -/
import Derived.Test.YtplnojapnaaakaaGreatDoorPCp
import Derived.Test.YtplnojapnaaakaaGreatDoorPSm
import Derived.Deep.DeepBigQuietO
namespace Go.Proofs.YtplnojapnaaakaaGreatDoor
open Go Go.RowKit Go.Lib
set_option linter.unusedVariables false
set_option maxHeartbeats 1000000 in
theorem sameAttrs_any (va vb : Value) (A B : List A2) (w : World) (hA : RowA w va A) (hB : RowA w vb B) (hl : A.length ≤ 4611686018427387904) (hl2 : B.length ≤ 4611686018427387904) :
    Calls Tryz.prog 98 #[va, vb] w fun r w' => r = .returned (.bool (decide (A = B))) ∧ Below w.heap.size w w' := by
  obtain ⟨n, hn⟩ : ∃ n, A.length = n := ⟨_, rfl⟩
  obtain ⟨m, hm⟩ : ∃ n, B.length = n := ⟨_, rfl⟩
  obtain ⟨pa, ca, rfl, ha, hca⟩ := hA
  obtain ⟨pb, cb, rfl, hb, hcb⟩ := hB
  rw [hn] at ha hl ⊢
  rw [hm] at hb hl2 ⊢
  have HN : Hid (A.length = n ∧ B.length = m) := ⟨hn, hm⟩
  have HA : Hid _ := hca
  have HB : Hid _ := hcb
  obtain ⟨R, hR⟩ : ∃ R, decide (A = B) = R := ⟨_, rfl⟩
  rw [hR]
  have HR : Hid (decide (A = B) = R) := hR
  clear hca hcb hn hm hR
  by_cases hnm : n = m
  · subst hnm
    go_enter Tryz.func98, Tryz.ntmps98
    go_wp2
    go_loopw [13] (fun i wr => ∃ (k : Nat), k ≤ n ∧ i = .int .i64 k ∧ Below w.heap.size w wr ∧ Hid (A.take k = B.take k)) (fun i _ => n - (RowKit.intOf i).toNat)
    case atStart => exact ⟨0, Nat.zero_le _, rfl, Below.refl _ _, rfl⟩
    case round =>
      obtain ⟨k, hk, rfl, hbw, H⟩ := hrel
      by_cases hlt : k < n
      · have hltI : (k : Int) < n := by omega
        obtain ⟨q, hq⟩ : ∃ q, A[k]? = some q := ⟨_, List.getElem?_eq_getElem (by rw [HN.out.1]; exact hlt)⟩
        obtain ⟨r, hr⟩ : ∃ r, B[k]? = some r := ⟨_, List.getElem?_eq_getElem (by rw [HN.out.2]; exact hlt)⟩
        obtain ⟨b, off, rfl, hp⟩ := HA.out k q hq
        obtain ⟨b', off', rfl, hp'⟩ := HB.out k r hr
        obtain ⟨c0, c1, c2, c3⟩ := hp.below hbw
        obtain ⟨d0, d1, d2, d3⟩ := hp'.below hbw
        have gd := fun op x y w => guard_at op x y q r w
        by_cases he : q = r
        · have hne := neq_at q r false (by simpa using he)
          have H2 : Hid (A.take (k + 1) = B.take (k + 1)) := by
            show _ = _
            rw [List.take_add_one, List.take_add_one, H.out, hq, hr, he]
          clear hq hr hp hp' he H
          obtain ⟨q1, q2, q3, q4⟩ := q
          obtain ⟨r1, r2, r3, r4⟩ := r
          simp only at c0 c1 c2 c3 d0 d1 d2 d3
          go_wp2_with fail
          go_quiet (fail)
          go_wp2
          go_roundw
          case rel => exact ⟨k + 1, by omega, by go_num, by first | exact hbw | exact below_drewN hbw _, H2.out⟩
          case measure => simp [RowKit.intOf]; omega
        · have hne := neq_at q r true (by simpa using he)
          have hR2 : R = false := by
            rw [← HR.out]
            refine decide_eq_false fun e => he ?_
            subst e
            exact Option.some.inj (hq.symm.trans hr)
          subst hR2
          clear hq hr hp hp' he H
          obtain ⟨q1, q2, q3, q4⟩ := q
          obtain ⟨r1, r2, r3, r4⟩ := r
          simp only at c0 c1 c2 c3 d0 d1 d2 d3
          go_wp2_with fail
          go_quiet (fail)
          go_wp2
          go_ret
          exact ⟨rfl, by first | exact hbw | exact below_drewN hbw _⟩
      · have hltI : ¬ (k : Int) < n := by omega
        have hR2 : R = true := by
          rw [← HR.out]
          refine decide_eq_true ?_
          have := H.out
          rwa [List.take_of_length_le (by rw [HN.out.1]; omega), List.take_of_length_le (by rw [HN.out.2]; omega)] at this
        subst hR2
        go_wp2
        go_ret
        exact ⟨rfl, hbw⟩
  · have hnm' : ¬ (n : Int) = (m : Int) := by omega
    have hR2 : R = false := by
      rw [← HR.out]
      refine decide_eq_false fun e => hnm ?_
      rw [← HN.out.1, ← HN.out.2, e]
    subst hR2
    go_enter Tryz.func98, Tryz.ntmps98
    go_wp2
    go_ret
    exact ⟨rfl, Below.refl _ _⟩


theorem eql_pl (p q : P3) (b : Bool) (h : samP p q = b) (w : World) : (binOp .eql 30 (plV p) (plV q)).run Tryz.prog w = .ok (.bool b) w := by
  rw [run_eql_struct, show (Op.equalIn 10000 30 (plV p) (plV q)).run Tryz.prog w = .ok (samP p q) w from eqIn_pl p.1 p.2.1 p.2.2 q.1 q.2.1 q.2.2 w, ← h]; rfl

set_option maxHeartbeats 1000000 in
theorem sameC_any (o o' : Op5) (s s' : Value) (w : World) (hA : RowA w s o.A) (hB : RowA w s' o'.A) (hl : o.A.length ≤ 4194304) (hl2 : o'.A.length ≤ 4194304) :
    Calls Tryz.prog 142 #[opV o s, opV o' s'] w fun r w' => r = .returned (.bool (decide (o = o'))) ∧ Below w.heap.size w w' := by
  have b0 := ((Below.refl w.heap.size w).alloc (Nat.le_refl _) (.cells (opC o s) 33)).alloc (by simp) (.cells (opC o' s') 33)
  have cS := from_below b0 (same_any' s s' o.A o'.A _ (hA.below b0) (hB.below b0) (by omega) (by omega))
  obtain ⟨pa, ca, rfl, _⟩ := hA.val
  obtain ⟨pb, cb, rfl, _⟩ := hB.val
  obtain ⟨k, t, ⟨x, n, u⟩, c, A⟩ := o
  obtain ⟨k', t', ⟨x', n', u'⟩, c', A'⟩ := o'
  simp only at cS
  simp only [opC] at b0 cS
  clear hA hB hl hl2
  have gd := fun op e e' w => guard_pl op e e' (x, n, u) (x', n', u') w
  by_cases hk : k = k'
  · subst hk
    by_cases ht : t = t'
    · subst ht
      have q1 := beq_key (x := t) (y := t) true (decide_eq_true rfl)
      by_cases hv : ((x, n, u) : P3) = (x', n', u')
      · have hne := eql_pl (x, n, u) (x', n', u') true (by rw [hv, samP_self])
        by_cases hc : c = c'
        · subst hc
          have hd : decide (({ k := k, t := t, v := (x, n, u), c := c, A := A } : Op5) = { k := k, t := t, v := (x', n', u'), c := c, A := A' }) = decide (A = A') := by
            simp only [Op5.mk.injEq, true_and, hv]
          rw [hd]
          generalize decide (A = A') = R at cS ⊢
          clear hd hv
          go_enter Tryz.func142, Tryz.ntmps142
          go_wp2_with fail
          refine cS.mono ?_; rintro r w2 ⟨rfl, hb2⟩
          go_wp2
          go_ret
          exact ⟨rfl, hb2⟩
        · rw [decide_eq_false (by intro e; exact hc (congrArg Op5.c e))]
          have hcc : (c == c') = false := by simpa using hc
          clear cS hv hc
          go_enter Tryz.func142, Tryz.ntmps142
          go_wp2
          go_ret
          exact ⟨rfl, b0⟩
      · rw [decide_eq_false (by intro e; exact hv (congrArg Op5.v e))]
        have hne := eql_pl (x, n, u) (x', n', u') false (samP_ne hv)
        clear cS hv
        go_enter Tryz.func142, Tryz.ntmps142
        go_wp2
        go_ret
        exact ⟨rfl, b0⟩
    · rw [decide_eq_false (by intro e; exact ht (congrArg Op5.t e))]
      have q1 := beq_key (x := t) (y := t') false (decide_eq_false ht)
      clear cS ht gd
      go_enter Tryz.func142, Tryz.ntmps142
      go_wp2
      go_ret
      exact ⟨rfl, b0⟩
  · rw [decide_eq_false (by intro e; exact hk (congrArg Op5.k e))]
    have hkk : (k == k') = false := by simpa using hk
    clear cS hk gd
    go_enter Tryz.func142, Tryz.ntmps142
    go_wp2
    go_ret
    exact ⟨rfl, b0⟩

set_option maxHeartbeats 1000000 in
theorem sameR_any (o o' : Op5) (s s' : Value) (w : World) (hA : RowA w s o.A) (hB : RowA w s' o'.A) (hl : o.A.length ≤ 4194304) (hl2 : o'.A.length ≤ 4194304) :
    Calls Tryz.prog 69 #[opV o s, opV o' s'] w fun r w' => r = .returned (.bool (decide (o = o'))) ∧ Below w.heap.size w w' := by
  have b0 := ((Below.refl w.heap.size w).alloc (Nat.le_refl _) (.cells (opC o s) 33)).alloc (by simp) (.cells (opC o' s') 33)
  have cS := from_below b0 (sameAttrs_any s s' o.A o'.A _ (hA.below b0) (hB.below b0) (by omega) (by omega))
  obtain ⟨pa, ca, rfl, _⟩ := hA.val
  obtain ⟨pb, cb, rfl, _⟩ := hB.val
  obtain ⟨k, t, ⟨x, n, u⟩, c, A⟩ := o
  obtain ⟨k', t', ⟨x', n', u'⟩, c', A'⟩ := o'
  simp only at cS
  simp only [opC] at b0 cS
  clear hA hB hl hl2
  have gd := fun op e e' w => guard_pl op e e' (x, n, u) (x', n', u') w
  by_cases hk : k = k'
  · subst hk
    by_cases ht : t = t'
    · subst ht
      have q1 := beq_key (x := t) (y := t) true (decide_eq_true rfl)
      by_cases hv : ((x, n, u) : P3) = (x', n', u')
      · have hne := eql_pl (x, n, u) (x', n', u') true (by rw [hv, samP_self])
        by_cases hc : c = c'
        · subst hc
          have hd : decide (({ k := k, t := t, v := (x, n, u), c := c, A := A } : Op5) = { k := k, t := t, v := (x', n', u'), c := c, A := A' }) = decide (A = A') := by
            simp only [Op5.mk.injEq, true_and, hv]
          rw [hd]
          generalize decide (A = A') = R at cS ⊢
          clear hd hv
          go_enter Tryz.func69, Tryz.ntmps69
          go_wp2_with fail
          refine cS.mono ?_; rintro r w2 ⟨rfl, hb2⟩
          go_wp2
          go_ret
          exact ⟨rfl, hb2⟩
        · rw [decide_eq_false (by intro e; exact hc (congrArg Op5.c e))]
          have hcc : (c == c') = false := by simpa using hc
          clear cS hv hc
          go_enter Tryz.func69, Tryz.ntmps69
          go_wp2
          go_ret
          exact ⟨rfl, b0⟩
      · rw [decide_eq_false (by intro e; exact hv (congrArg Op5.v e))]
        have hne := eql_pl (x, n, u) (x', n', u') false (samP_ne hv)
        clear cS hv
        go_enter Tryz.func69, Tryz.ntmps69
        go_wp2
        go_ret
        exact ⟨rfl, b0⟩
    · rw [decide_eq_false (by intro e; exact ht (congrArg Op5.t e))]
      have q1 := beq_key (x := t) (y := t') false (decide_eq_false ht)
      clear cS ht gd
      go_enter Tryz.func69, Tryz.ntmps69
      go_wp2
      go_ret
      exact ⟨rfl, b0⟩
  · rw [decide_eq_false (by intro e; exact hk (congrArg Op5.k e))]
    have hkk : (k == k') = false := by simpa using hk
    clear cS hk gd
    go_enter Tryz.func69, Tryz.ntmps69
    go_wp2
    go_ret
    exact ⟨rfl, b0⟩
end Go.Proofs.YtplnojapnaaakaaGreatDoor
