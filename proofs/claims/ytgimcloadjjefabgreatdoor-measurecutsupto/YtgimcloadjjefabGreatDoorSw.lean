/- What vellumref04.SameAttrs, content.Same and vellumref04.Same answer. -/
import Derived.Test.YtgimcloadjjefabGreatDoorCp
import Derived.Test.YtgimcloadjjefabGreatDoorSm
import Derived.Deep.DeepBigQuietO
namespace Go.Proofs.YtgimcloadjjefabGreatDoor
open Go Go.RowKit Go.Lib
set_option linter.unusedVariables false

set_option maxHeartbeats 1000000 in
theorem sameAttrs_any (va vb : Value) (A B : List A2) (w : World) (hA : RowA w va A) (hB : RowA w vb B) (hl : A.length ≤ 4611686018427387904) (hl2 : B.length ≤ 4611686018427387904) :
    Calls Tryz.prog 49 #[va, vb] w fun r w' => r = .returned (.bool (decide (A = B))) ∧ Below w.heap.size w w' := by
  obtain ⟨n, hn⟩ : ∃ n, A.length = n := ⟨_, rfl⟩
  obtain ⟨m, hm⟩ : ∃ n, B.length = n := ⟨_, rfl⟩
  obtain ⟨pa, ca, rfl, ha, hca⟩ := hA
  obtain ⟨pb, cb, rfl, hb, hcb⟩ := hB
  rw [hn] at ha hl ⊢
  rw [hm] at hb hl2 ⊢
  have HN : Hid (A.length = n ∧ B.length = m) := ⟨hn, hm⟩
  have HA : Hid _ := hca
  have HB : Hid _ := hcb
  obtain ⟨R, hR⟩ : ∃ R, decide (A = B) = R := ⟨_, rfl⟩
  rw [hR]
  have HR : Hid (decide (A = B) = R) := hR
  clear hca hcb hn hm hR
  by_cases hnm : n = m
  · subst hnm
    go_enter Tryz.func49, Tryz.ntmps49
    go_wp2
    go_loopw [13] (fun i wr => ∃ (k : Nat), k ≤ n ∧ i = .int .i64 k ∧ Below w.heap.size w wr ∧ Hid (A.take k = B.take k)) (fun i _ => n - (RowKit.intOf i).toNat)
    case atStart => exact ⟨0, Nat.zero_le _, rfl, Below.refl _ _, rfl⟩
    case round =>
      obtain ⟨k, hk, rfl, hbw, H⟩ := hrel
      by_cases hlt : k < n
      · have hltI : (k : Int) < n := by omega
        obtain ⟨q, hq⟩ : ∃ q, A[k]? = some q := ⟨_, List.getElem?_eq_getElem (by rw [HN.out.1]; exact hlt)⟩
        obtain ⟨r, hr⟩ : ∃ r, B[k]? = some r := ⟨_, List.getElem?_eq_getElem (by rw [HN.out.2]; exact hlt)⟩
        obtain ⟨b, off, rfl, hp⟩ := HA.out k q hq
        obtain ⟨b', off', rfl, hp'⟩ := HB.out k r hr
        obtain ⟨c0, c1, c2, c3⟩ := hp.below hbw
        obtain ⟨d0, d1, d2, d3⟩ := hp'.below hbw
        have gd := fun op x y w => guard_at op x y q r w
        by_cases he : q = r
        · have hne := neq_at q r false (by simpa using he)
          have H2 : Hid (A.take (k + 1) = B.take (k + 1)) := by
            show _ = _
            rw [List.take_add_one, List.take_add_one, H.out, hq, hr, he]
          clear hq hr hp hp' he H
          obtain ⟨q1, q2, q3, q4⟩ := q
          obtain ⟨r1, r2, r3, r4⟩ := r
          simp only at c0 c1 c2 c3 d0 d1 d2 d3
          go_wp2_with fail
          go_quiet (fail)
          go_wp2
          go_roundw
          case rel => exact ⟨k + 1, by omega, by go_num, by first | exact hbw | exact below_drewN hbw _, H2.out⟩
          case measure => simp [RowKit.intOf]; omega
        · have hne := neq_at q r true (by simpa using he)
          have hR2 : R = false := by
            rw [← HR.out]
            refine decide_eq_false fun e => he ?_
            subst e
            exact Option.some.inj (hq.symm.trans hr)
          subst hR2
          clear hq hr hp hp' he H
          obtain ⟨q1, q2, q3, q4⟩ := q
          obtain ⟨r1, r2, r3, r4⟩ := r
          simp only at c0 c1 c2 c3 d0 d1 d2 d3
          go_wp2_with fail
          go_quiet (fail)
          go_wp2
          go_ret
          exact ⟨rfl, by first | exact hbw | exact below_drewN hbw _⟩
      · have hltI : ¬ (k : Int) < n := by omega
        have hR2 : R = true := by
          rw [← HR.out]
          refine decide_eq_true ?_
          have := H.out
          rwa [List.take_of_length_le (by rw [HN.out.1]; omega), List.take_of_length_le (by rw [HN.out.2]; omega)] at this
        subst hR2
        go_wp2
        go_ret
        exact ⟨rfl, hbw⟩
  · have hnm' : ¬ (n : Int) = (m : Int) := by omega
    have hR2 : R = false := by
      rw [← HR.out]
      refine decide_eq_false fun e => hnm ?_
      rw [← HN.out.1, ← HN.out.2, e]
    subst hR2
    go_enter Tryz.func49, Tryz.ntmps49
    go_wp2
    go_ret
    exact ⟨rfl, Below.refl _ _⟩


theorem eql_pl (p q : P3) (b : Bool) (h : samP p q = b) (w : World) : (binOp .eql 43 (plV p) (plV q)).run Tryz.prog w = .ok (.bool b) w := by
  rw [run_eql_struct, show (Op.equalIn 10000 43 (plV p) (plV q)).run Tryz.prog w = .ok (samP p q) w from eqIn_pl p.1 p.2.1 p.2.2 q.1 q.2.1 q.2.2 w, ← h]; rfl

end Go.Proofs.YtgimcloadjjefabGreatDoor
