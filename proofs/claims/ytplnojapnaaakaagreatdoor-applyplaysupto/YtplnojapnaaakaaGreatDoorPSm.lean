/- What slices.Equal, attrs.Same and vellumref03.Same answer of two rows of pairs: whether the lists are one. -/
import Derived.Test.YtplnojapnaaakaaGreatDoorPCk
import Derived.Deep.DeepBigQuietO
namespace Go.Proofs.YtplnojapnaaakaaGreatDoor
open Go Go.RowKit Go.Lib
set_option linter.unusedVariables false
theorem eqIn_pl9 (p q : P3) (w : World) : (Op.equalIn 9999 30 (plV p) (plV q)).run Tryz.prog w = .ok (samP p q) w := by
  obtain ⟨k, n, t⟩ := p
  obtain ⟨k', n', t'⟩ := q
  rw [run_equalIn_agg w 9998 30 _ _ (by kernel_rfl) (by kernel_rfl)]
  simp only [Program.fieldsOf, Tryz.underlying30]
  go_simp
  by_cases h1 : k = k'
  · by_cases h2 : n = n'
    · by_cases h3 : t.toList = t'.toList <;> simp [samP, samB, h1, h2, h3]
    · simp [samP, samB, h1, h2]
  · simp [samP, samB, h1]
theorem key_beq (a b : ByteArray) : (a.toList == b.toList) = decide (a = b) := by
  rw [toList_data, toList_data]
  by_cases h : a = b
  · subst h; simp
  · have : ¬ a.data.toList = b.data.toList := fun e => h (ByteArray.ext (Array.ext' e))
    rw [beq_eq_false_iff_ne.2 this, decide_eq_false h]
theorem beq_key {x y : ByteArray} (b : Bool) (h : decide (x = y) = b) : (x.toList == y.toList) = b := by rw [key_beq, h]
theorem eqIn_at (q r : A2) (w : World) : (Op.equalIn 10000 154 (atV q) (atV r)).run Tryz.prog w = .ok (decide (q = r)) w := by
  have hp := fun w => eqIn_pl9 q.2 r.2 w
  obtain ⟨a, p⟩ := q
  obtain ⟨b, p'⟩ := r
  have e : decide ((a, p) = (b, p')) = (decide (a = b) && samP p p') := by
    rw [Bool.eq_iff_iff]; simp only [decide_eq_true_eq, Bool.and_eq_true, samP_iff, Prod.mk.injEq]
  rw [e, run_equalIn_agg w 9999 154 _ _ (by kernel_rfl) (by kernel_rfl)]
  simp only [Program.fieldsOf, Tryz.underlying154]
  simp only at hp
  rw [← key_beq]
  generalize samP p p' = B at hp ⊢
  go_simp
  by_cases h1 : a.toList = b.toList <;> cases B <;> simp [h1]
theorem neq_at (q r : A2) (b : Bool) (h : (!decide (q = r)) = b) (w : World) : (binOp .neq 154 (atV q) (atV r)).run Tryz.prog w = .ok (.bool b) w := by
  rw [run_neq_struct, eqIn_at, ← h]; rfl
theorem guard_at (op : BinOp) (x y : Operand) (q r : A2) (w : World) : (eqGuard op 154 x y (atV q) (atV r)).run Tryz.prog w = .ok () w := run_eqGuard_agg w op _ x y _ _ (by kernel_rfl)

set_option maxHeartbeats 1000000 in
theorem equal_any (va vb : Value) (A B : List A2) (w : World) (hA : RowA w va A) (hB : RowA w vb B) (hl : A.length ≤ 4611686018427387904) (hl2 : B.length ≤ 4611686018427387904) :
    Calls Tryz.prog 166 #[va, vb] w fun r w' => r = .returned (.bool (decide (A = B))) ∧ Below w.heap.size w w' := by
  obtain ⟨n, hn⟩ : ∃ n, A.length = n := ⟨_, rfl⟩
  obtain ⟨m, hm⟩ : ∃ n, B.length = n := ⟨_, rfl⟩
  obtain ⟨pa, ca, rfl, ha, hca⟩ := hA
  obtain ⟨pb, cb, rfl, hb, hcb⟩ := hB
  rw [hn] at ha hl ⊢
  rw [hm] at hb hl2 ⊢
  have HN : Hid (A.length = n ∧ B.length = m) := ⟨hn, hm⟩
  have HA : Hid _ := hca
  have HB : Hid _ := hcb
  obtain ⟨R, hR⟩ : ∃ R, decide (A = B) = R := ⟨_, rfl⟩
  rw [hR]
  have HR : Hid (decide (A = B) = R) := hR
  clear hca hcb hn hm hR
  by_cases hnm : n = m
  · subst hnm
    go_enter Tryz.func166, Tryz.ntmps166
    go_wp2
    go_loopw [13] (fun i wr => ∃ (k : Nat), k ≤ n ∧ i = .int .i64 k ∧ Below w.heap.size w wr ∧ Hid (A.take k = B.take k)) (fun i _ => n - (RowKit.intOf i).toNat)
    case atStart => exact ⟨0, Nat.zero_le _, rfl, Below.refl _ _, rfl⟩
    case round =>
      obtain ⟨k, hk, rfl, hbw, H⟩ := hrel
      by_cases hlt : k < n
      · have hltI : (k : Int) < n := by omega
        obtain ⟨q, hq⟩ : ∃ q, A[k]? = some q := ⟨_, List.getElem?_eq_getElem (by rw [HN.out.1]; exact hlt)⟩
        obtain ⟨r, hr⟩ : ∃ r, B[k]? = some r := ⟨_, List.getElem?_eq_getElem (by rw [HN.out.2]; exact hlt)⟩
        obtain ⟨b, off, rfl, hp⟩ := HA.out k q hq
        obtain ⟨b', off', rfl, hp'⟩ := HB.out k r hr
        obtain ⟨c0, c1, c2, c3⟩ := hp.below hbw
        obtain ⟨d0, d1, d2, d3⟩ := hp'.below hbw
        have gd := fun op x y w => guard_at op x y q r w
        by_cases he : q = r
        · have hne := neq_at q r false (by simpa using he)
          have H2 : Hid (A.take (k + 1) = B.take (k + 1)) := by
            show _ = _
            rw [List.take_add_one, List.take_add_one, H.out, hq, hr, he]
          clear hq hr hp hp' he H
          obtain ⟨q1, q2, q3, q4⟩ := q
          obtain ⟨r1, r2, r3, r4⟩ := r
          simp only at c0 c1 c2 c3 d0 d1 d2 d3
          go_wp2_with fail
          go_quiet (fail)
          go_wp2
          go_roundw
          case rel => exact ⟨k + 1, by omega, by go_num, by first | exact hbw | exact below_drewN hbw _, H2.out⟩
          case measure => simp [RowKit.intOf]; omega
        · have hne := neq_at q r true (by simpa using he)
          have hR2 : R = false := by
            rw [← HR.out]
            refine decide_eq_false fun e => he ?_
            subst e
            exact Option.some.inj (hq.symm.trans hr)
          subst hR2
          clear hq hr hp hp' he H
          obtain ⟨q1, q2, q3, q4⟩ := q
          obtain ⟨r1, r2, r3, r4⟩ := r
          simp only at c0 c1 c2 c3 d0 d1 d2 d3
          go_wp2_with fail
          go_quiet (fail)
          go_wp2
          go_ret
          exact ⟨rfl, by first | exact hbw | exact below_drewN hbw _⟩
      · have hltI : ¬ (k : Int) < n := by omega
        have hR2 : R = true := by
          rw [← HR.out]
          refine decide_eq_true ?_
          have := H.out
          rwa [List.take_of_length_le (by rw [HN.out.1]; omega), List.take_of_length_le (by rw [HN.out.2]; omega)] at this
        subst hR2
        go_wp2
        go_ret
        exact ⟨rfl, hbw⟩
  · have hnm' : ¬ (n : Int) = (m : Int) := by omega
    have hR2 : R = false := by
      rw [← HR.out]
      refine decide_eq_false fun e => hnm ?_
      rw [← HN.out.1, ← HN.out.2, e]
    subst hR2
    go_enter Tryz.func166, Tryz.ntmps166
    go_wp2
    go_ret
    exact ⟨rfl, Below.refl _ _⟩

set_option maxHeartbeats 1000000 in
theorem refSame_any (va vb : Value) (A B : List A2) (w : World) (hA : RowA w va A) (hB : RowA w vb B) (hl : A.length ≤ 4611686018427387904) (hl2 : B.length ≤ 4611686018427387904) :
    Calls Tryz.prog 85 #[va, vb] w fun r w' => r = .returned (.bool (decide (A = B))) ∧ Below w.heap.size w w' := by
  obtain ⟨n, hn⟩ : ∃ n, A.length = n := ⟨_, rfl⟩
  obtain ⟨m, hm⟩ : ∃ n, B.length = n := ⟨_, rfl⟩
  obtain ⟨pa, ca, rfl, ha, hca⟩ := hA
  obtain ⟨pb, cb, rfl, hb, hcb⟩ := hB
  rw [hn] at ha hl ⊢
  rw [hm] at hb hl2 ⊢
  have HN : Hid (A.length = n ∧ B.length = m) := ⟨hn, hm⟩
  have HA : Hid _ := hca
  have HB : Hid _ := hcb
  obtain ⟨R, hR⟩ : ∃ R, decide (A = B) = R := ⟨_, rfl⟩
  rw [hR]
  have HR : Hid (decide (A = B) = R) := hR
  clear hca hcb hn hm hR
  by_cases hnm : n = m
  · subst hnm
    go_enter Tryz.func85, Tryz.ntmps85
    go_wp2
    go_loopw [13] (fun i wr => ∃ (k : Nat), k ≤ n ∧ i = .int .i64 k ∧ Below w.heap.size w wr ∧ Hid (A.take k = B.take k)) (fun i _ => n - (RowKit.intOf i).toNat)
    case atStart => exact ⟨0, Nat.zero_le _, rfl, Below.refl _ _, rfl⟩
    case round =>
      obtain ⟨k, hk, rfl, hbw, H⟩ := hrel
      by_cases hlt : k < n
      · have hltI : (k : Int) < n := by omega
        obtain ⟨q, hq⟩ : ∃ q, A[k]? = some q := ⟨_, List.getElem?_eq_getElem (by rw [HN.out.1]; exact hlt)⟩
        obtain ⟨r, hr⟩ : ∃ r, B[k]? = some r := ⟨_, List.getElem?_eq_getElem (by rw [HN.out.2]; exact hlt)⟩
        obtain ⟨b, off, rfl, hp⟩ := HA.out k q hq
        obtain ⟨b', off', rfl, hp'⟩ := HB.out k r hr
        obtain ⟨c0, c1, c2, c3⟩ := hp.below hbw
        obtain ⟨d0, d1, d2, d3⟩ := hp'.below hbw
        have gd := fun op x y w => guard_at op x y q r w
        by_cases he : q = r
        · have hne := neq_at q r false (by simpa using he)
          have H2 : Hid (A.take (k + 1) = B.take (k + 1)) := by
            show _ = _
            rw [List.take_add_one, List.take_add_one, H.out, hq, hr, he]
          clear hq hr hp hp' he H
          obtain ⟨q1, q2, q3, q4⟩ := q
          obtain ⟨r1, r2, r3, r4⟩ := r
          simp only at c0 c1 c2 c3 d0 d1 d2 d3
          go_wp2_with fail
          go_quiet (fail)
          go_wp2
          go_roundw
          case rel => exact ⟨k + 1, by omega, by go_num, by first | exact hbw | exact below_drewN hbw _, H2.out⟩
          case measure => simp [RowKit.intOf]; omega
        · have hne := neq_at q r true (by simpa using he)
          have hR2 : R = false := by
            rw [← HR.out]
            refine decide_eq_false fun e => he ?_
            subst e
            exact Option.some.inj (hq.symm.trans hr)
          subst hR2
          clear hq hr hp hp' he H
          obtain ⟨q1, q2, q3, q4⟩ := q
          obtain ⟨r1, r2, r3, r4⟩ := r
          simp only at c0 c1 c2 c3 d0 d1 d2 d3
          go_wp2_with fail
          go_quiet (fail)
          go_wp2
          go_ret
          exact ⟨rfl, by first | exact hbw | exact below_drewN hbw _⟩
      · have hltI : ¬ (k : Int) < n := by omega
        have hR2 : R = true := by
          rw [← HR.out]
          refine decide_eq_true ?_
          have := H.out
          rwa [List.take_of_length_le (by rw [HN.out.1]; omega), List.take_of_length_le (by rw [HN.out.2]; omega)] at this
        subst hR2
        go_wp2
        go_ret
        exact ⟨rfl, hbw⟩
  · have hnm' : ¬ (n : Int) = (m : Int) := by omega
    have hR2 : R = false := by
      rw [← HR.out]
      refine decide_eq_false fun e => hnm ?_
      rw [← HN.out.1, ← HN.out.2, e]
    subst hR2
    go_enter Tryz.func85, Tryz.ntmps85
    go_wp2
    go_ret
    exact ⟨rfl, Below.refl _ _⟩

theorem same_any' (va vb : Value) (A B : List A2) (w : World) (hA : RowA w va A) (hB : RowA w vb B) (hl : A.length ≤ 4611686018427387904) (hl2 : B.length ≤ 4611686018427387904) :
    Calls Tryz.prog 154 #[va, vb] w fun r w' => r = .returned (.bool (decide (A = B))) ∧ Below w.heap.size w w' := by
  have c := equal_any va vb A B w hA hB hl hl2
  obtain ⟨pa, ca, rfl, _⟩ := hA.val
  obtain ⟨pb, cb, rfl, _⟩ := hB.val
  generalize decide (A = B) = R at c ⊢
  clear hA hB
  go_enter Tryz.func154, Tryz.ntmps154
  go_wp2_with (go_at_call 166; refine c.mono ?_; rintro r w2 ⟨rfl, hb2⟩)
  go_ret
  exact ⟨rfl, hb2⟩
end Go.Proofs.YtplnojapnaaakaaGreatDoor
