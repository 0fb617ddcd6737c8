/- What vellumref03.Join answers of two patches: the one over the other. -/
import Derived.Test.YtigmhbgdnmkooaaDoorRl
import Derived.Test.YtigmhbgdnmkooaaDoorAx
import Derived.Deep.DeepCutAuto
namespace Go.Proofs.YtigmhbgdnmkooaaDoor
open Go Go.RowKit Go.Lib
set_option linter.unusedVariables false

theorem jt_b {x y : A2} {A B : List A2} (h : kc y.1 x.1 < 0) : jn (chC true) (x :: A) (y :: B) = y :: jn (chC true) (x :: A) B := by
  have hs := kc_swap x.1 y.1
  show joinL _ (x :: A) (y :: B) = _
  rw [joinL, if_neg (by omega), if_neg (by omega)]; rfl
theorem jt_a {x y : A2} {A B : List A2} (h : kc x.1 y.1 < 0) : jn (chC true) (x :: A) (y :: B) = x :: jn (chC true) A (y :: B) := by
  show joinL _ (x :: A) (y :: B) = _
  rw [joinL, if_pos h]; rfl
theorem jt_a0 {x : A2} {A : List A2} : jn (chC true) (x :: A) [] = x :: jn (chC true) A [] := by
  show joinL _ (x :: A) [] = _
  rw [joinL]; rfl
theorem jt_eq {x y : A2} {A B : List A2} (e : y.1 = x.1) (hA : Up (x :: A)) : jn (chC true) (x :: A) (y :: B) = jn (chC true) A (y :: B) := by
  have h0 : kc x.1 y.1 = 0 := by rw [e]; exact kc_self _
  show joinL _ (x :: A) (y :: B) = _
  rw [joinL, if_neg (by omega), if_pos h0]
  cases A with
  | nil =>
    show _ = joinL _ [] (y :: B)
    rw [joinL, e]; rfl
  | cons z A =>
    have hz : kc x.1 z.1 < 0 := List.rel_of_pairwise_cons hA (List.mem_cons_self ..)
    have hzy : kc y.1 z.1 < 0 := by rw [e]; exact hz
    have hs := kc_swap z.1 y.1
    show _ = joinL _ (z :: A) (y :: B)
    rw [joinL, if_neg (by omega), if_neg (by omega), e]; rfl
theorem drop_cons {L : List A2} {k n : Nat} {q : A2} (hn : L.length = n) (hk : k < n) (hq : L[k]? = some q) : L.drop k = q :: L.drop (k + 1) := by
  rw [List.drop_eq_getElem_cons (by omega)]
  rw [List.getElem?_eq_getElem (by omega)] at hq
  rw [Option.some.inj hq]

set_option maxHeartbeats 40000000 in
set_option maxRecDepth 100000 in
theorem join_ref (va vb : Value) (A B : List A2) (w : World) (hA : RowA w va A) (hB : RowA w vb B) (zB : ∀ m c, vb = .slice none m c → m = 0 ∧ c = 0) (uA : Up A) (uB : Up B) (hl : A.length + B.length ≤ 1048576) :
    Calls Tryd.prog 52 #[va, vb] w fun r w' => ∃ v', r = .returned v' ∧ OwnA w' w.heap.size v' (jn (chC true) A B) ∧ Below w.heap.size w w' := by
  obtain ⟨n, hn⟩ : ∃ n, A.length = n := ⟨_, rfl⟩
  obtain ⟨m, hm⟩ : ∃ n, B.length = n := ⟨_, rfl⟩
  have HB0 : Hid (RowA w vb B) := hB
  obtain ⟨pa, ca, rfl, hca, hcA⟩ := hA
  obtain ⟨pb, cb, rfl, hcb, hcB⟩ := hB
  rw [hn] at hl hca ⊢
  rw [hm] at hl hcb HB0 ⊢
  have HN : Hid (A.length = n ∧ B.length = m) := ⟨hn, hm⟩
  have HA : Hid _ := hcA
  have HB : Hid _ := hcB
  have HU : Hid (Up A ∧ Up B) := ⟨uA, uB⟩
  have HZ : Hid _ := zB
  clear hcA hcB hn hm uA uB zB
  have oE := own_empty' w w.heap.size (Nat.le_refl _)
  have bE := (Below.refl w.heap.size w).alloc (Nat.le_refl _) (.cells #[] 48)
  go_enter Tryd.func52, Tryd.ntmps52
  go_wp2_with fail
  obtain ⟨v0, hv0⟩ : ∃ v0 : Value, v0 = .slice (some ⟨w.heap.size, 0, none⟩) 0 0 := ⟨_, rfl⟩
  rw [← hv0] at oE ⊢
  clear hv0
  go_loopw [5, 6, 16] (fun out i kk wr => ∃ (k j : Nat) (O : List A2), k ≤ n ∧ j ≤ m ∧ kk = .int .i64 k ∧ i = .int .i64 j ∧ OwnA wr w.heap.size out O ∧ Below w.heap.size w wr ∧ Hid (jn (chC true) A B = O ++ jn (chC true) (A.drop k) (B.drop j) ∧ O.length ≤ k + j)) (fun _ _ kk _ => n - (RowKit.intOf kk).toNat)
  case atStart => exact ⟨0, 0, [], Nat.zero_le _, Nat.zero_le _, rfl, rfl, oE, bE, by simp, by simp⟩
  case round =>
    obtain ⟨k, j, O, hk, hj, rfl, rfl, own, bw, H⟩ := hrel
    clear oE bE
    by_cases hlt : k < n
    · have hltI : (k : Int) < n := by omega
      obtain ⟨x, hx⟩ : ∃ q, A[k]? = some q := ⟨_, List.getElem?_eq_getElem (by rw [HN.out.1]; exact hlt)⟩
      obtain ⟨b, off, rfl, hp⟩ := HA.out k x hx
      obtain ⟨c0, c1, c2, c3⟩ := hp.below bw
      have HD : Hid (A.drop k = x :: A.drop (k + 1)) := drop_cons HN.out.1 hlt hx
      obtain ⟨xk, xx, xn, xt⟩ := x
      simp only at c0 c1 c2 c3
      have HO : Hid (OwnA wr w.heap.size u5 O) := own
      clear hp hx own
      go_wp2_with fail
      obtain ⟨W1, hW1⟩ : ∃ W1, W1 = wr.alloc (.cells #[.string xk, .int .i64 xx, .int .i64 xn, .string xt] 48) := ⟨_, rfl⟩
      have bW1 : Below w.heap.size w W1 := by rw [hW1]; exact bw.alloc bw.size _
      have oW1 : OwnA W1 w.heap.size u5 O := by rw [hW1]; exact owns_below HO.out ((Below.refl _ _).alloc (Nat.le_refl _) _)
      have pE : PairAt W1 wr.heap.size 0 (xk, xx, xn, xt) := by rw [hW1]; exact ⟨by simp, by simp, by simp, by simp⟩
      have offE : ∀ g, u5.ownBlock = some g → g ≠ wr.heap.size := fun g hg => by
        obtain ⟨_, cur, hc⟩ := owns_block HO.out g hg
        have := (Array.getElem?_eq_some_iff.1 hc).1
        omega
      obtain ⟨E, hE⟩ : ∃ E, wr.heap.size = E := ⟨_, rfl⟩
      rw [hE] at pE offE ⊢
      rw [← hW1]
      clear hW1 hE HO c0 c1 c2 c3 bw
      go_loopw [5, 6] (fun out i wr => ∃ (j : Nat) (O : List A2), j ≤ m ∧ i = .int .i64 j ∧ OwnA wr w.heap.size out O ∧ Below w.heap.size w wr ∧ PairAt wr E 0 (xk, xx, xn, xt) ∧ Hid (∀ g, out.ownBlock = some g → g ≠ E) ∧ Hid (jn (chC true) A B = O ++ jn (chC true) (A.drop k) (B.drop j) ∧ O.length ≤ k + j)) (fun _ i _ => m - (RowKit.intOf i).toNat)
      case atStart => exact ⟨j, O, hj, rfl, oW1, bW1, pE, offE, H⟩
      case round =>
        clear oW1 bW1 pE offE H hj
        obtain ⟨j, O, hj, rfl, own, bw, pE, offE, H⟩ := hrel
        obtain ⟨e0, e1, e2, e3⟩ := pE
        have PE : Hid (PairAt wr E 0 (xk, xx, xn, xt)) := ⟨e0, e1, e2, e3⟩
        have HO : Hid (OwnA wr w.heap.size u5 O) := own
        rw [Nat.zero_add] at e1 e2 e3
        simp only at e0 e1 e2 e3
        have hE : E < wr.heap.size := lt_of_cell e0
        clear own
        by_cases hjl : j < m
        · have hjI : (j : Int) < m := by omega
          have hj0 : (0 : Int) ≤ (j : Int) := by omega
          obtain ⟨y, hy⟩ : ∃ q, B[j]? = some q := ⟨_, List.getElem?_eq_getElem (by rw [HN.out.2]; exact hjl)⟩
          obtain ⟨b', off', rfl, hp⟩ := HB.out j y hy
          obtain ⟨d0, d1, d2, d3⟩ := hp.below bw
          have HD2 : Hid (B.drop j = y :: B.drop (j + 1)) := drop_cons HN.out.2 hjl hy
          obtain ⟨yk, yx, yn, yt⟩ := y
          simp only at d0 d1 d2 d3
          clear hp hy
          by_cases hlt2 : kc yk xk < 0
          · -- b's next is smaller: it comes
            have q1 : Op.bytesLess yk.toList xk.toList = true := by rw [less_kc]; exact decide_eq_true hlt2
            have HH : Hid (jn (chC true) A B = (O ++ [(yk, yx, yn, yt)]) ++ jn (chC true) (A.drop k) (B.drop (j + 1)) ∧ (O ++ [(yk, yx, yn, yt)]).length ≤ k + (j + 1)) := by
              refine ⟨?_, by have := H.out.2; simp; omega⟩
              rw [H.out.1, HD.out, HD2.out, jt_b hlt2]; simp
            have hLn : Hid (O.length + 1 ≤ 2097152) := by show _ ≤ _; have := H.out.2; omega
            clear H
            go_wp2_with fail
            go_quiet (fail)
            obtain ⟨wq, hwq⟩ : ∃ wq, wq = wr.drewN nq := ⟨_, rfl⟩
            have bq : Below w.heap.size w wq := by rw [hwq]; exact below_drewN bw _
            have PQ : Hid (PairAt wq E 0 (xk, xx, xn, xt)) := by rw [hwq]; exact PairAt.drewN PE.out _
            have OQ : Hid (OwnA wq w.heap.size u5 O) := by rw [hwq]; exact owns_same HO.out (fun _ _ => rfl)
            have hEq : E < wq.heap.size := by rw [hwq]; exact hE
            have f0 : wq.cell? ⟨b', off' + j * 4, none⟩ = some (.string yk) := by rw [hwq]; exact d0
            have f1 : wq.cell? ⟨b', off' + j * 4 + 1, none⟩ = some (.int .i64 yx) := by rw [hwq]; exact d1
            have f2 : wq.cell? ⟨b', off' + j * 4 + 2, none⟩ = some (.int .i64 yn) := by rw [hwq]; exact d2
            have f3 : wq.cell? ⟨b', off' + j * 4 + 3, none⟩ = some (.string yt) := by rw [hwq]; exact d3
            rw [← hwq]
            clear hwq HO PE e0 e1 e2 e3 bw hE d0 d1 d2 d3
            have o6 := owns_below OQ.out ((Below.refl wq.heap.size wq).alloc (Nat.le_refl _) (.cells #[.string yk, .int .i64 yx, .int .i64 yn, .string yt] 48))
            have b7 := bq.alloc bq.size (.cells #[.string yk, .int .i64 yx, .int .i64 yn, .string yt] 48)
            have p7 : Hid (PairAt (wq.alloc (.cells #[.string yk, .int .i64 yx, .int .i64 yn, .string yt] 48)) E 0 (xk, xx, xn, xt)) := PairAt.below PQ.out ((Below.refl _ _).alloc (Nat.le_refl _) _)
            have hge : ∀ g, u5.ownBlock = some g → w.heap.size ≤ g := fun g hg => (owns_block o6 g hg).1
            go_wp2_with (at_builtin; refine wpList_append_atx rfl (.tmp 34) (.tmp 39) rfl w.heap.size u5 O rfl o6 wq.heap.size 0 1 1 [(yk, yx, yn, yt)] rfl rfl (one_at ⟨by simp, by simp, by simp, by simp⟩) hLn.out b7.size ?_; intro v' w6 own' gr' hat')
            have b8 := b7.grown gr' b7.size (fun g hg => hge g hg)
            have p8 : PairAt w6 E 0 (xk, xx, xn, xt) := PairAt.grown p7.out gr' (fun e => offE.out E e.symm rfl)
            have off8 : Hid (∀ g, v'.ownBlock = some g → g ≠ E) := fun g hg => by
              rcases hat' with h | h
              · exact offE.out g (by rw [← h]; exact hg)
              · rw [h] at hg
                have := Option.some.inj hg
                simp at this
                omega
            refine ⟨⟨j + 1, _, by omega, by go_num, own', b8, p8, off8, HH.out⟩, ?_⟩
            simp [RowKit.intOf]; omega
          · have q1 : Op.bytesLess yk.toList xk.toList = false := by rw [less_kc]; exact decide_eq_false hlt2
            by_cases heq : yk = xk
            · have q2 := beq_key (x := yk) (y := xk) true (decide_eq_true heq)
              have HH : Hid (jn (chC true) A B = O ++ jn (chC true) (A.drop (k + 1)) (B.drop j) ∧ O.length ≤ k + 1 + j) := by
                refine ⟨?_, by have := H.out.2; omega⟩
                have hu : Up ((xk, xx, xn, xt) :: A.drop (k + 1)) := by rw [← HD.out]; exact List.Pairwise.sublist (List.drop_sublist _ _) HU.out.1
                rw [H.out.1, HD.out, HD2.out, jt_eq heq hu]
              clear H heq hlt2
              go_wp2_with fail
              go_quiet (fail)
              clear offE hE PE
              obtain ⟨wq, hw_wq⟩ : ∃ W', W' = wr.drewN nq := ⟨_, rfl⟩
              have b_wq : Below w.heap.size w wq := by rw [hw_wq]; exact below_drewN bw _
              have O_wq : Hid (OwnA wq w.heap.size u5 O) := by rw [hw_wq]; exact owns_same HO.out (fun _ _ => rfl)
              have e0_wq : wq.cell? ⟨E, 0, none⟩ = some (.string xk) := by rw [hw_wq]; exact e0
              have e1_wq : wq.cell? ⟨E, 1, none⟩ = some (.int .i64 xx) := by rw [hw_wq]; exact e1
              have e2_wq : wq.cell? ⟨E, 2, none⟩ = some (.int .i64 xn) := by rw [hw_wq]; exact e2
              have e3_wq : wq.cell? ⟨E, 3, none⟩ = some (.string xt) := by rw [hw_wq]; exact e3
              have f0_wq : wq.cell? ⟨b', off' + j * 4, none⟩ = some (.string yk) := by rw [hw_wq]; exact d0
              rw [← hw_wq]
              clear hw_wq bw HO e0 e1 e2 e3
              clear d0
              clear d1 d2 d3
              go_wp2_with fail
              go_quiet (fail)
              clear f0_wq e0_wq e1_wq e2_wq e3_wq
              go_wp2_with fail
              go_roundw
              case rel => exact ⟨k + 1, j, O, by omega, hj, by go_num, rfl, owns_same O_wq.out (fun _ _ => rfl), below_drewN b_wq _, HH.out⟩
              case measure => simp [RowKit.intOf]; omega
            · have q2 := beq_key (x := yk) (y := xk) false (decide_eq_false heq)
              have hgt : kc xk yk < 0 := by
                have hs := kc_swap yk xk
                rcases kc_range xk yk with h | h | h
                · omega
                · exact absurd (kc_zero.1 h).symm heq
                · omega
              have HH : Hid (jn (chC true) A B = (O ++ [(xk, xx, xn, xt)]) ++ jn (chC true) (A.drop (k + 1)) (B.drop j) ∧ (O ++ [(xk, xx, xn, xt)]).length ≤ k + 1 + j) := by
                refine ⟨?_, by have := H.out.2; simp; omega⟩
                rw [H.out.1, HD.out, HD2.out, jt_a hgt]; simp
              have hLn : Hid (O.length + 1 ≤ 2097152) := by show _ ≤ _; have := H.out.2; omega
              clear H heq hlt2 hgt
              go_wp2_with fail
              go_quiet (fail)
              clear offE hE PE
              obtain ⟨wq, hw_wq⟩ : ∃ W', W' = wr.drewN nq := ⟨_, rfl⟩
              have b_wq : Below w.heap.size w wq := by rw [hw_wq]; exact below_drewN bw _
              have O_wq : Hid (OwnA wq w.heap.size u5 O) := by rw [hw_wq]; exact owns_same HO.out (fun _ _ => rfl)
              have e0_wq : wq.cell? ⟨E, 0, none⟩ = some (.string xk) := by rw [hw_wq]; exact e0
              have e1_wq : wq.cell? ⟨E, 1, none⟩ = some (.int .i64 xx) := by rw [hw_wq]; exact e1
              have e2_wq : wq.cell? ⟨E, 2, none⟩ = some (.int .i64 xn) := by rw [hw_wq]; exact e2
              have e3_wq : wq.cell? ⟨E, 3, none⟩ = some (.string xt) := by rw [hw_wq]; exact e3
              have f0_wq : wq.cell? ⟨b', off' + j * 4, none⟩ = some (.string yk) := by rw [hw_wq]; exact d0
              rw [← hw_wq]
              clear hw_wq bw HO e0 e1 e2 e3
              clear d0
              clear d1 d2 d3
              go_wp2_with fail
              go_quiet (fail)
              obtain ⟨wz, hw_wz⟩ : ∃ W', W' = wq.drewN nq := ⟨_, rfl⟩
              have b_wz : Below w.heap.size w wz := by rw [hw_wz]; exact below_drewN b_wq _
              have O_wz : Hid (OwnA wz w.heap.size u5 O) := by rw [hw_wz]; exact owns_same O_wq.out (fun _ _ => rfl)
              have e0_wz : wz.cell? ⟨E, 0, none⟩ = some (.string xk) := by rw [hw_wz]; exact e0_wq
              have e1_wz : wz.cell? ⟨E, 1, none⟩ = some (.int .i64 xx) := by rw [hw_wz]; exact e1_wq
              have e2_wz : wz.cell? ⟨E, 2, none⟩ = some (.int .i64 xn) := by rw [hw_wz]; exact e2_wq
              have e3_wz : wz.cell? ⟨E, 3, none⟩ = some (.string xt) := by rw [hw_wz]; exact e3_wq
              have f0_wz : wz.cell? ⟨b', off' + j * 4, none⟩ = some (.string yk) := by rw [hw_wz]; exact f0_wq
              rw [← hw_wz]
              clear hw_wz b_wq O_wq e0_wq e1_wq e2_wq e3_wq
              clear f0_wq
              clear f0_wz
              have o6 := owns_below O_wz.out ((Below.refl wz.heap.size wz).alloc (Nat.le_refl _) (.cells #[.string xk, .int .i64 xx, .int .i64 xn, .string xt] 48))
              have b7 := b_wz.alloc b_wz.size (.cells #[.string xk, .int .i64 xx, .int .i64 xn, .string xt] 48)
              have hge : ∀ g, u5.ownBlock = some g → w.heap.size ≤ g := fun g hg => (owns_block o6 g hg).1
              go_wp2_with (at_builtin; refine wpList_append_atx rfl (.tmp 57) (.tmp 59) rfl w.heap.size u5 O rfl o6 wz.heap.size 0 1 1 [(xk, xx, xn, xt)] rfl rfl (one_at ⟨by simp, by simp, by simp, by simp⟩) hLn.out b7.size ?_; intro v' w6 own' gr' hat')
              have b8 := b7.grown gr' b7.size (fun g hg => hge g hg)
              go_roundw
              case rel => exact ⟨k + 1, j, _, by omega, hj, by go_num, rfl, own', b8, HH.out⟩
              case measure => simp [RowKit.intOf]; omega
        · have hjm : j = m := by omega
          have hjI : decide ((j : Int) < (m : Int)) = false := decide_eq_false (by omega)
          have hjI2 : ¬ (j : Int) < (m : Int) := by omega
          have HD2 : Hid (B.drop j = []) := List.drop_of_length_le (by rw [HN.out.2]; omega)
          have HH : Hid (jn (chC true) A B = (O ++ [(xk, xx, xn, xt)]) ++ jn (chC true) (A.drop (k + 1)) (B.drop j) ∧ (O ++ [(xk, xx, xn, xt)]).length ≤ k + 1 + j) := by
            refine ⟨?_, by have := H.out.2; simp; omega⟩
            rw [H.out.1, HD.out, HD2.out, jt_a0]; simp
          have hLn : Hid (O.length + 1 ≤ 2097152) := by show _ ≤ _; have := H.out.2; omega
          clear H hjm
          go_wp2_with fail
          go_quiet (fail)
          clear offE hE PE
          obtain ⟨wq, hw_wq⟩ : ∃ W', W' = wr.drewN nq := ⟨_, rfl⟩
          have b_wq : Below w.heap.size w wq := by rw [hw_wq]; exact below_drewN bw _
          have O_wq : Hid (OwnA wq w.heap.size u5 O) := by rw [hw_wq]; exact owns_same HO.out (fun _ _ => rfl)
          have e0_wq : wq.cell? ⟨E, 0, none⟩ = some (.string xk) := by rw [hw_wq]; exact e0
          have e1_wq : wq.cell? ⟨E, 1, none⟩ = some (.int .i64 xx) := by rw [hw_wq]; exact e1
          have e2_wq : wq.cell? ⟨E, 2, none⟩ = some (.int .i64 xn) := by rw [hw_wq]; exact e2
          have e3_wq : wq.cell? ⟨E, 3, none⟩ = some (.string xt) := by rw [hw_wq]; exact e3
          rw [← hw_wq]
          clear hw_wq bw HO e0 e1 e2 e3
          go_wp2_with fail
          go_quiet (fail)
          obtain ⟨wz, hw_wz⟩ : ∃ W', W' = wq.drewN nq := ⟨_, rfl⟩
          have b_wz : Below w.heap.size w wz := by rw [hw_wz]; exact below_drewN b_wq _
          have O_wz : Hid (OwnA wz w.heap.size u5 O) := by rw [hw_wz]; exact owns_same O_wq.out (fun _ _ => rfl)
          have e0_wz : wz.cell? ⟨E, 0, none⟩ = some (.string xk) := by rw [hw_wz]; exact e0_wq
          have e1_wz : wz.cell? ⟨E, 1, none⟩ = some (.int .i64 xx) := by rw [hw_wz]; exact e1_wq
          have e2_wz : wz.cell? ⟨E, 2, none⟩ = some (.int .i64 xn) := by rw [hw_wz]; exact e2_wq
          have e3_wz : wz.cell? ⟨E, 3, none⟩ = some (.string xt) := by rw [hw_wz]; exact e3_wq
          rw [← hw_wz]
          clear hw_wz b_wq O_wq e0_wq e1_wq e2_wq e3_wq
          have o6 := owns_below O_wz.out ((Below.refl wz.heap.size wz).alloc (Nat.le_refl _) (.cells #[.string xk, .int .i64 xx, .int .i64 xn, .string xt] 48))
          have b7 := b_wz.alloc b_wz.size (.cells #[.string xk, .int .i64 xx, .int .i64 xn, .string xt] 48)
          have hge : ∀ g, u5.ownBlock = some g → w.heap.size ≤ g := fun g hg => (owns_block o6 g hg).1
          go_wp2_with (at_builtin; refine wpList_append_atx rfl (.tmp 57) (.tmp 59) rfl w.heap.size u5 O rfl o6 wz.heap.size 0 1 1 [(xk, xx, xn, xt)] rfl rfl (one_at ⟨by simp, by simp, by simp, by simp⟩) hLn.out b7.size ?_; intro v' w6 own' gr' hat')
          have b8 := b7.grown gr' b7.size (fun g hg => hge g hg)
          go_roundw
          case rel => exact ⟨k + 1, j, _, by omega, hj, by go_num, rfl, own', b8, HH.out⟩
          case measure => simp [RowKit.intOf]; omega
    · have hkn : k = n := by omega
      have hltI : ¬ (k : Int) < n := by omega
      have HJ : Hid (O ++ B.drop j = jn (chC true) A B ∧ O.length + (m - j) ≤ 2097152) := by
        refine ⟨?_, by have := H.out.2; omega⟩
        have h0 : A.drop k = [] := List.drop_of_length_le (by rw [HN.out.1]; omega)
        rw [H.out.1, h0, three3 (List.Pairwise.sublist (List.drop_sublist _ _) HU.out.2)]
      clear H hkn
      have HO : Hid (OwnA wr w.heap.size u5 O) := own
      clear own
      have lM : Hid ((B.drop j).length = m - j) := by show _ = _; rw [List.length_drop, HN.out.2]
      have hj0 : (0 : Int) ≤ (j : Int) := by omega
      have hj1 : (j : Int) ≤ (m : Int) := by omega
      have hge : ∀ g, u5.ownBlock = some g → w.heap.size ≤ g := fun g hg => (owns_block HO.out g hg).1
      go_upto_region 12 with fail
      go_cut [5] from 62 (fun v' wc => OwnA wc w.heap.size v' (jn (chC true) A B) ∧ Below w.heap.size w wc)
      case first =>
        cases pb with
        | none =>
          obtain ⟨hm0, rfl⟩ := HZ.out _ _ rfl
          have hm1 : m = 0 := by rw [← HN.out.2]; exact hm0
          subst hm1
          obtain rfl : j = 0 := by omega
          have hB0 : Hid (B.drop 0 = []) := by show _ = _; exact List.eq_nil_of_length_eq_zero (by rw [lM.out])
          obtain ⟨i0, z0', hi, hz, hz1, hz2, hz3⟩ := infoAt
          go_wp2_with (at_builtin; refine wpList_append_own_none rfl (.tmp 62) (.tmp 65) 22 rfl w.heap.size 48 i0 4 Tryd.underlying22 hi u5 O.length (cellsA O) rfl HO.out rfl ?_)
          clear hi hz hz1 hz2 hz3
          go_wp2
          go_meet
          case rel => exact ⟨by show OwnA _ _ _ _; rw [← HJ.out.1, hB0.out, List.append_nil]; exact HO.out, bw⟩
        | some ad =>
          by_cases hjm : j = m
          · have hjm' : Hid (j = m) := hjm
            clear hjm
            have hB0 : Hid (B.drop j = []) := by show _ = _; exact List.eq_nil_of_length_eq_zero (by rw [lM.out]; have := hjm'.out; omega)
            have hLO : Hid (O.length ≤ 2097152) := by show _ ≤ _; have := HJ.out.2; omega
            by_cases hcj : cb = j
            · have hcj' : j = cb := hcj.symm
              subst hcj'
              go_wp2_with (at_builtin; refine wpList_append_emp rfl (.tmp 62) (.tmp 65) rfl w.heap.size u5 O rfl HO.out _ _ _ rfl (by have := hjm'.out; omega) hLO.out bw.size ?_; intro v' w6 own' gr' hat')
              go_wp2
              go_meet
              case rel => exact ⟨by show OwnA _ _ _ _; rw [← HJ.out.1, hB0.out, List.append_nil]; exact own', bw.grown gr' bw.size (fun g hg => hge g hg)⟩
            · go_wp2_with (at_builtin; refine wpList_append_emp rfl (.tmp 62) (.tmp 65) rfl w.heap.size u5 O rfl HO.out _ _ _ rfl (by have := hjm'.out; omega) hLO.out bw.size ?_; intro v' w6 own' gr' hat')
              go_wp2
              go_meet
              case rel => exact ⟨by show OwnA _ _ _ _; rw [← HJ.out.1, hB0.out, List.append_nil]; exact own', bw.grown gr' bw.size (fun g hg => hge g hg)⟩
          · obtain ⟨y0, hy0⟩ : ∃ q, B[j]? = some q := ⟨_, List.getElem?_eq_getElem (by rw [HN.out.2]; omega)⟩
            obtain ⟨b0, off0, hpb, _⟩ := HB.out j y0 hy0
            cases hpb
            clear hy0
            have hcj : ¬ cb = j := by omega
            have hM : Hid (∀ (i : Nat) (q : A2), (B.drop j)[i]? = some q → PairAt wr b0 (off0 + j * 4 + i * 4) q) := fun i q hq => by
              rw [List.getElem?_drop] at hq
              obtain ⟨b1, off1, he, h1⟩ := HB.out _ q hq
              cases he
              rw [show off0 + j * 4 + i * 4 = off0 + (j + i) * 4 by omega]
              exact h1.below bw
            have hLO : Hid (O.length + (m - j) ≤ 2097152) := HJ.out.2
            go_wp2_with (at_builtin; refine wpList_append_atx rfl (.tmp 62) (.tmp 65) rfl w.heap.size u5 O rfl HO.out b0 (off0 + j * 4) (m - j) (cb - j) (B.drop j) rfl lM.out hM.out hLO.out bw.size ?_; intro v' w6 own' gr' hat')
            go_wp2
            go_meet
            case rel => exact ⟨by show OwnA _ _ _ _; rw [← HJ.out.1]; exact own', bw.grown gr' bw.size (fun g hg => hge g hg)⟩
      case rest =>
        obtain ⟨OJ0, b8⟩ := hcut
        obtain ⟨w6, hw6⟩ : ∃ w6, w6 = wc := ⟨_, rfl⟩
        subst hw6
        obtain ⟨v', hv'⟩ : ∃ v', v' = u5 := ⟨_, rfl⟩
        subst hv'
        have OJ : Hid (OwnA w6 w.heap.size v' (jn (chC true) A B)) := OJ0
        clear OJ0 HJ HO bw hge lM hj0 hj1 hltI hlt hj hk
        have HR : Hid (RowA w6 v' (jn (chC true) A B)) := own_rowA OJ.out
        have hJl : Hid ((jn (chC true) A B).length ≤ 1048576) := by show _ ≤ _; have := jn_len (chC true) A B; rw [HN.out.1, HN.out.2] at this; omega
        go_wp2_with fail
        go_loopw [5, 69] (fun vv i wr => v' = vv ∧ ∃ k : Nat, k ≤ m ∧ i = .int .i64 k ∧ Below w6.heap.size w6 wr) (fun _ i _ => m - (RowKit.intOf i).toNat)
        case atStart => exact ⟨rfl, 0, Nat.zero_le _, rfl, Below.refl _ _⟩
        case round =>
          obtain ⟨hvv, k, hk, rfl, bk⟩ := hrel
          subst hvv
          by_cases hlt : k < m
          · have hltI : (k : Int) < m := by omega
            obtain ⟨y, hy⟩ : ∃ q, B[k]? = some q := ⟨_, List.getElem?_eq_getElem (by rw [HN.out.2]; exact hlt)⟩
            obtain ⟨b', off', hpb, hp⟩ := HB.out k y hy
            have b9 := b8.trans (bk.mono b8.size)
            obtain ⟨d0, d1, d2, d3⟩ := hp.below b9
            have hlk : look y.1 (jn (chC true) A B) = some y.2 := by
              rw [look_join _ HU.out.1 HU.out.2, mem_look HU.out.2 (List.mem_of_getElem? hy)]
              cases look y.1 A <;> rfl
            obtain ⟨yk, yx, yn, yt⟩ := y
            simp only at d0 d1 d2 d3 hlk
            cases hpb
            have cH := fun W (hW : Below w6.heap.size w6 W) => has_any v' (jn (chC true) A B) yk W (RowA.below HR.out hW) (by have := hJl.out; omega)
            rw [hlk] at cH
            simp only [Option.getD_some, Option.isSome_some] at cH
            have bk1 := bk.alloc bk.size (.cells #[.string yk, .int .i64 yx, .int .i64 yn, .string yt] 48)
            clear hlk hy hp
            go_wp2_with fail
            refine (cH _ bk1).mono ?_; rintro r w8 ⟨rfl, b10⟩
            have bk2 := bk1.trans (b10.mono bk1.size)
            go_wp2_with fail
            go_roundw
            case rel => exact ⟨rfl, k + 1, by omega, by go_num, bk2.alloc bk2.size _⟩
            case measure => simp [RowKit.intOf]; omega
          · have hltI : ¬ (k : Int) < m := by omega
            have OK : Hid (OwnA wr w.heap.size v' (jn (chC true) A B)) := owns_below OJ.out bk
            go_wp2
            go_ret
            exact ⟨_, rfl, OK.out, b8.trans (bk.mono b8.size)⟩
end Go.Proofs.YtigmhbgdnmkooaaDoor
