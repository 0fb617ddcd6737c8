/- Of all lists vellumlaw03.AttrsUndone answers true: the walk. -/
import Derived.Test.YtbbkbfcgjljmkaaDoorThreev
import Derived.Deep.RegionHeld3
import Derived.Deep.RegionLaw
import Derived.Laws.AppendOwn
namespace Go.Proofs.YtbbkbfcgjljmkaaDoor
open Go Go.RowKit Go.Lib
set_option linter.unusedVariables false

/-- append onto a row of the call's own, as one step of a region that draws its order. -/
theorem step_append_at {ops : Array Oper} {o : Oper} {a : Act} {w : World} {K : Act → World → Prop} {Q : Exit → Act → World → Prop} {E : Prop}
    (hg : o.guard = none) (s x : Operand) (hop : o.op = Op.call { callee := Callee.builtin Builtin.append, args := #[s, x], argTypes := #[22, 22] })
    (base : Nat) (v : Value) (L : List A2) (hs : a.eval s = v) (hown : OwnA w base v L)
    (b off m c : Nat) (M : List A2) (hx : a.eval x = .slice (some ⟨b, off, none⟩) m c) (hm : M.length = m) (hM : ∀ (j : Nat) (q : A2), M[j]? = some q → PairAt w b (off + j * 4) q)
    (h63 : L.length + m ≤ 1048676) (hbase : base ≤ w.heap.size)
    (hK : ∀ v' w', OwnA w' base v' (L ++ M) → w.grownBy w' v.ownBlock → K (a.put o.dst v') w') :
    if Region.wanted o (yielded ops a.tmps) = true then Oper.wp Tryd.prog o a w K Q else E := by
  have hw : Region.wanted o (yielded ops a.tmps) = true := by simp [Region.wanted, hg]
  rw [if_pos hw]
  obtain ⟨i, z, hi, hz, hz1, hz2, hz3⟩ := infoAt
  obtain ⟨v', w', hrun, r1, r2, _⟩ := run_append_own (P := Tryd.prog) w base 22 o.type 48 i z 4 48 Tryd.underlying22 hi hz hz1 hz2 hz3 (by decide) v L.length (cellsA L) hown ⟨b, off, none⟩ m c (cellsA M) (by rw [cellsA_len, hm]) (fun j u hu => by
    obtain ⟨k, q, hq, hh⟩ := cellsA_inv M j u hu
    obtain ⟨h0, h1, h2, h3⟩ := hM k q hq
    rw [Addr.add_lit]
    rcases hh with ⟨rfl, rfl⟩ | ⟨rfl, rfl⟩ | ⟨rfl, rfl⟩ | ⟨rfl, rfl⟩
    · exact h0
    · exact h1
    · exact h2
    · exact h3) (cellsA_one _) (by unfold maxLen; omega) (by omega) hbase
  unfold Oper.wp
  simp [execOp, hop, resolve, invoke, builtin, hs, hx, hrun, Result.andThen]
  refine hK v' w' ?_ r2
  show w'.ownsRow _ _ _ _ _ _
  rw [cellsA_append, List.length_append, hm]
  exact r1

/-- An empty slice literal. -/
theorem own_empty (w : World) (B : Nat) (hB : B ≤ w.heap.size) : OwnA (w.alloc (.cells #[] 48)).drew B (.slice (some ⟨w.heap.size, 0, none⟩) 0 0) [] :=
  ⟨rfl, Or.inr ⟨w.heap.size, 0, #[], rfl, hB, by show (w.heap.push _)[w.heap.size]? = _; simp, Nat.le_refl _, Nat.zero_le _, rfl, rfl⟩⟩

set_option maxHeartbeats 4000000 in
set_option maxRecDepth 100000 in
theorem undone_any {I : List Nat} {a : Nat → Addr} (va vb vc : Value) (A B C : List A2) (w : World) (hI : ∀ i ∈ IX, i ∈ I) (hS : Std I a w) (hA : RowA w va A) (hB : RowA w vb B) (hC : RowA w vc C) (sA : Small A) (sB : Small B) (sC : Small C)
    (lA : A.length ≤ 281474976710656) (lB : B.length ≤ 281474976710656) (lC : C.length ≤ 281474976710656) :
    Calls Tryd.prog 6 #[va, vb, vc] w fun r w' => r = .returned (.bool true) ∧ Below w.heap.size w w' := by
  have cL := lives_any w hI hS
  obtain ⟨pa, ca, rfl, _⟩ := hA.val
  obtain ⟨pb, cb, rfl, _⟩ := hB.val
  obtain ⟨pc, cc, rfl, _⟩ := hC.val
  by_cases hL : A.length + B.length + C.length ≤ 200
  · have hLI : ¬ (200 : Int) < (A.length : Int) + B.length + C.length := by omega
    have cA := fun e he => check_from _ A false hI hS hA sA (by omega) e he
    have cB := fun e he => check_from _ B false hI hS hB sB (by omega) e he
    have cC := fun e he => check_from _ C true hI hS hC sC (by omega) e he
    cases hEA : listE false none A with
    | succ e =>
      have cA' := cA _ hEA
      rw [errOf_succ] at cA'
      clear cA cB cC hA hB hC hS hI sA sB sC hEA hL
      generalize A.length = n at *
      generalize B.length = m at *
      generalize C.length = l at *
      go_enter Tryd.func6, Tryd.ntmps6
      go_wp2_with fail
      refine cL.mono ?_; rintro r w1 ⟨rfl, b1⟩
      go_wp2_with fail
      refine (cA' _ b1).mono ?_; rintro r w2 ⟨rfl, b2⟩
      go_wp2
      go_ret
      exact ⟨rfl, b2⟩
    | zero =>
      have cA' := cA _ hEA
      rw [errOf_zero] at cA'
      cases hEB : listE false none B with
      | succ e =>
        have cB' := cB _ hEB
        rw [errOf_succ] at cB'
        clear cA cB cC hA hB hC hS hI sA sB sC hEA hEB hL
        generalize A.length = n at *
        generalize B.length = m at *
        generalize C.length = l at *
        go_enter Tryd.func6, Tryd.ntmps6
        go_wp2_with fail
        refine cL.mono ?_; rintro r w1 ⟨rfl, b1⟩
        go_wp2_with fail
        refine (cA' _ b1).mono ?_; rintro r w2 ⟨rfl, b2⟩
        go_wp2_with fail
        refine (cB' _ b2).mono ?_; rintro r w3 ⟨rfl, b3⟩
        go_wp2
        go_ret
        exact ⟨rfl, b3⟩
      | zero =>
        have cB' := cB _ hEB
        rw [errOf_zero] at cB'
        cases hEC : listE true none C with
        | succ e =>
          have cC' := cC _ hEC
          rw [errOf_succ] at cC'
          clear cA cB cC hA hB hC hS hI sA sB sC hEA hEB hEC hL
          generalize A.length = n at *
          generalize B.length = m at *
          generalize C.length = l at *
          go_enter Tryd.func6, Tryd.ntmps6
          go_wp2_with fail
          refine cL.mono ?_; rintro r w1 ⟨rfl, b1⟩
          go_wp2_with fail
          refine (cA' _ b1).mono ?_; rintro r w2 ⟨rfl, b2⟩
          go_wp2_with fail
          refine (cB' _ b2).mono ?_; rintro r w3 ⟨rfl, b3⟩
          go_wp2_with fail
          refine (cC' _ b3).mono ?_; rintro r w4 ⟨rfl, b4⟩
          go_wp2
          go_ret
          exact ⟨rfl, b4⟩
        | zero =>
          have cC' := cC _ hEC
          rw [errOf_zero] at cC'
          obtain ⟨pA, nA⟩ := set_of hEA
          obtain ⟨pB, nB⟩ := set_of hEB
          have pC := pat_of hEC
          have cD := fun W (hW : Below w.heap.size w W) => diff_ok _ _ A B W hI (hS.below hW) (hA.below hW) (hB.below hW) sA sB (by omega) (both_zero hEA hEB)
          have p1 := pA.jn one_D pB
          have n1 := jn_len chD A B
          have u1 := undone1 pA.up pB.up nA nB
          have u2 := undone2 pA.up pB.up nA nB
          obtain ⟨D, hD⟩ : ∃ L, jn chD A B = L := ⟨_, rfl⟩
          rw [hD] at cD p1 n1 u1 u2
          have cSab := fun W (hW : Below w.heap.size w W) => same_any' _ _ A B W (hA.below hW) (hB.below hW) (by omega) (by omega)
          obtain ⟨E, hE⟩ : ∃ E, decide (A = B) = E := ⟨_, rfl⟩
          have hz : ((D.length : Int) == 0) = E := by
            rw [← hE, Bool.eq_iff_iff]
            simp only [beq_iff_eq, decide_eq_true_eq]
            rw [← u1]
            constructor
            · intro h; exact List.eq_nil_of_length_eq_zero (by omega)
            · intro h; rw [h]; rfl
          rw [hE] at cSab
          have cT1 := fun v W (hW : Below w.heap.size w W) (hv : RowA W v D) => appl_ok _ v A D W hI (hS.below hW) (hA.below hW) hv sA p1.small (by omega) (both_zero hEA p1.chk)
          rw [u2] at cT1
          have cSB := fun v W (hW : Below w.heap.size w W) (hv : RowA W v B) => same_any' v _ B B W hv (hB.below hW) (by omega) (by omega)
          simp only [decide_true] at cSB
          have cT2 := fun W (hW : Below w.heap.size w W) => appl_ok _ _ A C W hI (hS.below hW) (hA.below hW) (hC.below hW) sA sC (by omega) (both_zero hEA hEC)
          have cI := fun W (hW : Below w.heap.size w W) => inve_ok _ _ C A W hI (hS.below hW) (hC.below hW) (hA.below hW) sC sA (by omega) (both_zero hEC hEA)
          have p2 := pA.jn (one_C false) pC
          have nn2 := nn_comp pA.up pC.up
          have n2 := jn_len (chC false) A C
          have p3 := pC.jn one_I pA
          have n3 := jn_len chI C A
          have u3 := undone3 pA.up pC.up nA
          have u4 := fun k q => undone4 (k := k) (q := q) pA.up pC.up nA pC.null0
          obtain ⟨F, hF⟩ : ∃ L, jn (chC false) A C = L := ⟨_, rfl⟩
          obtain ⟨V, hV⟩ : ∃ L, jn chI C A = L := ⟨_, rfl⟩
          rw [hF] at cT2 p2 nn2 n2 u3 u4
          rw [hV] at cI p3 n3 u3 u4
          have cT3 := fun v v' W (hW : Below w.heap.size w W) (hv : RowA W v F) (hv' : RowA W v' V) => appl_ok v v' F V W hI (hS.below hW) hv hv' p2.small p3.small (by omega) (both_zero (p2.set nn2) p3.chk)
          rw [u3] at cT3
          have cSA := fun v W (hW : Below w.heap.size w W) (hv : RowA W v A) => same_any' v _ A A W hv (hA.below hW) (by omega) (by omega)
          simp only [decide_true] at cSA
          have cut1 : ∀ k, (cutK V k).length ≤ V.length := fun k => (cutK_sub V k).length_le
          have cT4 := fun (k : Nat) v v' W (hW : Below w.heap.size w W) (hv : RowA W v F) (hv' : RowA W v' (cutK V k)) => appl_ok v v' F (cutK V k) W hI (hS.below hW) hv hv' p2.small (p3.cut k).small (by have := cut1 k; omega) (both_zero (p2.set nn2) (p3.cut k).chk)
          have n4 : ∀ k, (jn (chC false) F (cutK V k)).length ≤ 100000 := fun k => by have := jn_len (chC false) F (cutK V k); have := cut1 k; omega
          have cSF := fun (k : Nat) q (hq : V[k]? = some q) v W (hW : Below w.heap.size w W) (hv : RowA W v (jn (chC false) F (cutK V k))) => same_any' v _ _ A W hv (hA.below hW) (by have := n4 k; omega) (by omega)
          have cSF' : ∀ (k : Nat) q, V[k]? = some q → ∀ v W, Below w.heap.size w W → RowA W v (jn (chC false) F (cutK V k)) → Calls Tryd.prog 32 #[v, .slice pa A.length ca] W fun r w' => r = .returned (.bool false) ∧ Below W.heap.size W w' := fun k q hq v W hW hv => by
            have := cSF k q hq v W hW hv
            rwa [decide_eq_false (u4 k q hq)] at this
          have lV : V.length ≤ 100000 := by omega
          have CD : Hid _ := cD
          have CSAB : Hid _ := cSab
          have CT1 : Hid _ := cT1
          have CSB : Hid _ := cSB
          have CT2 : Hid _ := cT2
          have CI : Hid _ := cI
          have CT3 : Hid _ := cT3
          have CSA : Hid _ := cSA
          have CT4 : Hid _ := cT4
          have CSF : Hid _ := cSF'
          clear cA cB cC hA hB hC hS hI sA sB sC hEA hEB hEC hL pA nA pB nB pC cD p1 n1 u1 u2 hD cSab hE cT1 cSB cT2 cI p2 nn2 n2 p3 n3 u3 u4 hF hV cT3 cSA cut1 cT4 n4 cSF cSF'
          obtain ⟨d, hd⟩ : ∃ d, D.length = d := ⟨_, rfl⟩
          rw [hd] at hz
          have Hd : Hid (D.length = d) := hd
          clear hd
          obtain ⟨nv, hnv⟩ : ∃ d, V.length = d := ⟨_, rfl⟩
          rw [hnv] at lV
          have Hv : Hid (V.length = nv) := hnv
          clear hnv
          generalize A.length = n at *
          generalize B.length = m at *
          generalize C.length = l at *
          go_enter Tryd.func6, Tryd.ntmps6
          go_wp2_with fail
          refine cL.mono ?_; rintro r w1 ⟨rfl, b1⟩
          go_wp2_with fail
          refine (cA' _ b1).mono ?_; rintro r w2 ⟨rfl, b2⟩
          go_wp2_with fail
          refine (cB' _ b2).mono ?_; rintro r w3 ⟨rfl, b3⟩
          go_wp2_with fail
          refine (cC' _ b3).mono ?_; rintro r w4 ⟨rfl, b4⟩
          clear b1 b2 b3 cA' cB' cC' cL
          go_wp2_with fail
          refine (CD.out _ b4).mono ?_; rintro r w5 ⟨v1, rfl, o1, b5⟩
          have b6 := b4.trans (b5.mono b4.size)
          obtain ⟨p1, c1, rfl⟩ := own_slice o1
          have R1 : Hid (RowA w5 (.slice p1 d c1) D) := by have h := own_rowA o1; rw [Hd.out] at h; exact h
          rw [Hd.out]
          clear b4 b5 o1 CD
          go_wp2_with fail
          refine (CSAB.out _ b6).mono ?_; rintro r w6 ⟨rfl, b7⟩
          have b8 := b6.trans (b7.mono b6.size)
          have R2 : Hid (RowA w6 (.slice p1 d c1) D) := RowA.below R1.out b7
          clear b6 b7 R1 CSAB
          go_wp2_with fail
          refine (CT1.out _ _ b8 R2.out).mono ?_; rintro r w7 ⟨v2, rfl, o2, b9⟩
          have b10 := b8.trans (b9.mono b8.size)
          have R3 : Hid (RowA w7 v2 B) := own_rowA o2
          clear b8 b9 o2 R2 CT1
          go_wp2_with fail
          refine (CSB.out _ _ b10 R3.out).mono ?_; rintro r w8 ⟨rfl, b11⟩
          have b12 := b10.trans (b11.mono b10.size)
          clear b10 b11 R3 CSB
          go_wp2_with fail
          refine (CT2.out _ b12).mono ?_; rintro r w9 ⟨v3, rfl, o3, b13⟩
          have b14 := b12.trans (b13.mono b12.size)
          have R4 : Hid (RowA w9 v3 F) := own_rowA o3
          clear b12 b13 o3 CT2
          go_wp2_with fail
          refine (CI.out _ b14).mono ?_; rintro r w10 ⟨v4, rfl, o4, b15⟩
          have b16 := b14.trans (b15.mono b14.size)
          obtain ⟨p4, c4, rfl⟩ := own_slice o4
          have R5 : Hid (RowA w10 v3 F ∧ RowA w10 (.slice p4 nv c4) V) := ⟨RowA.below R4.out b15, by have := own_rowA o4; rw [Hv.out] at this; exact this⟩
          rw [Hv.out]
          clear b14 b15 o4 R4 CI
          go_wp2_with fail
          refine (CT3.out _ _ _ b16 R5.out.1 R5.out.2).mono ?_; rintro r w11 ⟨v5, rfl, o5, b17⟩
          have b18 := b16.trans (b17.mono b16.size)
          have R6 : Hid (RowA w11 v3 F ∧ RowA w11 (.slice p4 nv c4) V ∧ RowA w11 v5 A) := ⟨RowA.below R5.out.1 b17, RowA.below R5.out.2 b17, own_rowA o5⟩
          clear b16 b17 o5 R5 CT3
          go_wp2_with fail
          refine (CSA.out _ _ b18 R6.out.2.2).mono ?_; rintro r w12 ⟨rfl, b19⟩
          have b20 := b18.trans (b19.mono b18.size)
          have R7 : Hid (RowA w12 v3 F ∧ RowA w12 (.slice p4 nv c4) V) := ⟨RowA.below R6.out.1 b19, RowA.below R6.out.2.1 b19⟩
          clear b18 b19 R6 CSA hz
          go_wp2_with fail
          go_loopw [109] (fun i wr => ∃ k : Nat, k ≤ nv ∧ i = .int .i64 k ∧ Below w12.heap.size w12 wr) (fun i _ => nv - (RowKit.intOf i).toNat)
          case atStart => exact ⟨0, Nat.zero_le _, rfl, Below.refl _ _⟩
          case round =>
            obtain ⟨k, hk, rfl, bk⟩ := hrel
            by_cases hlt : k < nv
            · have hltI : (k : Int) < nv := by omega
              obtain ⟨q, hq⟩ : ∃ q, V[k]? = some q := ⟨_, List.getElem?_eq_getElem (by rw [Hv.out]; exact hlt)⟩
              have hV0 := R7.out.2
              obtain ⟨p0, cap0, hv0, hle, hc⟩ := hV0
              obtain ⟨b, off, hp, _⟩ := hc k q hq
              simp only [Value.slice.injEq] at hv0
              obtain ⟨rfl, hnn, rfl⟩ := hv0
              clear hnn
              subst hp
              rw [Hv.out] at hle
              have HM : Hid (∀ (j : Nat) (x : A2), V[j]? = some x → PairAt wr b (off + j * 4) x) := fun j x hx => by
                obtain ⟨b', off', hp', hat⟩ := hc j x hx
                simp only [Option.some.injEq, Addr.mk.injEq, and_true] at hp'
                obtain ⟨rfl, rfl⟩ := hp'
                exact hat.below bk
              have HQ : Hid (V[k]? = some q) := hq
              have bw := b20.trans (bk.mono b20.size)
              have RF : Hid (RowA wr v3 F) := RowA.below R7.out.1 bk
              clear hc hq
              have g1 : (0 : Int) ≤ (k : Int) := by omega
              have g2 : (k : Int) ≤ (c4 : Int) := by omega
              have g3 : (0 : Int) ≤ (k : Int) + 1 := by omega
              have g4 : (k : Int) + 1 ≤ (nv : Int) := by omega
              have g5 : (nv : Int) ≤ (c4 : Int) := by omega
              have hk1 : ([] : List A2).length + k ≤ 1048676 := by simp; omega
              have lM1 : Hid ((V.take k).length = k) := by show _ = _; rw [List.length_take, Hv.out]; omega
              have lM2 : Hid ((V.drop (k + 1)).length = nv - (k + 1)) := by show _ = _; rw [List.length_drop, Hv.out]
              have hk2 : Hid ((V.take k).length + (nv - (k + 1)) ≤ 1048676) := by show _ ≤ _; rw [lM1.out]; omega
              have oE := own_empty wr wr.heap.size (Nat.le_refl _)
              have bE : Hid (Below wr.heap.size wr (wr.alloc (.cells #[] 48)).drew) := ((Below.refl _ _).alloc (Nat.le_refl _) _).drew
              have M1 : Hid (∀ (j : Nat) (x : A2), (V.take k)[j]? = some x → PairAt (wr.alloc (.cells #[] 48)).drew b (off + j * 4) x) := fun j x hx => by
                have hj := (List.getElem?_eq_some_iff.1 hx).1
                rw [List.length_take] at hj
                rw [List.getElem?_take_of_lt (by omega)] at hx
                exact ((HM.out j x hx).below ((Below.refl _ _).alloc (Nat.le_refl _) _)).drew
              have HM3 : Hid (∀ (j : Nat) (x : A2), (V.drop (k + 1))[j]? = some x → PairAt wr b (off + (k + 1) * 4 + j * 4) x) := fun j x hx => by
                rw [List.getElem?_drop] at hx
                rw [show off + (k + 1) * 4 + j * 4 = off + (k + 1 + j) * 4 by omega]
                exact HM.out _ x hx
              have hge2 : Hid (∀ j, Value.ownBlock (.slice (some ⟨wr.heap.size, 0, none⟩) 0 0) = some j → wr.heap.size ≤ j) := fun j hj => by simp only [Value.ownBlock, Option.some.injEq] at hj; omega
              have g7 : ¬ c4 = 0 := by omega
              have g9 : ((k : Int) + 1).toNat = k + 1 := by omega
              have HQF : Hid _ := CSF.out k q HQ.out
              have HCT : Hid _ := CT4.out k
              by_cases hc4 : c4 = k + 1
              · subst hc4
                have g2' : (k : Int) ≤ (k : Int) + 1 := by omega
                have hnv : nv = k + 1 := by omega
                have HM2 : Hid (∀ (j : Nat) (x : A2), (V.drop (k + 1))[j]? = some x → PairAt wr b (off + j * 4) x) := fun j x hx => by
                  have hj := (List.getElem?_eq_some_iff.1 hx).1
                  rw [lM2.out] at hj
                  omega
                have lM3 : Hid ((V.drop (k + 1)).length = 0) := by show _ = _; rw [lM2.out]; omega
                have hk3 : Hid ((V.take k).length + 0 ≤ 1048676) := by show _ ≤ _; rw [lM1.out]; omega
                clear hnv

                have g6 : IntKind.i64.wrap ((k : Int) + 1) = (k : Int) + 1 := IntWalk.i64_in _ (by omega)
                go_wp2_with fail
                go_region_held3 (fun w' => Below w.heap.size w w') (first | (with_reducible assumption) | exact bw.drew | exact (bw.alloc bw.size _).drew | exact (bw.alloc bw.size _))
                  (first
                    | ((refine step_append_at rfl (.tmp 112) (.tmp 115) rfl wr.heap.size (.slice (some ⟨wr.heap.size, 0, none⟩) 0 0) [] rfl oE b off k (k + 1) (V.take k) rfl lM1.out M1.out hk1 bE.out.size ?_; intro v7 w13 own1 gr1; have bA := bE.out.grown gr1 bE.out.size hge2.out; have bA' := bw.trans (bA.mono bw.size); have own1' : OwnA w13 wr.heap.size v7 (V.take k) := own1; have M2 := fun j x hx => (HM2.out j x hx).below bA))
                    | ((refine step_append_at rfl (.tmp 116) (.tmp 120) rfl wr.heap.size v7 (V.take k) rfl own1' b off _ _ (V.drop (k + 1)) rfl lM3.out M2 hk3.out bA.size ?_; intro v8 w14 own2 gr2; have bB := bA.grown gr2 bA.size (fun j hj => (owns_block own1' j hj).1); have bB' := bw.trans (bB.mono bw.size))))
                go_wp2_with fail
                have RF2 : Hid (RowA w14 v3 F ∧ RowA w14 v8 (cutK V k)) := ⟨RowA.below RF.out bB, own_rowA own2⟩
                refine (HCT.out _ _ _ bB' RF2.out.1 RF2.out.2).mono ?_; rintro r w15 ⟨v9, rfl, o9, b21⟩
                have b22 := bB'.trans (b21.mono bB'.size)
                have R8 : Hid (RowA w15 v9 (jn (chC false) F (cutK V k))) := own_rowA o9
                clear o9
                go_wp2_with fail
                refine (HQF.out _ _ b22 R8.out).mono ?_; rintro r w16 ⟨rfl, b23⟩
                have bk2 : Below w12.heap.size w12 w16 := bk.trans ((bB.trans ((b21.mono bB.size).trans (b23.mono (Nat.le_trans bB.size b21.size)))).mono bk.size)
                go_wp2
                go_roundw
                case rel => exact ⟨k + 1, by omega, by go_num, bk2⟩
                case measure => simp [RowKit.intOf]; omega
              · have HM2 := HM3

                have g6 : IntKind.i64.wrap ((k : Int) + 1) = (k : Int) + 1 := IntWalk.i64_in _ (by omega)
                go_wp2_with fail
                go_region_held3 (fun w' => Below w.heap.size w w') (first | (with_reducible assumption) | exact bw.drew | exact (bw.alloc bw.size _).drew | exact (bw.alloc bw.size _))
                  (first
                    | ((refine step_append_at rfl (.tmp 112) (.tmp 115) rfl wr.heap.size (.slice (some ⟨wr.heap.size, 0, none⟩) 0 0) [] rfl oE b off k c4 (V.take k) rfl lM1.out M1.out hk1 bE.out.size ?_; intro v7 w13 own1 gr1; have bA := bE.out.grown gr1 bE.out.size hge2.out; have bA' := bw.trans (bA.mono bw.size); have own1' : OwnA w13 wr.heap.size v7 (V.take k) := own1; have M2 := fun j x hx => (HM2.out j x hx).below bA))
                    | ((refine step_append_at rfl (.tmp 116) (.tmp 120) rfl wr.heap.size v7 (V.take k) rfl own1' b (off + (k + 1) * 4) _ _ (V.drop (k + 1)) rfl lM2.out M2 hk2.out bA.size ?_; intro v8 w14 own2 gr2; have bB := bA.grown gr2 bA.size (fun j hj => (owns_block own1' j hj).1); have bB' := bw.trans (bB.mono bw.size))))
                go_wp2_with fail
                have RF2 : Hid (RowA w14 v3 F ∧ RowA w14 v8 (cutK V k)) := ⟨RowA.below RF.out bB, own_rowA own2⟩
                refine (HCT.out _ _ _ bB' RF2.out.1 RF2.out.2).mono ?_; rintro r w15 ⟨v9, rfl, o9, b21⟩
                have b22 := bB'.trans (b21.mono bB'.size)
                have R8 : Hid (RowA w15 v9 (jn (chC false) F (cutK V k))) := own_rowA o9
                clear o9
                go_wp2_with fail
                refine (HQF.out _ _ b22 R8.out).mono ?_; rintro r w16 ⟨rfl, b23⟩
                have bk2 : Below w12.heap.size w12 w16 := bk.trans ((bB.trans ((b21.mono bB.size).trans (b23.mono (Nat.le_trans bB.size b21.size)))).mono bk.size)
                go_wp2
                go_roundw
                case rel => exact ⟨k + 1, by omega, by go_num, bk2⟩
                case measure => simp [RowKit.intOf]; omega
            · have hltI : ¬ (k : Int) < nv := by omega
              go_wp2
              go_ret
              exact ⟨rfl, b20.trans (bk.mono b20.size)⟩
  · have hLI : (200 : Int) < (A.length : Int) + B.length + C.length := by omega
    clear hA hB hC hS hI sA sB sC hL
    generalize A.length = n at *
    generalize B.length = m at *
    generalize C.length = l at *
    go_enter Tryd.func6, Tryd.ntmps6
    go_wp2_with fail
    refine cL.mono ?_; rintro r w1 ⟨rfl, b1⟩
    go_wp2
    go_ret
    exact ⟨rfl, b1⟩
end Go.Proofs.YtbbkbfcgjljmkaaDoor
