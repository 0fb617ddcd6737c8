/- Of all lists vellumlaw03.AttrsThree answers true: the walk. -/
import Derived.Test.YtbbkbfcgjljmkaaDoorBothv
namespace Go.Proofs.YtbbkbfcgjljmkaaDoor
open Go Go.RowKit Go.Lib
set_option linter.unusedVariables false

/-- What Check answers; behind it the world is below the one ahead of it. -/
theorem check_at {I : List Nat} {a : Nat → Addr} (v : Value) (L : List A2) (nulls : Bool) {w : World} (hI : ∀ i ∈ IX, i ∈ I) (hS : Std I a w) (hv : RowA w v L) (hs : Small L) (hl : L.length ≤ 4611686018427387904) (e : Nat) (he : listE nulls none L = e) (W : World) (hW : Below w.heap.size w W) :
    Calls Tryd.prog 12 #[v, .bool nulls] W fun r w' => r = .returned (errOf a e) ∧ Below W.heap.size W w' := by
  have := check_gen v L nulls W hI (hS.below hW) (hv.below hW) hs hl
  rwa [he] at this

set_option maxHeartbeats 4000000 in
set_option maxRecDepth 100000 in
theorem three_any {I : List Nat} {a : Nat → Addr} (va vb vc : Value) (A B C : List A2) (w : World) (hI : ∀ i ∈ IX, i ∈ I) (hS : Std I a w) (hA : RowA w va A) (hB : RowA w vb B) (hC : RowA w vc C) (sA : Small A) (sB : Small B) (sC : Small C)
    (lA : A.length ≤ 281474976710656) (lB : B.length ≤ 281474976710656) (lC : C.length ≤ 281474976710656) :
    Calls Tryd.prog 5 #[va, vb, vc] w fun r w' => r = .returned (.bool true) ∧ Below w.heap.size w w' := by
  have cL := lives_any w hI hS
  obtain ⟨pa, ca, rfl, _⟩ := hA.val
  obtain ⟨pb, cb, rfl, _⟩ := hB.val
  obtain ⟨pc, cc, rfl, _⟩ := hC.val
  by_cases hL : A.length + B.length + C.length ≤ 2000
  · have hLI : ¬ (2000 : Int) < (A.length : Int) + B.length + C.length := by omega
    have cA := fun e he => check_from _ A true hI hS hA sA (by omega) e he
    have cB := fun e he => check_from _ B true hI hS hB sB (by omega) e he
    have cC := fun e he => check_from _ C true hI hS hC sC (by omega) e he
    cases hEA : listE true none A with
    | succ e =>
      have cA' := cA _ hEA
      rw [errOf_succ] at cA'
      clear cA cB cC hA hB hC hS hI sA sB sC hEA hL
      generalize A.length = n at *
      generalize B.length = m at *
      generalize C.length = l at *
      go_enter Tryd.func5, Tryd.ntmps5
      go_wp2_with fail
      refine cL.mono ?_; rintro r w1 ⟨rfl, b1⟩
      go_wp2_with fail
      refine (cA' _ b1).mono ?_; rintro r w2 ⟨rfl, b2⟩
      go_wp2
      go_ret
      exact ⟨rfl, b2⟩
    | zero =>
      have cA' := cA _ hEA
      rw [errOf_zero] at cA'
      cases hEB : listE true none B with
      | succ e =>
        have cB' := cB _ hEB
        rw [errOf_succ] at cB'
        clear cA cB cC hA hB hC hS hI sA sB sC hEA hEB hL
        generalize A.length = n at *
        generalize B.length = m at *
        generalize C.length = l at *
        go_enter Tryd.func5, Tryd.ntmps5
        go_wp2_with fail
        refine cL.mono ?_; rintro r w1 ⟨rfl, b1⟩
        go_wp2_with fail
        refine (cA' _ b1).mono ?_; rintro r w2 ⟨rfl, b2⟩
        go_wp2_with fail
        refine (cB' _ b2).mono ?_; rintro r w3 ⟨rfl, b3⟩
        go_wp2
        go_ret
        exact ⟨rfl, b3⟩
      | zero =>
        have cB' := cB _ hEB
        rw [errOf_zero] at cB'
        cases hEC : listE true none C with
        | succ e =>
          have cC' := cC _ hEC
          rw [errOf_succ] at cC'
          clear cA cB cC hA hB hC hS hI sA sB sC hEA hEB hEC hL
          generalize A.length = n at *
          generalize B.length = m at *
          generalize C.length = l at *
          go_enter Tryd.func5, Tryd.ntmps5
          go_wp2_with fail
          refine cL.mono ?_; rintro r w1 ⟨rfl, b1⟩
          go_wp2_with fail
          refine (cA' _ b1).mono ?_; rintro r w2 ⟨rfl, b2⟩
          go_wp2_with fail
          refine (cB' _ b2).mono ?_; rintro r w3 ⟨rfl, b3⟩
          go_wp2_with fail
          refine (cC' _ b3).mono ?_; rintro r w4 ⟨rfl, b4⟩
          go_wp2
          go_ret
          exact ⟨rfl, b4⟩
        | zero =>
          have cC' := cC _ hEC
          rw [errOf_zero] at cC'
          have pA := pat_of hEA
          have pB := pat_of hEB
          have pC := pat_of hEC
          have cAB := fun W (hW : Below w.heap.size w W) => comp_ok true _ _ A B W hI (hS.below hW) (hA.below hW) (hB.below hW) sA sB (by omega) (both_zero hEA hEB)
          have cBC := fun W (hW : Below w.heap.size w W) => comp_ok true _ _ B C W hI (hS.below hW) (hB.below hW) (hC.below hW) sB sC (by omega) (both_zero hEB hEC)
          have p1 := pA.jn (one_C true) pB
          have p2 := pB.jn (one_C true) pC
          have n1 := jn_len (chC true) A B
          have n2 := jn_len (chC true) B C
          have hX := three1 pA.up pB.up pC.up
          have hY := fun hn => three4 pA.up pB.up pC.up hn
          obtain ⟨AB, hAB⟩ : ∃ L, jn (chC true) A B = L := ⟨_, rfl⟩
          obtain ⟨BC, hBC⟩ : ∃ L, jn (chC true) B C = L := ⟨_, rfl⟩
          rw [hAB] at cAB p1 n1 hX
          rw [hBC] at cBC p2 n2 hX hY
          have cX1 := fun v W (hW : Below w.heap.size w W) (hv : RowA W v AB) => comp_ok true v _ AB C W hI (hS.below hW) hv (hC.below hW) p1.small sC (by omega) (both_zero p1.chk hEC)
          have cX2 := fun v W (hW : Below w.heap.size w W) (hv : RowA W v BC) => comp_ok true _ v A BC W hI (hS.below hW) (hA.below hW) hv sA p2.small (by omega) (both_zero hEA p2.chk)
          have n3 := jn_len (chC true) AB C
          rw [← hX] at cX2
          obtain ⟨X, hX1⟩ : ∃ L, jn (chC true) AB C = L := ⟨_, rfl⟩
          rw [hX1] at cX1 cX2 n3
          have cS := fun v v' W (hv : RowA W v X) (hv' : RowA W v' X) => same_any' v v' X X W hv hv' (by omega) (by omega)
          simp only [decide_true] at cS
          have cN1 := fun W (hW : Below w.heap.size w W) => comp_ok true _ (.slice none 0 0) A [] W hI (hS.below hW) (hA.below hW) (RowA.nil _ _ _) sA Pat.nil.small (by simp; omega) (both_zero hEA Pat.nil.chk)
          have cN2 := fun W (hW : Below w.heap.size w W) => comp_ok true (.slice none 0 0) _ [] A W hI (hS.below hW) (RowA.nil _ _ _) (hA.below hW) Pat.nil.small sA (by simp; omega) (both_zero Pat.nil.chk hEA)
          rw [three2 pA.up] at cN1
          rw [three3 pA.up] at cN2
          have cSA := fun v W (hW : Below w.heap.size w W) (hv : RowA W v A) => same_any' v _ A A W hv (hA.below hW) (by omega) (by omega)
          simp only [decide_true] at cSA
          have cF := check_at _ A false hI hS hA sA (by omega) _ rfl
          have CX1 : Hid _ := cX1
          have CX2 : Hid _ := cX2
          have CS : Hid _ := cS
          have CSA : Hid _ := cSA
          have CN1 : Hid _ := cN1
          have CN2 : Hid _ := cN2
          clear cA cB cC cX1 cX2 cS cSA cN1 cN2 hAB hX hX1 n1 n3 p1
          cases hEF : listE false none A with
          | succ e =>
            rw [hEF, errOf_succ] at cF
            clear hA hB hC hS hI sA sB sC hEA hEB hEC hL pA pB pC p2 n2 hY hBC hEF
            generalize A.length = n at *
            generalize B.length = m at *
            generalize C.length = l at *
            go_enter Tryd.func5, Tryd.ntmps5
            go_wp2_with fail
            refine cL.mono ?_; rintro r w1 ⟨rfl, b1⟩
            go_wp2_with fail
            refine (cA' _ b1).mono ?_; rintro r w2 ⟨rfl, b2⟩
            go_wp2_with fail
            refine (cB' _ b2).mono ?_; rintro r w3 ⟨rfl, b3⟩
            go_wp2_with fail
            refine (cC' _ b3).mono ?_; rintro r w4 ⟨rfl, b4⟩
            clear b1 b2 b3 cA' cB' cC' cL
            go_wp2_with fail
            refine (cAB _ b4).mono ?_; rintro r w5 ⟨v1, rfl, o1, b5⟩
            have b6 := b4.trans (b5.mono b4.size)
            have R1 : Hid (RowA w5 v1 AB) := own_rowA o1
            clear b4 b5 o1 cAB
            go_wp2_with fail
            refine (cBC _ b6).mono ?_; rintro r w6 ⟨v2, rfl, o2, b7⟩
            have b8 := b6.trans (b7.mono b6.size)
            have R2 : Hid (RowA w6 v1 AB ∧ RowA w6 v2 BC) := ⟨RowA.below R1.out b7, own_rowA o2⟩
            clear b6 b7 o2 cBC R1
            go_wp2_with fail
            refine (CX1.out _ _ b8 R2.out.1).mono ?_; rintro r w7 ⟨v3, rfl, o3, b9⟩
            have b10 := b8.trans (b9.mono b8.size)
            have R3 : Hid (RowA w7 v2 BC ∧ RowA w7 v3 X) := ⟨RowA.below R2.out.2 b9, own_rowA o3⟩
            clear b8 b9 o3 CX1 R2
            go_wp2_with fail
            refine (CX2.out _ _ b10 R3.out.1).mono ?_; rintro r w8 ⟨v4, rfl, o4, b11⟩
            have b12 := b10.trans (b11.mono b10.size)
            have R4 : Hid (RowA w8 v2 BC ∧ RowA w8 v3 X ∧ RowA w8 v4 X) := ⟨RowA.below R3.out.1 b11, RowA.below R3.out.2 b11, own_rowA o4⟩
            clear b10 b11 o4 CX2 R3
            go_wp2_with fail
            refine (CS.out _ _ _ R4.out.2.1 R4.out.2.2).mono ?_; rintro r w9 ⟨rfl, b13⟩
            have b14 := b12.trans (b13.mono b12.size)
            have R5 : Hid (RowA w9 v2 BC) := RowA.below R4.out.1 b13
            clear b12 b13 CS R4
            go_wp2_with fail
            refine (CN1.out _ b14).mono ?_; rintro r w10 ⟨v5, rfl, o5, b15⟩
            have b16 := b14.trans (b15.mono b14.size)
            have R6 : Hid (RowA w10 v2 BC ∧ RowA w10 v5 A) := ⟨RowA.below R5.out b15, own_rowA o5⟩
            clear b14 b15 o5 CN1 R5
            go_wp2_with fail
            refine (CN2.out _ b16).mono ?_; rintro r w11 ⟨v6, rfl, o6, b17⟩
            have b18 := b16.trans (b17.mono b16.size)
            have R7 : Hid (RowA w11 v2 BC ∧ RowA w11 v5 A ∧ RowA w11 v6 A) := ⟨RowA.below R6.out.1 b17, RowA.below R6.out.2 b17, own_rowA o6⟩
            clear b16 b17 o6 CN2 R6
            go_wp2_with fail
            refine (CSA.out _ _ b18 R7.out.2.1).mono ?_; rintro r w12 ⟨rfl, b19⟩
            have b20 := b18.trans (b19.mono b18.size)
            have R8 : Hid (RowA w12 v2 BC ∧ RowA w12 v6 A) := ⟨RowA.below R7.out.1 b19, RowA.below R7.out.2.2 b19⟩
            clear b18 b19 R7
            go_wp2_with fail
            refine (CSA.out _ _ b20 R8.out.2).mono ?_; rintro r w13 ⟨rfl, b21⟩
            have b22 := b20.trans (b21.mono b20.size)
            have R9 : Hid (RowA w13 v2 BC) := RowA.below R8.out.1 b21
            clear b20 b21 CSA R8
            go_wp2_with fail
            refine (cF _ b22).mono ?_; rintro r w14 ⟨rfl, b23⟩
            have b24 := b22.trans (b23.mono b22.size)
            go_wp2
            go_ret
            exact ⟨rfl, b24⟩
          | zero =>
            rw [hEF, errOf_zero] at cF
            have hn := (set_of hEF).2
            have hY1 := hY hn
            have cFi := fun W (hW : Below w.heap.size w W) => appl_ok _ _ A B W hI (hS.below hW) (hA.below hW) (hB.below hW) sA sB (by omega) (both_zero hEF hEB)
            have p3 := pA.jn (one_C false) pB
            have nn3 := nn_comp pA.up pB.up
            have n4 := jn_len (chC false) A B
            obtain ⟨F1, hF1⟩ : ∃ L, jn (chC false) A B = L := ⟨_, rfl⟩
            rw [hF1] at cFi p3 nn3 n4 hY1
            have cO := fun v W (hW : Below w.heap.size w W) (hv : RowA W v BC) => appl_ok _ v A BC W hI (hS.below hW) (hA.below hW) hv sA p2.small (by omega) (both_zero hEF p2.chk)
            have cT := fun v W (hW : Below w.heap.size w W) (hv : RowA W v F1) => appl_ok v _ F1 C W hI (hS.below hW) hv (hC.below hW) p3.small sC (by omega) (both_zero (p3.set nn3) hEC)
            have p4 := pA.jn (one_C false) p2
            have nn4 := nn_comp pA.up p2.up
            have n5 := jn_len (chC false) A BC
            rw [← hY1] at cT
            obtain ⟨Y, hY2⟩ : ∃ L, jn (chC false) A BC = L := ⟨_, rfl⟩
            rw [hY2] at cO cT p4 nn4 n5
            have cSY := fun v v' W (hv : RowA W v Y) (hv' : RowA W v' Y) => same_any' v v' Y Y W hv hv' (by omega) (by omega)
            simp only [decide_true] at cSY
            have cK := fun v W (hW : Below w.heap.size w W) (hv : RowA W v Y) => from_below hW (check_gen v Y false W hI (hS.below hW) hv p4.small (by omega))
            rw [p4.set nn4] at cK
            simp only [errOf_zero] at cK
            have CFi : Hid _ := cFi
            have CO : Hid _ := cO
            have CT : Hid _ := cT
            have CSY : Hid _ := cSY
            have CK : Hid _ := cK
            clear hA hB hC hS hI sA sB sC hEA hEB hEC hL pA pB pC p2 n2 hY hBC hEF hn hY1 p3 nn3 n4 hF1 p4 nn4 n5 hY2 cFi cO cT cSY cK
            generalize A.length = n at *
            generalize B.length = m at *
            generalize C.length = l at *
            go_enter Tryd.func5, Tryd.ntmps5
            go_wp2_with fail
            refine cL.mono ?_; rintro r w1 ⟨rfl, b1⟩
            go_wp2_with fail
            refine (cA' _ b1).mono ?_; rintro r w2 ⟨rfl, b2⟩
            go_wp2_with fail
            refine (cB' _ b2).mono ?_; rintro r w3 ⟨rfl, b3⟩
            go_wp2_with fail
            refine (cC' _ b3).mono ?_; rintro r w4 ⟨rfl, b4⟩
            clear b1 b2 b3 cA' cB' cC' cL
            go_wp2_with fail
            refine (cAB _ b4).mono ?_; rintro r w5 ⟨v1, rfl, o1, b5⟩
            have b6 := b4.trans (b5.mono b4.size)
            have R1 : Hid (RowA w5 v1 AB) := own_rowA o1
            clear b4 b5 o1 cAB
            go_wp2_with fail
            refine (cBC _ b6).mono ?_; rintro r w6 ⟨v2, rfl, o2, b7⟩
            have b8 := b6.trans (b7.mono b6.size)
            have R2 : Hid (RowA w6 v1 AB ∧ RowA w6 v2 BC) := ⟨RowA.below R1.out b7, own_rowA o2⟩
            clear b6 b7 o2 cBC R1
            go_wp2_with fail
            refine (CX1.out _ _ b8 R2.out.1).mono ?_; rintro r w7 ⟨v3, rfl, o3, b9⟩
            have b10 := b8.trans (b9.mono b8.size)
            have R3 : Hid (RowA w7 v2 BC ∧ RowA w7 v3 X) := ⟨RowA.below R2.out.2 b9, own_rowA o3⟩
            clear b8 b9 o3 CX1 R2
            go_wp2_with fail
            refine (CX2.out _ _ b10 R3.out.1).mono ?_; rintro r w8 ⟨v4, rfl, o4, b11⟩
            have b12 := b10.trans (b11.mono b10.size)
            have R4 : Hid (RowA w8 v2 BC ∧ RowA w8 v3 X ∧ RowA w8 v4 X) := ⟨RowA.below R3.out.1 b11, RowA.below R3.out.2 b11, own_rowA o4⟩
            clear b10 b11 o4 CX2 R3
            go_wp2_with fail
            refine (CS.out _ _ _ R4.out.2.1 R4.out.2.2).mono ?_; rintro r w9 ⟨rfl, b13⟩
            have b14 := b12.trans (b13.mono b12.size)
            have R5 : Hid (RowA w9 v2 BC) := RowA.below R4.out.1 b13
            clear b12 b13 CS R4
            go_wp2_with fail
            refine (CN1.out _ b14).mono ?_; rintro r w10 ⟨v5, rfl, o5, b15⟩
            have b16 := b14.trans (b15.mono b14.size)
            have R6 : Hid (RowA w10 v2 BC ∧ RowA w10 v5 A) := ⟨RowA.below R5.out b15, own_rowA o5⟩
            clear b14 b15 o5 CN1 R5
            go_wp2_with fail
            refine (CN2.out _ b16).mono ?_; rintro r w11 ⟨v6, rfl, o6, b17⟩
            have b18 := b16.trans (b17.mono b16.size)
            have R7 : Hid (RowA w11 v2 BC ∧ RowA w11 v5 A ∧ RowA w11 v6 A) := ⟨RowA.below R6.out.1 b17, RowA.below R6.out.2 b17, own_rowA o6⟩
            clear b16 b17 o6 CN2 R6
            go_wp2_with fail
            refine (CSA.out _ _ b18 R7.out.2.1).mono ?_; rintro r w12 ⟨rfl, b19⟩
            have b20 := b18.trans (b19.mono b18.size)
            have R8 : Hid (RowA w12 v2 BC ∧ RowA w12 v6 A) := ⟨RowA.below R7.out.1 b19, RowA.below R7.out.2.2 b19⟩
            clear b18 b19 R7
            go_wp2_with fail
            refine (CSA.out _ _ b20 R8.out.2).mono ?_; rintro r w13 ⟨rfl, b21⟩
            have b22 := b20.trans (b21.mono b20.size)
            have R9 : Hid (RowA w13 v2 BC) := RowA.below R8.out.1 b21
            clear b20 b21 CSA R8
            go_wp2_with fail
            refine (cF _ b22).mono ?_; rintro r w14 ⟨rfl, b23⟩
            have b24 := b22.trans (b23.mono b22.size)
            clear cF
            have R10 : Hid (RowA w14 v2 BC) := RowA.below R9.out b23
            clear b22 b23 R9
            go_wp2_with fail
            refine (CO.out _ _ b24 R10.out).mono ?_; rintro r w15 ⟨v7, rfl, o7, b25⟩
            have b26 := b24.trans (b25.mono b24.size)
            have R11 : Hid (RowA w15 v7 Y) := own_rowA o7
            clear b24 b25 o7 CO R10
            go_wp2_with fail
            refine (CFi.out _ b26).mono ?_; rintro r w16 ⟨v8, rfl, o8, b27⟩
            have b28 := b26.trans (b27.mono b26.size)
            have R12 : Hid (RowA w16 v7 Y ∧ RowA w16 v8 F1) := ⟨RowA.below R11.out b27, own_rowA o8⟩
            clear b26 b27 o8 CFi R11
            go_wp2_with fail
            refine (CT.out _ _ b28 R12.out.2).mono ?_; rintro r w17 ⟨v9, rfl, o9, b29⟩
            have b30 := b28.trans (b29.mono b28.size)
            have R13 : Hid (RowA w17 v7 Y ∧ RowA w17 v9 Y) := ⟨RowA.below R12.out.1 b29, own_rowA o9⟩
            clear b28 b29 o9 CT R12
            go_wp2_with fail
            refine (CSY.out _ _ _ R13.out.1 R13.out.2).mono ?_; rintro r w18 ⟨rfl, b31⟩
            have b32 := b30.trans (b31.mono b30.size)
            have R14 : Hid (RowA w18 v7 Y) := RowA.below R13.out.1 b31
            clear b30 b31 CSY R13
            go_wp2_with fail
            refine (CK.out _ _ b32 R14.out).mono ?_; rintro r w19 ⟨rfl, b33⟩
            go_wp2
            go_ret
            exact ⟨rfl, b33⟩
  · have hLI : (2000 : Int) < (A.length : Int) + B.length + C.length := by omega
    clear hA hB hC hS hI sA sB sC hL
    generalize A.length = n at *
    generalize B.length = m at *
    generalize C.length = l at *
    go_enter Tryd.func5, Tryd.ntmps5
    go_wp2_with fail
    refine cL.mono ?_; rintro r w1 ⟨rfl, b1⟩
    go_wp2
    go_ret
    exact ⟨rfl, b1⟩
end Go.Proofs.YtbbkbfcgjljmkaaDoor
