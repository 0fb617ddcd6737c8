/- Of all lists vellumlaw03.AttrsJoins answers true: the walk. -/
import Derived.Test.YtbbkbfcgjljmkaaDoorJc
namespace Go.Proofs.YtbbkbfcgjljmkaaDoor
open Go Go.RowKit Go.Lib
set_option linter.unusedVariables false

set_option maxHeartbeats 8000000 in
set_option maxRecDepth 100000 in
theorem joins_walk {I : List Nat} {a : Nat → Addr} (b : Bool) (va vb : Value) (A B : List A2) (w : World) (hI : ∀ i ∈ IX, i ∈ I) (hS : Std I a w) (hN : Sent a w) (hA : RowA w va A) (hB : RowA w vb B) (lA : A.length ≤ 2000) (lB : B.length ≤ 2000)
    (L1 L2 L3 L4 L5 : List A2) (E1 E2 E3 E4 E5 : Nat) (k1 : L1.length ≤ 4000) (k2 : L2.length ≤ 4000) (k3 : L3.length ≤ 4000) (k4 : L4.length ≤ 4000) (k5 : L5.length ≤ 4000) (e1 : E1 ≤ 19) (e2 : E2 ≤ 19) (e3 : E3 ≤ 19) (e4 : E4 ≤ 19) (e5 : E5 ≤ 19)
    (X1 : CX 22 (fun v8 v9 => #[v8, v9, .bool b]) w a A B E1 L1) (R1 : CR 23 #[va, vb, .bool b] w E1 L1)
    (X2 : CX 24 (fun v8 v9 => #[v8, v9]) w a A B E2 L2) (R2 : CR 25 #[va, vb] w E2 L2)
    (X3 : CX 26 (fun v8 v9 => #[v8, v9]) w a A B E3 L3) (R3 : CR 27 #[va, vb] w E3 L3)
    (X4 : CX 28 (fun v8 v9 => #[v8, v9]) w a A B E4 L4) (R4 : CR 29 #[va, vb] w E4 L4)
    (X5 : CX 30 (fun v8 v9 => #[v8, v9, .bool b]) w a A B E5 L5) (R5 : CR 31 #[va, vb, .bool b] w E5 L5) :
    Calls Tryd.prog 4 #[va, vb, .bool b] w fun r w' => r = .returned (.bool true) ∧ Below w.heap.size w w' := by
  have cL := lives_any w hI hS
  have C1 : Hid (∀ W, Below w.heap.size w W → Calls Tryd.prog 10 #[va] W fun r w' => ∃ v', r = .returned v' ∧ HandA w' v' A ∧ Below W.heap.size W w') := fun W hW => hattrs_any va A W (hA.below hW) (by omega)
  have C2 : Hid (∀ W, Below w.heap.size w W → Calls Tryd.prog 10 #[vb] W fun r w' => ∃ v', r = .returned v' ∧ HandA w' v' B ∧ Below W.heap.size W w') := fun W hW => hattrs_any vb B W (hB.below hW) (by omega)
  have CS : Hid (∀ W v v' L E, Below w.heap.size w W → RowA W v L → RowA W v' L → L.length ≤ 4000 → E ≤ 19 → Calls Tryd.prog 16 #[v, errOf a E, v', .int .i64 E] W fun r w' => r = .returned (.bool true) ∧ Below W.heap.size W w') := fun W v v' L E hW h h' hl he => samen_any v v' L E W (hN.below hW) h h' (by omega) he
  obtain ⟨S0, hS0⟩ : ∃ S0, decide (A = B) = S0 := ⟨_, rfl⟩
  have CE : Hid (∀ W v v', Below w.heap.size w W → RowA W v A → RowA W v' B → Calls Tryd.prog 32 #[v, v'] W fun r w' => r = .returned (.bool S0) ∧ Below W.heap.size W w') := fun W v v' hW h h' => by rw [← hS0]; exact same_any' v v' A B W h h' (by omega) (by omega)
  have CF : Hid (∀ W, Below w.heap.size w W → Calls Tryd.prog 33 #[va, vb] W fun r w' => r = .returned (.bool S0) ∧ Below W.heap.size W w') := fun W hW => by rw [← hS0]; exact refSame_any va vb A B W (hA.below hW) (hB.below hW) (by omega) (by omega)
  have CG : Hid (∀ W v, Below w.heap.size w W → RowA W v A → Calls Tryd.prog 32 #[v, v] W fun r w' => r = .returned (.bool true) ∧ Below W.heap.size W w') := fun W v hW h => by
    have := same_any' v v A A W h h (by omega) (by omega)
    simpa only [decide_true] using this
  have K1 : Hid (∀ W v, Below w.heap.size w W → HandA W v A → Calls Tryd.prog 21 #[v, va] W fun r w' => r = .returned (.bool true) ∧ Below W.heap.size W w') := fun W v hW h => kept_any v va A W h (hA.below hW) (by omega)
  have K2 : Hid (∀ W v, Below w.heap.size w W → HandA W v B → Calls Tryd.prog 21 #[v, vb] W fun r w' => r = .returned (.bool true) ∧ Below W.heap.size W w') := fun W v hW h => kept_any v vb B W h (hB.below hW) (by omega)
  obtain ⟨pa, ca, rfl, hca⟩ := hA.val
  obtain ⟨pb, cb, rfl, hcb⟩ := hB.val
  have XX : Hid (CX 22 (fun v8 v9 => #[v8, v9, .bool b]) w a A B E1 L1 ∧ CX 24 (fun v8 v9 => #[v8, v9]) w a A B E2 L2 ∧ CX 26 (fun v8 v9 => #[v8, v9]) w a A B E3 L3 ∧ CX 28 (fun v8 v9 => #[v8, v9]) w a A B E4 L4 ∧ CX 30 (fun v8 v9 => #[v8, v9, .bool b]) w a A B E5 L5) := ⟨X1, X2, X3, X4, X5⟩
  have RR : Hid (CR 23 #[.slice pa A.length ca, .slice pb B.length cb, .bool b] w E1 L1 ∧ CR 25 #[.slice pa A.length ca, .slice pb B.length cb] w E2 L2 ∧ CR 27 #[.slice pa A.length ca, .slice pb B.length cb] w E3 L3 ∧ CR 29 #[.slice pa A.length ca, .slice pb B.length cb] w E4 L4 ∧ CR 31 #[.slice pa A.length ca, .slice pb B.length cb, .bool b] w E5 L5) := ⟨R1, R2, R3, R4, R5⟩
  have HK : Hid ((L1.length ≤ 4000 ∧ L2.length ≤ 4000 ∧ L3.length ≤ 4000 ∧ L4.length ≤ 4000 ∧ L5.length ≤ 4000) ∧ E1 ≤ 19 ∧ E2 ≤ 19 ∧ E3 ≤ 19 ∧ E4 ≤ 19 ∧ E5 ≤ 19) := ⟨⟨k1, k2, k3, k4, k5⟩, e1, e2, e3, e4, e5⟩
  clear X1 X2 X3 X4 X5 R1 R2 R3 R4 R5 k1 k2 k3 k4 k5 e1 e2 e3 e4 e5 hA hB hS hN hI hS0 hca hcb
  obtain ⟨n, hn⟩ : ∃ n, A.length = n := ⟨_, rfl⟩
  obtain ⟨m, hm⟩ : ∃ n, B.length = n := ⟨_, rfl⟩
  rw [hn] at lA C1 CF K1 RR ⊢
  rw [hm] at lB C2 CF K2 RR ⊢
  clear hn hm
  have lAI : ¬ (2000 : Int) < (n : Int) := by omega
  have lBI : ¬ (2000 : Int) < (m : Int) := by omega
  clear lA lB
  go_enter Tryd.func4, Tryd.ntmps4
  go_wp2_with fail
  refine cL.mono ?_; rintro r w1 ⟨rfl, b1⟩
  clear cL
  go_wp2_with fail
  refine (C1.out _ b1).mono ?_; rintro r w2 ⟨v8, rfl, h8, b2⟩
  have B2 := b1.trans (b2.mono b1.size)
  have H2 : Hid (HandA w2 v8 A) := h8
  clear b1 b2 h8 C1
  go_wp2_with fail
  refine (C2.out _ B2).mono ?_; rintro r w3 ⟨v9, rfl, h9, b3⟩
  have B3 := B2.trans (b3.mono B2.size)
  have H3 : Hid (HandA w3 v8 A ∧ HandA w3 v9 B) := ⟨H2.out.below b3, h9⟩
  clear B2 b3 h9 C2 H2
  go_wp2_with fail
  refine (XX.out.1 _ _ _ B3 H3.out.1.2.1 H3.out.2.2.1).mono ?_; rintro r w4 ⟨x0, rfl, r0, b4⟩
  have B4 := B3.trans (b4.mono B3.size)
  have H4 : Hid (HandA w4 v8 A ∧ HandA w4 v9 B) := ⟨H3.out.1.below b4, H3.out.2.below b4⟩
  have P4 : Hid (RowA w4 x0 L1) := r0
  clear B3 b4 H3 r0
  go_wp2_with fail
  refine (RR.out.1 _ B4).mono ?_; rintro r w5 ⟨y0, rfl, r0, b5⟩
  have B5 := B4.trans (b5.mono B4.size)
  have H5 : Hid (HandA w5 v8 A ∧ HandA w5 v9 B) := ⟨H4.out.1.below b5, H4.out.2.below b5⟩
  have P5 : Hid (RowA w5 x0 L1 ∧ RowA w5 y0 L1) := ⟨P4.out.below b5, r0⟩
  clear B4 b5 H4 r0 P4
  go_wp2_with fail
  refine (CS.out _ _ _ _ _ B5 P5.out.1 P5.out.2 HK.out.1.1 HK.out.2.1).mono ?_; rintro r w6 ⟨rfl, b6⟩
  have B6 := B5.trans (b6.mono B5.size)
  have H6 : Hid (HandA w6 v8 A ∧ HandA w6 v9 B) := ⟨H5.out.1.below b6, H5.out.2.below b6⟩
  clear B5 b6 H5 P5
  go_wp2_with fail
  refine (XX.out.2.1 _ _ _ B6 H6.out.1.2.1 H6.out.2.2.1).mono ?_; rintro r w7 ⟨x1, rfl, r1, b7⟩
  have B7 := B6.trans (b7.mono B6.size)
  have H7 : Hid (HandA w7 v8 A ∧ HandA w7 v9 B) := ⟨H6.out.1.below b7, H6.out.2.below b7⟩
  have P7 : Hid (RowA w7 x1 L2) := r1
  clear B6 b7 H6 r1
  go_wp2_with fail
  refine (RR.out.2.1 _ B7).mono ?_; rintro r w8 ⟨y1, rfl, r1, b8⟩
  have B8 := B7.trans (b8.mono B7.size)
  have H8 : Hid (HandA w8 v8 A ∧ HandA w8 v9 B) := ⟨H7.out.1.below b8, H7.out.2.below b8⟩
  have P8 : Hid (RowA w8 x1 L2 ∧ RowA w8 y1 L2) := ⟨P7.out.below b8, r1⟩
  clear B7 b8 H7 r1 P7
  go_wp2_with fail
  refine (CS.out _ _ _ _ _ B8 P8.out.1 P8.out.2 HK.out.1.2.1 HK.out.2.2.1).mono ?_; rintro r w9 ⟨rfl, b9⟩
  have B9 := B8.trans (b9.mono B8.size)
  have H9 : Hid (HandA w9 v8 A ∧ HandA w9 v9 B) := ⟨H8.out.1.below b9, H8.out.2.below b9⟩
  clear B8 b9 H8 P8
  go_wp2_with fail
  refine (XX.out.2.2.1 _ _ _ B9 H9.out.1.2.1 H9.out.2.2.1).mono ?_; rintro r w10 ⟨x2, rfl, r2, b10⟩
  have B10 := B9.trans (b10.mono B9.size)
  have H10 : Hid (HandA w10 v8 A ∧ HandA w10 v9 B) := ⟨H9.out.1.below b10, H9.out.2.below b10⟩
  have P10 : Hid (RowA w10 x2 L3) := r2
  clear B9 b10 H9 r2
  go_wp2_with fail
  refine (RR.out.2.2.1 _ B10).mono ?_; rintro r w11 ⟨y2, rfl, r2, b11⟩
  have B11 := B10.trans (b11.mono B10.size)
  have H11 : Hid (HandA w11 v8 A ∧ HandA w11 v9 B) := ⟨H10.out.1.below b11, H10.out.2.below b11⟩
  have P11 : Hid (RowA w11 x2 L3 ∧ RowA w11 y2 L3) := ⟨P10.out.below b11, r2⟩
  clear B10 b11 H10 r2 P10
  go_wp2_with fail
  refine (CS.out _ _ _ _ _ B11 P11.out.1 P11.out.2 HK.out.1.2.2.1 HK.out.2.2.2.1).mono ?_; rintro r w12 ⟨rfl, b12⟩
  have B12 := B11.trans (b12.mono B11.size)
  have H12 : Hid (HandA w12 v8 A ∧ HandA w12 v9 B) := ⟨H11.out.1.below b12, H11.out.2.below b12⟩
  clear B11 b12 H11 P11
  go_wp2_with fail
  refine (XX.out.2.2.2.1 _ _ _ B12 H12.out.1.2.1 H12.out.2.2.1).mono ?_; rintro r w13 ⟨x3, rfl, r3, b13⟩
  have B13 := B12.trans (b13.mono B12.size)
  have H13 : Hid (HandA w13 v8 A ∧ HandA w13 v9 B) := ⟨H12.out.1.below b13, H12.out.2.below b13⟩
  have P13 : Hid (RowA w13 x3 L4) := r3
  clear B12 b13 H12 r3
  go_wp2_with fail
  refine (RR.out.2.2.2.1 _ B13).mono ?_; rintro r w14 ⟨y3, rfl, r3, b14⟩
  have B14 := B13.trans (b14.mono B13.size)
  have H14 : Hid (HandA w14 v8 A ∧ HandA w14 v9 B) := ⟨H13.out.1.below b14, H13.out.2.below b14⟩
  have P14 : Hid (RowA w14 x3 L4 ∧ RowA w14 y3 L4) := ⟨P13.out.below b14, r3⟩
  clear B13 b14 H13 r3 P13
  go_wp2_with fail
  refine (CS.out _ _ _ _ _ B14 P14.out.1 P14.out.2 HK.out.1.2.2.2.1 HK.out.2.2.2.2.1).mono ?_; rintro r w15 ⟨rfl, b15⟩
  have B15 := B14.trans (b15.mono B14.size)
  have H15 : Hid (HandA w15 v8 A ∧ HandA w15 v9 B) := ⟨H14.out.1.below b15, H14.out.2.below b15⟩
  clear B14 b15 H14 P14
  go_wp2_with fail
  refine (XX.out.2.2.2.2 _ _ _ B15 H15.out.1.2.1 H15.out.2.2.1).mono ?_; rintro r w16 ⟨x4, rfl, r4, b16⟩
  have B16 := B15.trans (b16.mono B15.size)
  have H16 : Hid (HandA w16 v8 A ∧ HandA w16 v9 B) := ⟨H15.out.1.below b16, H15.out.2.below b16⟩
  have P16 : Hid (RowA w16 x4 L5) := r4
  clear B15 b16 H15 r4
  go_wp2_with fail
  refine (RR.out.2.2.2.2 _ B16).mono ?_; rintro r w17 ⟨y4, rfl, r4, b17⟩
  have B17 := B16.trans (b17.mono B16.size)
  have H17 : Hid (HandA w17 v8 A ∧ HandA w17 v9 B) := ⟨H16.out.1.below b17, H16.out.2.below b17⟩
  have P17 : Hid (RowA w17 x4 L5 ∧ RowA w17 y4 L5) := ⟨P16.out.below b17, r4⟩
  clear B16 b17 H16 r4 P16
  go_wp2_with fail
  refine (CS.out _ _ _ _ _ B17 P17.out.1 P17.out.2 HK.out.1.2.2.2.2 HK.out.2.2.2.2.2).mono ?_; rintro r w18 ⟨rfl, b18⟩
  have B18 := B17.trans (b18.mono B17.size)
  have H18 : Hid (HandA w18 v8 A ∧ HandA w18 v9 B) := ⟨H17.out.1.below b18, H17.out.2.below b18⟩
  clear B17 b18 H17 P17
  go_wp2_with fail
  refine (CE.out _ _ _ B18 H18.out.1.2.1 H18.out.2.2.1).mono ?_; rintro r w19 ⟨rfl, b19⟩
  have B19 := B18.trans (b19.mono B18.size)
  have H19 : Hid (HandA w19 v8 A ∧ HandA w19 v9 B) := ⟨H18.out.1.below b19, H18.out.2.below b19⟩
  clear B18 b19 H18
  go_wp2_with fail
  refine (CF.out _ B19).mono ?_; rintro r w20 ⟨rfl, b20⟩
  have B20 := B19.trans (b20.mono B19.size)
  have H20 : Hid (HandA w20 v8 A ∧ HandA w20 v9 B) := ⟨H19.out.1.below b20, H19.out.2.below b20⟩
  clear B19 b20 H19
  go_wp2_with fail
  refine (CG.out _ _ B20 H20.out.1.2.1).mono ?_; rintro r w21 ⟨rfl, b21⟩
  have B21 := B20.trans (b21.mono B20.size)
  have H21 : Hid (HandA w21 v8 A ∧ HandA w21 v9 B) := ⟨H20.out.1.below b21, H20.out.2.below b21⟩
  clear B20 b21 H20
  go_wp2_with fail
  refine (K1.out _ _ B21 H21.out.1).mono ?_; rintro r w22 ⟨rfl, b22⟩
  have B22 := B21.trans (b22.mono B21.size)
  have H22 : Hid (HandA w22 v8 A ∧ HandA w22 v9 B) := ⟨H21.out.1.below b22, H21.out.2.below b22⟩
  clear B21 b22 H21
  go_wp2_with fail
  refine (K2.out _ _ B22 H22.out.2).mono ?_; rintro r w23 ⟨rfl, b23⟩
  have B23 := B22.trans (b23.mono B22.size)
  have H23 : Hid (HandA w23 v8 A ∧ HandA w23 v9 B) := ⟨H22.out.1.below b23, H22.out.2.below b23⟩
  clear B22 b23 H22
  go_wp2
  go_ret
  exact ⟨rfl, B23⟩

theorem joins_any {I : List Nat} {a : Nat → Addr} (b : Bool) (va vb : Value) (A B : List A2) (w : World) (hI : ∀ i ∈ IX, i ∈ I) (hS : Std I a w) (hN : Sent a w) (hA : RowA w va A) (hB : RowA w vb B) (zA : NilZ va) (zB : NilZ vb) (sA : Tiny A) (sB : Tiny B)
    (lA : A.length ≤ 281474976710656) (lB : B.length ≤ 281474976710656) :
    Calls Tryd.prog 4 #[va, vb, .bool b] w fun r w' => r = .returned (.bool true) ∧ Below w.heap.size w w' := by
  by_cases h1 : A.length ≤ 2000
  · by_cases h2 : B.length ≤ 2000
    · have g := fun ch E => Nat.le_trans (resL_len E (jn ch A B)) (Nat.le_trans (jn_len ch A B) (show A.length + B.length ≤ 4000 by omega))
      have mA := tiny_small sA
      have mB := tiny_small sB
      exact joins_walk b va vb A B w hI hS hN hA hB h1 h2 _ _ _ _ _ _ _ _ _ _ (g _ _) (g _ _) (g _ _) (g _ _) (g _ _) (bothE_le _ _ _ _) (bothE_le _ _ _ _) (bothE_le _ _ _ _) (bothE_le _ _ _ _) (bothE_le _ _ _ _)
        (cx_comp b A B w hI hS mA mB (by omega)) (cr_comp b va vb A B w hS hA hB zA zB sA sB (by omega))
        (cx_appl A B w hI hS mA mB (by omega)) (cr_appl va vb A B w hS hA hB zA zB sA sB (by omega))
        (cx_diff A B w hI hS mA mB (by omega)) (cr_diff va vb A B w hS hA hB zA zB sA sB (by omega))
        (cx_inve A B w hI hS mA mB (by omega)) (cr_inve va vb A B w hS hA hB zA zB sA sB (by omega))
        (cx_tran b A B w hI hS mA mB (by omega)) (cr_tran b va vb A B w hS hA hB zA zB sA sB (by omega))
    · have cL := lives_any w hI hS
      have l1 : ¬ (2000 : Int) < (A.length : Int) := by omega
      have l2 : (2000 : Int) < (B.length : Int) := by omega
      obtain ⟨pa, ca, rfl, hca⟩ := hA.val
      obtain ⟨pb, cb, rfl, hcb⟩ := hB.val
      clear hA hB hS hN hI zA zB sA sB h1 h2
      generalize A.length = n at *
      generalize B.length = m at *
      go_enter Tryd.func4, Tryd.ntmps4
      go_wp2_with fail
      refine cL.mono ?_; rintro r w1 ⟨rfl, b1⟩
      go_wp2
      go_ret
      exact ⟨rfl, b1⟩
  · have cL := lives_any w hI hS
    have l1 : (2000 : Int) < (A.length : Int) := by omega
    obtain ⟨pa, ca, rfl, hca⟩ := hA.val
    obtain ⟨pb, cb, rfl, hcb⟩ := hB.val
    clear hA hB hS hN hI zA zB sA sB h1
    generalize A.length = n at *
    generalize B.length = m at *
    go_enter Tryd.func4, Tryd.ntmps4
    go_wp2_with fail
    refine cL.mono ?_; rintro r w1 ⟨rfl, b1⟩
    go_wp2
    go_ret
    exact ⟨rfl, b1⟩
end Go.Proofs.YtbbkbfcgjljmkaaDoor
