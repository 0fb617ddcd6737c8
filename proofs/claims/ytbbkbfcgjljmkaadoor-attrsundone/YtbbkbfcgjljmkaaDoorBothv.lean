/- Of all lists vellumlaw03.AttrsBoth answers true: the walk. -/
import Derived.Test.YtbbkbfcgjljmkaaDoorLf
namespace Go.Proofs.YtbbkbfcgjljmkaaDoor
open Go Go.RowKit Go.Lib
set_option linter.unusedVariables false

/-- What Check answers, from a world on. -/
theorem check_from {I : List Nat} {a : Nat → Addr} (v : Value) (L : List A2) (nulls : Bool) {w : World} (hI : ∀ i ∈ IX, i ∈ I) (hS : Std I a w) (hv : RowA w v L) (hs : Small L) (hl : L.length ≤ 4611686018427387904) (e : Nat) (he : listE nulls none L = e) (W : World) (hW : Below w.heap.size w W) :
    Calls Tryd.prog 12 #[v, .bool nulls] W fun r w' => r = .returned (errOf a e) ∧ Below w.heap.size w w' := by
  have := from_below hW (check_gen v L nulls W hI (hS.below hW) (hv.below hW) hs hl)
  rwa [he] at this

set_option maxHeartbeats 2000000 in
theorem both_any {I : List Nat} {a : Nat → Addr} (va vb : Value) (A B : List A2) (w : World) (hI : ∀ i ∈ IX, i ∈ I) (hS : Std I a w) (hA : RowA w va A) (hB : RowA w vb B) (sA : Small A) (sB : Small B)
    (lA : A.length ≤ 281474976710656) (lB : B.length ≤ 281474976710656) :
    Calls Tryd.prog 7 #[va, vb] w fun r w' => r = .returned (.bool true) ∧ Below w.heap.size w w' := by
  have cL := lives_any w hI hS
  obtain ⟨pa, ca, rfl, _⟩ := hA.val
  obtain ⟨pb, cb, rfl, _⟩ := hB.val
  by_cases hL : A.length + B.length ≤ 2000
  · have hLI : ¬ (2000 : Int) < (A.length : Int) + B.length := by omega
    have cA := fun e he => check_from _ A true hI hS hA sA (by omega) e he
    have cB := fun e he => check_from _ B true hI hS hB sB (by omega) e he
    cases hEA : listE true none A with
    | succ e =>
      have cA' := cA _ hEA
      rw [errOf_succ] at cA'
      clear cA cB hA hB hS hI sA sB hEA hL
      generalize A.length = n at *
      generalize B.length = m at *
      go_enter Tryd.func7, Tryd.ntmps7
      go_wp2_with fail
      refine cL.mono ?_; rintro r w1 ⟨rfl, b1⟩
      go_wp2_with fail
      refine (cA' _ b1).mono ?_; rintro r w2 ⟨rfl, b2⟩
      go_wp2
      go_ret
      exact ⟨rfl, b2⟩
    | zero =>
      have cA' := cA _ hEA
      rw [errOf_zero] at cA'
      cases hEB : listE true none B with
      | succ e =>
        have cB' := cB _ hEB
        rw [errOf_succ] at cB'
        clear cA cB hA hB hS hI sA sB hEA hEB hL
        generalize A.length = n at *
        generalize B.length = m at *
        go_enter Tryd.func7, Tryd.ntmps7
        go_wp2_with fail
        refine cL.mono ?_; rintro r w1 ⟨rfl, b1⟩
        go_wp2_with fail
        refine (cA' _ b1).mono ?_; rintro r w2 ⟨rfl, b2⟩
        go_wp2_with fail
        refine (cB' _ b2).mono ?_; rintro r w3 ⟨rfl, b3⟩
        go_wp2
        go_ret
        exact ⟨rfl, b3⟩
      | zero =>
        have cB' := cB _ hEB
        rw [errOf_zero] at cB'
        have pA := pat_of hEA
        have pB := pat_of hEB
        have cT1 := fun W (hW : Below w.heap.size w W) => tran_ok true _ _ A B W hI (hS.below hW) (hA.below hW) (hB.below hW) sA sB (by omega) (both_zero hEA hEB)
        have cT2 := fun W (hW : Below w.heap.size w W) => tran_ok false _ _ B A W hI (hS.below hW) (hB.below hW) (hA.below hW) sB sA (by omega) (both_zero hEB hEA)
        have p1 := pA.jn (one_T true) pB
        have p2 := pB.jn (one_T false) pA
        have n1 := jn_len (chT true) A B
        have n2 := jn_len (chT false) B A
        have hXY := both1 pA.up pB.up
        obtain ⟨L1, hL1⟩ : ∃ L, jn (chT true) A B = L := ⟨_, rfl⟩
        obtain ⟨L2, hL2⟩ : ∃ L, jn (chT false) B A = L := ⟨_, rfl⟩
        rw [hL1] at cT1 p1 n1 hXY
        rw [hL2] at cT2 p2 n2 hXY
        have cC1 := fun v W (hW : Below w.heap.size w W) (hv : RowA W v L1) => comp_ok true _ v A L1 W hI (hS.below hW) (hA.below hW) hv sA p1.small (by omega) (both_zero hEA p1.chk)
        have cC2 := fun v W (hW : Below w.heap.size w W) (hv : RowA W v L2) => comp_ok true _ v B L2 W hI (hS.below hW) (hB.below hW) hv sB p2.small (by omega) (both_zero hEB p2.chk)
        have n3 := jn_len (chC true) A L1
        rw [← hXY] at cC2
        obtain ⟨X, hX⟩ : ∃ L, jn (chC true) A L1 = L := ⟨_, rfl⟩
        rw [hX] at cC1 cC2 n3
        have cS := fun v v' W (hv : RowA W v X) (hv' : RowA W v' X) => same_any' v v' X X W hv hv' (by omega) (by omega)
        simp only [decide_true] at cS
        have C1 : Hid _ := cC1
        have C2 : Hid _ := cC2
        have CS : Hid _ := cS
        clear cA cB hA hB hS hI sA sB hEA hEB hL pA pB p1 p2 n1 n2 hXY hX hL1 hL2 n3 cC1 cC2 cS
        generalize A.length = n at *
        generalize B.length = m at *
        go_enter Tryd.func7, Tryd.ntmps7
        go_wp2_with fail
        refine cL.mono ?_; rintro r w1 ⟨rfl, b1⟩
        go_wp2_with fail
        refine (cA' _ b1).mono ?_; rintro r w2 ⟨rfl, b2⟩
        go_wp2_with fail
        refine (cB' _ b2).mono ?_; rintro r w3 ⟨rfl, b3⟩
        clear b1 b2 cA' cB' cL
        go_wp2_with fail
        refine (cT1 _ b3).mono ?_; rintro r w4 ⟨v1, rfl, o1, b4⟩
        have b5 := b3.trans (b4.mono b3.size)
        have R1 : Hid (RowA w4 v1 L1) := own_rowA o1
        clear b3 b4 o1 cT1
        go_wp2_with fail
        refine (cT2 _ b5).mono ?_; rintro r w5 ⟨v2, rfl, o2, b6⟩
        have b7 := b5.trans (b6.mono b5.size)
        have R2 : Hid (RowA w5 v1 L1 ∧ RowA w5 v2 L2) := ⟨R1.out.below b6, own_rowA o2⟩
        clear b5 b6 o2 cT2 R1
        go_wp2_with fail
        refine (C1.out _ _ b7 R2.out.1).mono ?_; rintro r w6 ⟨v3, rfl, o3, b8⟩
        have b9 := b7.trans (b8.mono b7.size)
        have R3 : Hid (RowA w6 v2 L2 ∧ RowA w6 v3 X) := ⟨R2.out.2.below b8, own_rowA o3⟩
        clear b7 b8 o3 C1 R2
        go_wp2_with fail
        refine (C2.out _ _ b9 R3.out.1).mono ?_; rintro r w7 ⟨v4, rfl, o4, b10⟩
        have b11 := b9.trans (b10.mono b9.size)
        have R4 : Hid (RowA w7 v3 X ∧ RowA w7 v4 X) := ⟨R3.out.2.below b10, own_rowA o4⟩
        clear b9 b10 o4 C2 R3
        go_wp2_with fail
        refine (CS.out _ _ _ R4.out.1 R4.out.2).mono ?_; rintro r w8 ⟨rfl, b12⟩
        go_wp2
        go_ret
        exact ⟨rfl, b11.trans (b12.mono b11.size)⟩
  · have hLI : (2000 : Int) < (A.length : Int) + B.length := by omega
    clear hA hB hS hI sA sB hL
    generalize A.length = n at *
    generalize B.length = m at *
    go_enter Tryd.func7, Tryd.ntmps7
    go_wp2_with fail
    refine cL.mono ?_; rintro r w1 ⟨rfl, b1⟩
    go_wp2
    go_ret
    exact ⟨rfl, b1⟩
end Go.Proofs.YtbbkbfcgjljmkaaDoor
