/- Of all operations vellumlaw04.ContentThree answers true. -/
import Derived.Test.YtecmdlecfddeeaaDoorThrf4
namespace Go.Proofs.YtecmdlecfddeeaaDoor
open Go Go.RowKit Go.Lib
set_option linter.unusedVariables false

theorem lenO_le {o : Op5} (h : Ins o) : lenO o ≤ o.t.size + 1 := by
  unfold lenO
  split
  · have := (valid_text o.t h.utf).2.2
    omega
  · omega
theorem jE_of {o o' : Op5} (h : Ins o) (h' : Ins o') : joinE o o' = 0 := by unfold joinE; rw [if_pos h.zero, h'.zero]
theorem jR_of {o o' : Op5} (h : jB o o' = true) : jR o o' = joinO o o' := by unfold jR; rw [if_pos h]

theorem three_any4 {I : List Nat} {ad : Nat → Addr} (a b c : Op5) (va vb vc : Value) (w : World) (hI : ∀ i ∈ IC, i ∈ I) (hS : Std I ad w) (ra : RN w va a.A) (rb : RN w vb b.A) (rc : RN w vc c.A)
    (fa : Fit a) (fb : Fit b) (fc : Fit c) (ta : a.t.size ≤ 1048576) (tb : b.t.size ≤ 1048576) (tc : c.t.size ≤ 1048576) :
    Calls Tryd.prog 7 #[opV a va, opV b vb, opV c vc] w fun r w' => r = .returned (.bool true) ∧ Below w.heap.size w w' := by
  have b0 := bxT_below w a b c va vb vc
  have S0 := hS.below b0
  have cL := lives_any4 (bxT w a b c va vb vc) hI S0
  have ra := ra.below b0
  have rb := rb.below b0
  have rc := rc.below b0
  have J1 : JC a va b vb (bxT w a b c va vb vc) (jR a b) (jB a b) (errOf ad (joinE a b)) := fun W hW h1 h2 => join_any a b va vb W hI (S0.below hW) h1 h2 fa fb
  have J2 : JC b vb c vc (bxT w a b c va vb vc) (jR b c) (jB b c) (errOf ad (joinE b c)) := fun W hW h1 h2 => join_any b c vb vc W hI (S0.below hW) h1 h2 fb fc
  cases h1 : joinE a b with
  | succ e1 =>
    rw [h1, jB_err h1, errOf_succ] at J1
    cases h2 : joinE b c with
    | succ e2 =>
      rw [h2, jB_err h2, errOf_succ] at J2
      exact three_5 a b c va vb vc w _ _ e1 e2 cL ra rb rc J1 J2
    | zero =>
      rw [h2, errOf_zero] at J2
      cases h3 : jB b c with
      | false => rw [h3] at J2; exact three_1 a b c va vb vc w _ _ e1 0 cL ra rb rc J1 J2
      | true => rw [h3] at J2; exact three_2 a b c va vb vc w _ _ e1 0 cL ra rb rc J1 J2
  | zero =>
    rw [h1, errOf_zero] at J1
    cases h2 : joinE b c with
    | succ e2 =>
      rw [h2, jB_err h2, errOf_succ] at J2
      cases h3 : jB a b with
      | false => rw [h3] at J1; exact three_3 a b c va vb vc w _ _ 0 e2 cL ra rb rc J1 J2
      | true => rw [h3] at J1; exact three_4 a b c va vb vc w _ _ 0 e2 cL ra rb rc J1 J2
    | zero =>
      rw [h2, errOf_zero] at J2
      cases h3 : jB a b with
      | false => rw [h3] at J1; exact three_6 (ad := ad) a b c va vb vc w _ _ 0 0 _ cL ra rb rc J1 J2
      | true =>
        obtain ⟨ia, ib, ka, kb, hA⟩ := jB_yes h3
        rw [h3, jR_of h3] at J1
        have ix := ins_join ia ib
        have fx : Fit (joinO a b) := fit_join fa (by omega)
        have hsx : (joinO a b).t.size = a.t.size + b.t.size := ByteArray.size_append
        have hl : ∀ e ∈ cellsOf (joinO a b), e.2.2.2.length ≤ 4194304 := fun e he => by
          rw [cellsOf_A _ e he]
          show a.A.length ≤ _
          have := fa.n
          omega
        have hn : (cellsOf (joinO a b)).length ≤ 33554432 := by
          rw [cellsOf_len]
          have := lenO_le ix
          omega
        have kca : CCt a va (bxT w a b c va vb vc) (cellsOf a) := fun W hW h => cellsO_any a va W hI (S0.below hW) h fa ia
        have kcb : CCt b vb (bxT w a b c va vb vc) (cellsOf b) := fun W hW h => cellsO_any b vb W hI (S0.below hW) h fb ib
        have kcx : ∀ s, CCt (joinO a b) s (bxT w a b c va vb vc) (cellsOf (joinO a b)) := fun s W hW h => cellsO_any (joinO a b) s W hI (S0.below hW) h fx ix
        cases h4 : jB b c with
        | false =>
          rw [h4] at J2
          exact three_7 (ad := ad) a b c va vb vc w _ _ 0 0 cL ra rb rc J1 J2 _ _ _ ka kb (cells_join ia ib ka kb hA) hl hn kca kcb kcx
        | true =>
          obtain ⟨_, ic, _, kc', hB⟩ := jB_yes h4
          rw [h4, jR_of h4] at J2
          have iy := ins_join ib ic
          have fy : Fit (joinO b c) := fit_join fb (by omega)
          have e3 : jB (joinO a b) c = true := jB_of ix ic rfl kc' (hA.trans hB)
          have e4 : jB a (joinO b c) = true := jB_of ia iy ka rfl hA
          have cXC : ∀ s, JC (joinO a b) s c vc (bxT w a b c va vb vc) (joinO (joinO a b) c) true .nilIface := fun s W hW g1 g2 => by
            have := join_any (joinO a b) c s vc W hI (S0.below hW) g1 g2 fx fc
            rwa [jR_of e3, e3, jE_of ix ic, errOf_zero] at this
          have cAY : ∀ s, JC a va (joinO b c) s (bxT w a b c va vb vc) (joinO (joinO a b) c) true .nilIface := fun s W hW g1 g2 => by
            have := join_any a (joinO b c) va s W hI (S0.below hW) g1 g2 fa fy
            rwa [jR_of e4, e4, jE_of ia iy, errOf_zero, ← join_assoc] at this
          exact three_8 (ad := ad) a b c va vb vc w _ _ 0 0 cL ra rb rc J1 J2 _ _ _ ka kb (cells_join ia ib ka kb hA) hl hn kca kcb kcx (joinO (joinO a b) c) (by show a.A.length ≤ _; have := fa.n; omega) cXC cAY
end Go.Proofs.YtecmdlecfddeeaaDoor
