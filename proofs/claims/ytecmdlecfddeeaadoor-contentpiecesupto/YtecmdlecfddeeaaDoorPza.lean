/- Of all operations vellumlaw04.ContentPieces answers true. -/
import Derived.Test.YtecmdlecfddeeaaDoorPznull
import Derived.Test.YtecmdlecfddeeaaDoorPzflag0
import Derived.Test.YtecmdlecfddeeaaDoorPzflag1
import Derived.Test.YtecmdlecfddeeaaDoorPznum
import Derived.Test.YtecmdlecfddeeaaDoorPztext
namespace Go.Proofs.YtecmdlecfddeeaaDoor
open Go Go.RowKit Go.Lib
set_option linter.unusedVariables false

theorem pieces_any4 {I : List Nat} {ad : Nat → Addr} (o : Op5) (va : Value) (w : World) (hI : ∀ i ∈ IC, i ∈ I) (hS : Std I ad w) (ra : RN w va o.A) (fo : Fit o) :
    Calls Tryd.prog 8 #[opV o va] w fun r w' => r = .returned (.bool true) ∧ Below w.heap.size w w' := by
  have b0 := bx1_below w o va
  have S0 := hS.below b0
  have r0 := ra.below b0
  have cL := lives_any4 (bx1 w o va) hI S0
  have cRf : ∀ W, Below (bx1 w o va).heap.size (bx1 w o va) W → Calls Tryd.prog 10 #[opV o va] W fun r w' => r = .returned (.int .i64 (insE o)) ∧ Below W.heap.size W w' := fun W hW => ref_ins o va W (S0.below hW) (r0.below hW) fo
  cases h1 : insE o with
  | succ e =>
    rw [h1] at cRf
    exact pieces_1 (ad := ad) o va w e cL r0 (pco_one o fo.n) fo.n cRf fun W s hW h => op_no o s W hI (S0.below hW) h fo e h1
  | zero =>
    have io := ins_of h1
    rw [h1] at cRf
    have cOf := fun W s (hW : Below (bx1 w o va).heap.size (bx1 w o va) W) (h : RN W s o.A) => op_ok o s W hI (S0.below hW) h fo io
    have cRL := fun W => refLen4_any o va W io fo.t
    have hc := io.count
    rcases io.kind with ⟨hk, hv⟩ | ⟨hk, _⟩
    · have hl : lenO o = (scs o.t.data.toList).length := by unfold lenO; rw [if_pos hk]
      rw [hl] at cRL
      refine pieces_2 (ad := ad) o va w _ hk cL r0 (pco_one o fo.n) fo.n cRf (fun W s hW h => ?_) cRL ?_
      · have := cOf W s hW h
        unfold pieceV at this
        simp only [if_pos hk] at this
        exact this
      · obtain ⟨k, t, v, c, A⟩ := o
        simp only at hk hv hc
        subst hk hv hc
        rfl
    · have hl : lenO o = 1 := by unfold lenO; rw [if_neg (by omega)]
      rw [hl] at cRL
      have cOe : ∀ V, valP o.v = V → ∀ W s, Below (bx1 w o va).heap.size (bx1 w o va) W → RN W s o.A → Calls Tryd.prog 15 #[opV o s] W fun r w' => ∃ v', r = .returned (.tuple #[.iface 72 (.agg #[v', .string o.t, V]), .nilIface]) ∧ OwnA w' W.heap.size v' o.A ∧ Below W.heap.size W w' := fun V hV W s hW h => by
        have := cOf W s hW h
        unfold pieceV at this
        simp only [if_neg (show ¬ o.k = 1 by omega), hV] at this
        exact this
      have hop : ∀ P, o.v = P → (⟨2, o.t, P, 0, o.A⟩ : Op5) = o := fun P hP => by
        obtain ⟨k, t, v, c, A⟩ := o
        simp only at hk hP hc
        subst hk hP hc
        rfl
      have hval := io.val
      obtain ⟨⟨x, z, u⟩, hx⟩ : ∃ P, o.v = P := ⟨_, rfl⟩
      rw [hx] at hval
      rcases good_cases hval with ⟨rfl, rfl, rfl⟩ | ⟨rfl, rfl, rfl⟩ | ⟨rfl, rfl, rfl⟩ | ⟨rfl, rfl⟩ | ⟨rfl, rfl, _⟩
      · exact pieces_null (ad := ad) o va w hk hx cL r0 (pco_one o fo.n) fo.n cRf (cOe _ (by rw [hx]; rfl)) cRL (hop _ hx)
      · exact pieces_flag0 (ad := ad) o va w hk hx cL r0 (pco_one o fo.n) fo.n cRf (cOe _ (by rw [hx]; rfl)) cRL (hop _ hx)
      · exact pieces_flag1 (ad := ad) o va w hk hx cL r0 (pco_one o fo.n) fo.n cRf (cOe _ (by rw [hx]; rfl)) cRL (hop _ hx)
      · exact pieces_num (ad := ad) o va w _ hk hx cL r0 (pco_one o fo.n) fo.n cRf (cOe _ (by rw [hx]; rfl)) cRL (hop _ hx)
      · exact pieces_text (ad := ad) o va w _ hk hx cL r0 (pco_one o fo.n) fo.n cRf (cOe _ (by rw [hx]; rfl)) cRL (hop _ hx)
end Go.Proofs.YtecmdlecfddeeaaDoor
