/- vellumlaw04.lives. -/
import Derived.Test.YtecmdlecfddeeaaDoorCg
namespace Go.Proofs.YtecmdlecfddeeaaDoor
open Go Go.RowKit Go.Lib
set_option linter.unusedVariables false

abbrev tA : ByteArray := ⟨#[97, 195, 169, 226, 130, 172]⟩
abbrev tH : ByteArray := ⟨#[97, 195, 169]⟩
abbrev tR : ByteArray := ⟨#[226, 130, 172]⟩
abbrev tX : ByteArray := ⟨#[120]⟩
abbrev tB : ByteArray := ⟨#[98, 10]⟩
abbrev txO (t : ByteArray) : Op5 := ⟨1, t, z0, 0, []⟩
abbrev exO (t : ByteArray) : Op5 := ⟨2, t, z0, 0, []⟩
theorem ins_tx (t : ByteArray) (h1 : t.toList.isEmpty = false) (h2 : brk t.data.toList = t.size) : Ins (txO t) := ⟨Or.inl ⟨rfl, rfl⟩, h1, rfl, h2, chk_z0, rfl⟩
theorem ins_ex (t : ByteArray) (h1 : t.toList.isEmpty = false) (h2 : brk t.data.toList = t.size) (h3 : t.size ≤ 64) : Ins (exO t) := ⟨Or.inr ⟨rfl, h3⟩, h1, rfl, h2, chk_z0, rfl⟩
theorem fit_tx (k : Int) (t : ByteArray) (h : t.size ≤ 8388608) : Fit ⟨k, t, z0, 0, []⟩ := ⟨h, by show (0 : Nat) ≤ 1048576; decide, fun q hq => (by cases hq), by show (0 : Nat) ≤ 1048576; decide⟩
theorem iA : Ins (txO tA) := ins_tx _ (by rw [toList_data]; rfl) (by kernel_rfl)
theorem iH : Ins (txO tH) := ins_tx _ (by rw [toList_data]; rfl) (by kernel_rfl)
theorem iR : Ins (txO tR) := ins_tx _ (by rw [toList_data]; rfl) (by kernel_rfl)
theorem iB : Ins (txO tB) := ins_tx _ (by rw [toList_data]; rfl) (by kernel_rfl)
theorem iX : Ins (exO tX) := ins_ex _ (by rw [toList_data]; rfl) (by kernel_rfl) (by decide)
theorem scsA : scs tA.data.toList = [97, 233, 8364] := by kernel_rfl
theorem scsB : scs tB.data.toList = [98, 10] := by kernel_rfl
theorem posA : pos (scs tA.data.toList) 2 = 3 := by rw [scsA]; kernel_rfl
theorem extH : tA.extract 0 3 = tH := by kernel_rfl
theorem extR : tA.extract 3 tA.size = tR := by kernel_rfl
theorem catA : tH ++ tR = tA := by kernel_rfl
theorem newlB : newlO (txO tB) = 1 := by kernel_rfl
theorem lenX : lenO (exO tX) = 1 := rfl
theorem RN.val0 {w : World} {v : Value} (h : RN w v []) : ∃ p c, v = .slice p 0 c := by
  obtain ⟨p, c, h, _⟩ := h.row.val
  exact ⟨p, c, h⟩

set_option maxHeartbeats 4000000 in
set_option maxRecDepth 100000 in
theorem lives_any4 {I : List Nat} {a : Nat → Addr} (w : World) (hI : ∀ i ∈ IC, i ∈ I) (hS : Std I a w) :
    Calls Tryd.prog 9 #[] w fun e w' => e = .returned (.bool true) ∧ Below w.heap.size w w' := by
  have cC : Calls Tryd.prog 23 #[opV (txO tA) nilS, .int .i64 2] w fun r w' => ∃ s1 s2, r = .returned (.tuple #[opV (txO tH) s1, opV (txO tR) s2, .nilIface]) ∧ RN w' s1 [] ∧ RN w' s2 [] ∧ Below w.heap.size w w' := by
    have := cutO_ok (txO tA) nilS 2 w hI hS (RN.nil _) (fit_tx _ _ (by decide)) iA rfl (by decide) (by rw [scsA]; decide)
    have e1 : (txO tA).t.extract 0 (pos (scs (txO tA).t.data.toList) 2) = tH := by show tA.extract 0 (pos (scs tA.data.toList) 2) = tH; rw [posA, extH]
    have e2 : (txO tA).t.extract (pos (scs (txO tA).t.data.toList) 2) (txO tA).t.size = tR := by show tA.extract (pos (scs tA.data.toList) 2) tA.size = tR; rw [posA, extR]
    rw [e1, e2] at this
    exact this.mono fun r w' ⟨s1, s2, h1, h2, h3, _, h4⟩ => ⟨s1, s2, h1, own_RN h2, own_RN h3, h4⟩
  have cJ : Hid (∀ W s1 s2, Below w.heap.size w W → RN W s1 [] → RN W s2 [] → Calls Tryd.prog 26 #[opV (txO tH) s1, opV (txO tR) s2] W fun r w' => ∃ s1, r = .returned (.tuple #[opV (txO tA) s1, .bool true, .nilIface]) ∧ RN w' s1 [] ∧ Below W.heap.size W w') := fun W s1 s2 hW h1 h2 => by
    have := joinO_ok (txO tH) (txO tR) s1 s2 W hI (hS.below hW) h1 h2 (fit_tx _ _ (by decide)) (fit_tx _ _ (by decide)) iH iR rfl rfl rfl
    have e1 : (txO tH).t ++ (txO tR).t = tA := catA
    rw [e1] at this
    exact this.mono fun r w' ⟨s1, h1, h2, h4⟩ => ⟨s1, h1, own_RN h2, h4⟩
  have cL : Hid (∀ W, Below w.heap.size w W → Calls Tryd.prog 12 #[opV (exO tX) nilS] W fun r w' => r = .returned (.tuple #[.int .i64 1, .nilIface]) ∧ Below W.heap.size W w') := fun W hW => length_ok (exO tX) nilS W hI (hS.below hW) (RN.nil _) (fit_tx _ _ (by decide)) iX
  have cE : Hid (∀ W, Below w.heap.size w W → Calls Tryd.prog 13 #[opV (txO tB) nilS] W fun r w' => ∃ v', r = .returned (.tuple #[v', .nilIface]) ∧ (∃ g c, v' = .slice (some ⟨g, 0, none⟩) 2 c ∧ w'.cell? ⟨g, 6, none⟩ = some (.int .i32 10) ∧ 2 ≤ c) ∧ Below W.heap.size W w') := fun W hW => by
    refine (cellsO_any (txO tB) nilS W hI (hS.below hW) (RN.nil _) (fit_tx _ _ (by decide)) iB).mono fun r w' ⟨v', D, h1, h2, h3, h4⟩ => ⟨v', h1, ?_, h4⟩
    have hc : cellsOf (txO tB) = [(98, ⟨#[]⟩, z0, []), (10, ⟨#[]⟩, z0, [])] := by
      show mkC [] (scs tB.data.toList) = _
      rw [scsB]; rfl
    rw [hc] at h3
    have hl := forall2_len h3
    obtain ⟨d, hd⟩ : ∃ d, D[1]? = some d := ⟨_, List.getElem?_eq_getElem (by rw [hl]; decide)⟩
    obtain ⟨y, hy, hr⟩ := forall2_get h3 1 d hd
    obtain rfl : ((10, ⟨#[]⟩, z0, []) : C5) = y := by simpa using hy
    have hx := (cellsC_get D 1 d hd).1
    rw [hr.1] at hx
    rcases h2.2 with ⟨_, h0⟩ | ⟨g, cap, cur, rfl, h3', h4', h5, h6⟩
    · rw [hl] at h0; simp at h0
    · have := h2.cells (g := g) rfl 6 _ hx
      rw [Addr.add_lit] at this
      have hl2 : D.length = 2 := hl
      rw [hl2] at h5 ⊢
      exact ⟨g, cap, rfl, this, h5⟩
  have cN : Hid (∀ W, Below w.heap.size w W → Calls Tryd.prog 14 #[opV (txO tB) nilS] W fun r w' => r = .returned (.tuple #[.int .i64 1, .nilIface]) ∧ Below W.heap.size W w') := fun W hW => by
    have := newl_any (txO tB) nilS W hI (hS.below hW) (RN.nil _) (fit_tx _ _ (by decide)) iB
    rw [newlB] at this
    exact this
  have cO : Hid (∀ W s1, Below w.heap.size w W → RN W s1 [] → Calls Tryd.prog 15 #[opV (txO tH) s1] W fun r w' => ∃ v, r = .returned (.tuple #[.iface 67 v, .nilIface]) ∧ Below W.heap.size W w') := fun W s1 hW h1 => by
    refine (op_ok (txO tH) s1 W hI (hS.below hW) h1 (fit_tx _ _ (by decide)) iH).mono fun r w' ⟨v', h2, _, h4⟩ => ⟨.agg #[v', .string tH, .int .i64 (scs tH.data.toList).length], h2.trans ?_, h4⟩
    show Ending.returned (.tuple #[pieceV (txO tH) v', .nilIface]) = _
    unfold pieceV
    rw [if_pos rfl]
  have cS : Hid (∀ W s1, RN W s1 [] → Calls Tryd.prog 28 #[opV (txO tH) s1, opV (txO tH) s1] W fun r w' => r = .returned (.bool true) ∧ Below W.heap.size W w') := fun W s1 h1 => by
    have := sameC_any (txO tH) (txO tH) s1 s1 W h1.row h1.row (by decide) (by decide)
    rwa [decide_eq_true rfl] at this
  clear hS hI
  go_enter Tryd.func9, Tryd.ntmps9
  go_wp2_with fail
  refine cC.mono ?_; rintro r w1 ⟨s1, s2, rfl, r1, r2, b1⟩
  obtain ⟨p1, c1, rfl⟩ := r1.val0
  obtain ⟨p2, c2, rfl⟩ := r2.val0
  clear cC
  have ba : Below w1.heap.size w1 ((w1.alloc (.cells (opC (txO tH) (.slice p1 0 c1)) 26)).alloc (.cells (opC (txO tR) (.slice p2 0 c2)) 26)) := ((Below.refl _ _).alloc (Nat.le_refl _) _).alloc (by simp) _
  have X1 : BoxO ((w1.alloc (.cells (opC (txO tH) (.slice p1 0 c1)) 26)).alloc (.cells (opC (txO tR) (.slice p2 0 c2)) 26)) w1.heap.size (txO tH) (.slice p1 0 c1) := (BoxO.new w1 _ _).below ((Below.refl _ _).alloc (Nat.le_refl _) _)
  have X2 : BoxO ((w1.alloc (.cells (opC (txO tH) (.slice p1 0 c1)) 26)).alloc (.cells (opC (txO tR) (.slice p2 0 c2)) 26)) (w1.heap.size + 1) (txO tR) (.slice p2 0 c2) := by
    have := BoxO.new (w1.alloc (.cells (opC (txO tH) (.slice p1 0 c1)) 26)) (txO tR) (.slice p2 0 c2)
    rwa [World.size_alloc] at this
  have cj := cJ.out _ _ _ (b1.trans (ba.mono b1.size)) (r1.below ba) (r2.below ba)
  have b2 := b1.trans (ba.mono b1.size)
  have R1 := r1.below ba
  clear b1 ba r1 r2 cJ
  go_wp2_with fail
  refine cj.mono ?_; rintro r w2 ⟨s3, rfl, r3, hb3⟩
  obtain ⟨p3, c3, rfl⟩ := r3.val0
  have b3 := b2.trans (hb3.mono b2.size)
  have Y1 := X1.below hb3
  have Y2 := X2.below hb3
  have R2 := R1.below hb3
  have ba : Below w2.heap.size w2 (w2.alloc (.cells (opC (txO tA) (.slice p3 0 c3)) 26)) := (Below.refl _ _).alloc (Nat.le_refl _) _
  have b4 := b3.trans (ba.mono b3.size)
  have Z1 := Y1.below ba
  have Z2 := Y2.below ba
  have Z3 : BoxO (w2.alloc (.cells (opC (txO tA) (.slice p3 0 c3)) 26)) w2.heap.size (txO tA) (.slice p3 0 c3) := BoxO.new w2 _ _
  have R3 := R2.below ba
  have cl := cL.out _ b4
  clear X1 X2 R1 R2 Y1 Y2 cj hb3 b2 b3 cL ba r3
  go_wp2_with fail
  refine cl.mono ?_; rintro r w5 ⟨rfl, hb5⟩
  have b5 := b4.trans (hb5.mono b4.size)
  have Y1 := Z1.below hb5
  have Y2 := Z2.below hb5
  have Y3 := Z3.below hb5
  have R5 := R3.below hb5
  clear Z1 Z2 Z3 R3 cl hb5 b4
  go_wp2_with fail
  refine (cE.out _ b5).mono ?_; rintro r w6 ⟨v6, rfl, ⟨g6, c6, rfl, e6, h6⟩, hb6⟩
  have b6 := b5.trans (hb6.mono b5.size)
  have Z1 := Y1.below hb6
  have Z2 := Y2.below hb6
  have Z3 := Y3.below hb6
  have R6 := R5.below hb6
  clear Y1 Y2 Y3 R5 hb6 b5 cE
  go_wp2_with fail
  refine (cN.out _ b6).mono ?_; rintro r w7 ⟨rfl, hb7⟩
  have b7 := b6.trans (hb7.mono b6.size)
  have Y1 := Z1.below hb7
  have Y2 := Z2.below hb7
  have Y3 := Z3.below hb7
  have R7 := R6.below hb7
  have e7 := (hb7.cell (lt_of_cell e6)).trans e6
  obtain ⟨d0, d1, d2, d3, d4, d5, d6⟩ := Y1
  simp only [z0] at d0 d1 d2 d3 d4 d5 d6
  have co := cO.out _ _ b7 R7
  have HY : Hid (BoxO w7 w1.heap.size (txO tH) (.slice p1 0 c1)) := Z1.below hb7
  clear Z1 Z2 Z3 R6 hb7 b6 cN e6
  go_wp2_with fail
  refine co.mono ?_; rintro r w8 ⟨v8, rfl, hb8⟩
  have b8 := b7.trans (hb8.mono b7.size)
  obtain ⟨d0, d1, d2, d3, d4, d5, d6⟩ := HY.out.below hb8
  have f1 := (Y2.below hb8).d1
  have g1 := (Y3.below hb8).d1
  simp only [z0] at d0 d1 d2 d3 d4 d5 d6 f1 g1
  have cs := cS.out _ _ (R7.below hb8)
  have e8 := (hb8.cell (lt_of_cell e7)).trans e7
  clear Y2 Y3 R7 hb8 b7 cO e7 co HY
  have q1 := beq_key (x := tH) (y := tH) true (decide_eq_true rfl)
  have q2 := beq_key (x := tR) (y := tR) true (decide_eq_true rfl)
  have q3 := beq_key (x := tA) (y := tA) true (decide_eq_true rfl)
  go_wp2_with fail
  refine cs.mono ?_; rintro r w9 ⟨rfl, hb9⟩
  have b9 := b8.trans (hb9.mono b8.size)
  go_wp2
  go_ret
  exact ⟨rfl, b9⟩
end Go.Proofs.YtecmdlecfddeeaaDoor
